import Derived.Test.YtfiffndhehkapaaGreatDoorPack3
import Derived.Sort.OwnSortedInts
import Derived.Test.YtfiffndhehkapaaGreatDoorPack1
import Derived.Deep.RegionHeld
import Derived.Test.YtfiffndhehkapaaGreatDoorPack2
import Derived.Lib.SliceRun
import Derived.Shelf.Slices.Equal
import Derived.Shelf.Slices.Empties2
import Derived.Shelf.Slices.Clone
import Derived.Shelf.Slices.Cells
import Derived.Shelf.Spec.SlicesInsert
import Derived.Shelf.Spec.SlicesInsertGrow
import Derived.Laws.StructEq
namespace Go.Proofs.YtfiffndhehkapaaGreatDoor
set_option maxHeartbeats 4000000
set_option maxRecDepth 100000
open Go.RowKit Go.Maps Go.Shelf
theorem ZvP {B:Nat} {v:Value} {l:List Int} (w:World) (h:ZaA w B v l) (hl:l.length<=10000000):
 Calls Tryz.prog 68 #[v] w fun e w'=>e=.returned (.tuple #[])∧ZaA w' B v (l.mergeSort fun x y=>decide (x<=y))∧w.grownBy w' v.ownBlock:=by
 have h0:=h
 have hg0:w.grownBy w v.ownBlock:=⟨rfl,rfl,rfl,Nat.le_refl _,fun _ _ _=>rfl⟩
 rcases h.2 with ⟨rfl,hn⟩ | ⟨g,cap,cur,rfl,hb,hg,hnc,hcm,hcs,ht⟩
 ·have e:l=[]:=List.eq_nil_of_length_eq_zero hn
  subst e
  have hc:=Any.slices_Sort_int_none ZBs none 0 w
  refine hc.mono ?_
  rintro e w' ⟨rfl,rfl⟩
  exact⟨rfl,by simpa using h0,hg0⟩
 ·by_cases e:l=[]
  ·subst e
   have hc:=Any.slices_Sort_int_none ZBs (some ⟨g,0,none⟩) cap w
   refine hc.mono ?_
   rintro e w' ⟨rfl,rfl⟩
   exact⟨rfl,by simpa using h0,hg0⟩
  ·have hH:Sort.Holds (Value.int .i64) w g 0 l.toArray:=holds_of_blockI hg (by rw[Nat.mul_one] at ht;exact ht)
   have hc:=Any.slices_Sort_int ZBs g 0 cap l w hH (Array.getElem?_eq_some_iff.1 hg).1 (by omega)
   refine hc.mono ?_
   rintro e w' ⟨rfl,n,os,rfl⟩
   refine⟨rfl,?_,grownBy_sortedI _⟩
   have ho:=ownsRow_sortedI (n:=n) (os:=os) (ss:=l) (ts:=l.mergeSort fun x y=>decide (x<=y)) (by simp) hb hg hnc hcm hcs
   unfold ZaA
   rw[show(l.mergeSort fun x y=>decide (x<=y)).length=l.length by simp]
   exact ho
structure Met (f:Int->Option Nat) (left:Lit->Bool) (l:List Int):Prop where
 mem:∀ p,I64 p->(p ∈ l↔(f p).isSome=true∧left (.int .i64 p)=false)
 nd:l.Nodup
 i:∀ p ∈ l,I64 p
theorem Met.step {f:Int->Option Nat} {left:Lit->Bool} {l:List Int} (h:Met f left l) {x:Int} (hx:I64 x) (hl:left (.int .i64 x)=true) (hf:(f x).isSome=true):Met f (fun z=>left z && !z.sameKey (.int .i64 x)) (l++[x]):=by
 refine⟨fun p hp=>?_,?_,fun p hp=>?_⟩
 ·rw[List.mem_append,h.mem p hp,List.mem_singleton]
  by_cases e:p=x
  ·subst e
   have hs:(Lit.int .i64 p).sameKey (.int .i64 p)=true:=WideAt.sameKey_self (by first | exact trivial | simp[WideAt.IsKeyLit])
   simp[hs,hf]
  ·have hs:(Lit.int .i64 p).sameKey (.int .i64 x)=false:=sameKey_ne (by intro h;injection h with _ h;exact e h)
   simp[hs,e]
 ·rw[List.nodup_append]
  refine⟨h.nd,by simp,fun a ha b hb=>?_⟩
  rw[List.mem_singleton.1 hb]
  rintro rfl
  have:=((h.mem a hx).1 ha).2
  rw[hl] at this
  cases this
 ·rcases List.mem_append.1 hp with hp | hp
  ·exact h.i p hp
  ·rw[List.mem_singleton.1 hp];exact hx
theorem Met.done {f:Int->Option Nat} {left:Lit->Bool} {l:List Int} (h:Met f left l) (hl:∀ k,left k=false) {d:Dir} (hd:ZbK d) (hm:∀ p ∈ d,I64 p.1) (hf:∀ p,I64 p->(f p).isSome=(look d p).isSome):(l.mergeSort fun x y=>decide (x<=y))=d.map Prod.fst:=by
 have hs:(l.mergeSort fun x y=>decide (x<=y)).Pairwise (fun a b=>decide (a<=b)=true):=List.pairwise_mergeSort (fun a b c h1 h2=>by simp only [decide_eq_true_eq] at *;omega) (fun a b=>by simp only [Bool.or_eq_true,decide_eq_true_eq];omega) l
 have hp:=List.mergeSort_perm l fun x y=>decide (x<=y)
 have hnd:(l.mergeSort fun x y=>decide (x<=y)).Nodup:=hp.nodup_iff.2 h.nd
 refine ZiD ?_ (ZiC hd) fun x=>?_
 ·refine(hs.and hnd).imp fun {a b} hab=>?_
  have h1:=of_decide_eq_true hab.1
  have h2:=hab.2
  omega
 ·rw[hp.mem_iff,List.mem_map]
  constructor
  ·intro hx
   have h1:=((h.mem x (h.i x hx)).1 hx).1
   rw[hf x (h.i x hx)] at h1
   obtain⟨y,hy⟩:=Option.isSome_iff_exists.1 h1
   exact⟨(x,y),(Zdf hd x y).1 hy,rfl⟩
  ·rintro⟨p,hpd,rfl⟩
   have hi:=hm p hpd
   have h1:look d p.1=some p.2:=(Zdf hd p.1 p.2).2 hpd
   exact(h.mem p.1 hi).2 ⟨by rw[hf p.1 hi,h1];rfl,hl _⟩
theorem Zkl {w:World} {b n:Nat} {D:DataW Unit} (h:w.ownsMap Tryz.prog 3 Zeb b n D):Maps.size D<=n:=by
 obtain⟨es,clock,hb,F,hs,rfl⟩:=h
 rw[size_eq,length_sorted]
 simpa using hs
theorem ZqM {w w':World} {b r n cnt:Nat} {D:DataW Unit} {left:Lit->Bool} (h:w.ranges Tryz.prog 3 Zeb b r n D left cnt) (hb:w'.heap[b]?=w.heap[b]?) (hr:w'.heap[r]?=w.heap[r]?):w'.ranges Tryz.prog 3 Zeb b r n D left cnt:=by
 obtain⟨es,clock,since,seen,c0,h1,F,hs,hD,h2,rest⟩:=h
 exact⟨es,clock,since,seen,c0,hb.trans h1,F,hs,hD,hr.trans h2,rest⟩
theorem Zkm {F:Nat->Prop} {p:Nat} {L:Lay} {d:Dk} {u:Int} {N:Nat} (w:World) (h:Zbg F w p L d u N) (hok:OkD d) (hN:N<=1000000):
 Calls Tryz.prog 29 #[ptr p] w fun e w'=>∃ v,e=.returned v∧ZaA w' w.heap.size v ((Zbo d).map Prod.fst)∧Below w.heap.size w w':=by
 obtain⟨⟨-,-,c2,-,-,-⟩,-⟩:=h.cells
 obtain⟨D,hown,hrd⟩:=h.rest.now
 have HOW:=ZZ hown
 have HSZ:Hid (Maps.size D<=N):=ZZ (Zkl hown)
 have HLT:Hid (L.now<w.heap.size):=ZZ h.rest.now.lt
 have HRD:Hid (∀ q,I64 q->Maps.has D (.int .i64 q)=(look (Zbo d) q).isSome):=ZZ (fun q hq=>by rw[hrd.has hq];cases look (Zbo d) q <;> rfl)
 have HDN:Hid (∀ left l,Met (look (Zbo d)) left l->(∀ k,left k=false)->(l.mergeSort fun x y=>decide (x<=y))=(Zbo d).map Prod.fst):=ZZ (fun left l hm hl=>hm.done hl hok.dir.rise (fun p hp=>Zhr (hok.dir.may p hp).1) (fun _ _=>rfl))
 clear h hown hrd hok
 go_enter Tryz.func29,Tryz.ntmps29
 go_wp2_with(first
  | (at_range;refine wpList_range_own _ rfl _ 66 rfl 3 116 Zke Tryz.underlying66 Zeb L.now N D rfl HOW.out ?_;intro w0 hrg0 hg0 hs0)
  | go_in)
 go_frame
 go_loopw[3] (fun v wr=>∃ (left:Lit->Bool) (cnt:Nat) (l:List Int),Hid (wr.ranges Tryz.prog 3 Zeb L.now w.heap.size N D left cnt)∧cnt+l.length<=Maps.size D∧Hid (ZaA wr (w.heap.size+1) v l)∧Hid (Met (look (Zbo d)) left l)∧Hid (Below w.heap.size w wr∧w.heap.size+1<=wr.heap.size))
  (fun _ wr=>wr.rangeLeft L.now w.heap.size)
 case atStart=>
  refine⟨_,_,[],ZZ hrg0,by simp,ZZ (ZaA.nil _ _),ZZ ⟨fun q hq=>?_,List.nodup_nil,by simp⟩,ZZ ⟨⟨hg0.os,hg0.tape,hg0.output,hg0.size,fun k hk=>hg0.block k hk (by simp)⟩,by omega⟩⟩
  rw[HRD.out q hq]
  cases look (Zbo d) q <;> simp
 case round=>
  obtain⟨left,cnt,l,HRG,hcl,HO,HM,HB⟩:=hrel
  go_wp2_with(first
   | (at_next;refine wpList_next_ranges _ rfl _ rfl 3 Zke Zeb (Value.int .i64) (fun b:Nat=>ptr b) (fun key kl hk=>by obtain⟨x,rfl,_⟩:=Maps.keyOf_int_inv Tryz.underlying3 hk;exact⟨x,rfl⟩) (fun v y hv=>by obtain⟨c,rfl,_⟩:=Zkf hv;exact⟨c,rfl⟩) L.now w.heap.size N _ _ _ rfl HRG.out ?_ ?_)
   | go_in)
  ·intro hc0 hl0
   have HL0:=ZZ hl0
   have hll:l.length<=10000000:=by have:=HSZ.out;omega
   have HS:=ZZ (ZvP _ HO.out hll)
   clear hc0 hl0
   go_wp2_with fail
   refine HS.out.mono ?_
   rintro e W1 ⟨rfl,ho1,hg1⟩
   have HBW:Hid (Below w.heap.size w W1):=ZZ (HB.out.1.grown hg1 HB.out.1.size (fun k hk=>by have:=(World.ownsRow.lt HO.out k hk).1;omega))
   have HO1:=ZZ ho1
   clear ho1 hg1
   go_wp2
   go_ret
   refine⟨_,rfl,?_,HBW.out⟩
   rw[<-HDN.out _ _ HM.out HL0.out]
   exact HO1.out.mono (by omega)
  ·intro x c kl yd yp w1 cnt1 hkey hlx hv hat hrg1 hlt hg1 hs1 hen
   obtain⟨x',ex,rfl,hwx⟩:=Maps.keyOf_int_inv Tryz.underlying3 hkey
   cases ex
   have HI:=ZZ (Zce hwx)
   have HF:Hid ((look (Zbo d) x).isSome=true):=ZZ (by rw[<-HRD.out x HI.out];exact has_true_of_atKey hat)
   have HM1:=ZZ (HM.out.step HI.out hlx HF.out)
   have HRG1:=ZZ hrg1
   have HO1:Hid (ZaA w1 (w.heap.size+1) _ l):=ZZ (World.ownsRow.kept HO.out hg1 (.inr (fun e=>by have:=(World.ownsRow.lt HO.out _ e).1;omega)))
   have HB1:Hid (Below w.heap.size w w1∧w.heap.size+1<=w1.heap.size):=ZZ ⟨HB.out.1.grown hg1 HB.out.1.size (fun k hk=>by have:=Option.some.inj hk;omega),by have:=HB.out.2;omega⟩
   have HLTC:=ZZ hlt
   have hlim:l.length<=1000000∧cnt1+(l++[x]).length<=Maps.size D:=by
    have:=HSZ.out
    simp only [List.length_append,List.length_singleton]
    omega
   have HLM:=ZZ hlim
   clear hkey hlx hv hat hrg1 hlt hg1 hs1 hwx hlim hcl
   go_wp2_with(at_builtin;refine(fun(h:True->_)=>h trivial) ?_)
   intro _
   refine ZhX w1 rfl _ _ rfl (w.heap.size+1) u3 l rfl HO1.out x rfl HLM.out.1 HB1.out.2 ?_
   intro v2 w2 ho2 hb2
   have HO2:=ZZ ho2
   have HRG2:=ZZ (ZqM HRG1.out (hb2.block _ (by have:=HLT.out;omega)) (hb2.block _ (by omega)))
   have HB2:Hid (Below w.heap.size w w2∧w.heap.size+1<=w2.heap.size):=ZZ ⟨HB1.out.1.trans (hb2.mono (by omega)),by have:=HB1.out.2;have:=hb2.size;omega⟩
   clear ho2 hb2
   go_wp2
   go_roundw
   case rel=>exact⟨_,cnt1,l++[x],HRG2,HLM.out.2,HO2,HM1,HB2⟩
   case measure=>rw[HRG2.out.left_eq,HRG.out.left_eq];exact HLTC.out
theorem Zbg.synced {F:Nat->Prop} {w w1:World} {p:Nat} {L:Lay} {d:Dk} {u:Int} {N:Nat} (h:Zbg F w p L d u N) (hb:Below w.heap.size w w1) (hs:w1.heap.size=w.heap.size+1) (hm:Zer w1 w.heap.size N (fun n=>(look (Zbo d) n).map L.ps)):
 Zbg (Gr F w w1) ((w1.setCell ⟨p,3,none⟩ (.map (some w.heap.size))).setCell ⟨p,4,none⟩ (.slice none 0 0)) p { L with kept:=w.heap.size,wv:=.slice none 0 0,cs:=[] } { d with kept:=Zbo d,waits:=[] } u N:=by
 have h1:=h.more hb
 have h0:=h1.rest
 have hk:∀ k,k≠p->((w1.setCell ⟨p,3,none⟩ (.map (some w.heap.size))).setCell ⟨p,4,none⟩ (.slice none 0 0)).heap[k]?=w1.heap[k]?:=fun k hne=>by
  rw[Below.heap_setCell _ _ _ _ hne,Below.heap_setCell _ _ _ _ hne]
 have hr:=h0.keep h1.head (fun k _ hne=>hk k hne)
 refine⟨(h1.head.set 3 _).set 4 _,⟨hr.now,hm.keep (hk _ (by have:=h.lt p h.fh;show w.heap.size≠p;omega)),World.ownsRow_nil _ _ _ _,rfl,(fun i c v hi=>by simp at hi),hr.file,hr.psn,hr.vsn,?_,hr.fn,.inr ⟨Nat.le_refl _,by show w.heap.size<_;omega⟩,(fun g hg=>by cases hg),hr.fp,hr.fv⟩,h1.fh,fun k hk=>?_⟩
 ·have:=h.rest.now.lt
  show L.now≠w.heap.size
  omega
 ·have:=h1.lt k hk
  simpa using this
theorem ZqN {F:Nat->Prop} {p:Nat} {d:Dk} {N T:Nat} (w:World) (h:Dsk F w p d N T):
 Calls Tryz.prog 108 #[ptr p] w fun e w'=>ZiO F w p (ZaP d).1 (ZaP d).2 (N+2) T e w':=by
 have HD:=ZZ h
 obtain⟨L,h,hok,hbn,hrm,hpw⟩:=h
 have H:=ZZ h
 have HOK:=ZZ hok
 have HBN:=ZZ hbn
 have HI:=ZZ (And.intro hrm hpw)
 have HO:=ZZ (ZoO w h)
 obtain⟨⟨-,-,c2,c3,c4,-⟩,-,f3,f4,-⟩:=h.cells
 have HC:=ZZ (Zty h.rest.now)
 clear hok hbn hrm hpw
 unfold ZaP
 by_cases h0:d.power=0
 ·rw[if_pos h0]
  rw[h0] at HO
  clear h0 h
  go_enter Tryz.func108,Tryz.ntmps108
  go_wp2_with fail
  refine HO.out.mono ?_
  rintro e w' ⟨rfl,rfl⟩
  go_wp2
  go_ret
  exact ZiO.same HD.out (by omega) zL
 rw[if_neg h0]
 have e0:(d.power != 0)=true:=by simpa using h0
 rw[e0] at HO
 clear h0 e0 h
 go_enter Tryz.func108,Tryz.ntmps108
 go_wp2_with fail
 refine HO.out.mono ?_
 rintro e w' ⟨rfl,rfl⟩
 go_wp2_with fail
 refine HC.out.mono ?_
 rintro e W1 ⟨rfl,hm1,hs1,hb1⟩
 have HD1:=ZZ (H.out.synced hb1 hs1 hm1)
 have HX:=ZZ (H.out.more hb1)
 have HB1:=ZZ hb1
 obtain⟨⟨-,-,-,k3,k4,-⟩,-,j3,j4,-⟩:=HX.out.cells
 obtain⟨va,vn,vc,hvs⟩:=Zjr HX.out.rest.row
 rw[hvs] at k4
 have HON1:Hid (Zas F w' ((W1.setCell ⟨p,3,none⟩ (.map (some w'.heap.size))).setCell ⟨p,4,none⟩ (.slice none 0 0))):=ZZ (((Zas.ofBelow hb1).setCell 3 (fun _=>H.out.fh) _).setCell 4 (fun _=>H.out.fh) _)
 obtain⟨W2,hW2⟩:∃ W2,W2=(W1.setCell ⟨p,3,none⟩ (.map (some w'.heap.size))).setCell ⟨p,4,none⟩ (.slice none 0 0):=⟨_,rfl⟩
 rw[<-hW2] at HD1 HON1
 have HW2:=ZZ hW2
 have HS1:=ZZ hs1
 clear c2 c3 c4 f3 f4 hm1 hs1 hb1 hvs hW2
 go_upto_region 5 with fail
 rw[<-HW2.out]
 clear HW2 k3 k4 j3 j4
 go_wp2_with fail
 refine(Zff W2 HD1.out HI.out.2).mono ?_
 rintro e W4 ⟨rfl,hd4,hon4⟩
 go_wp2
 go_ret
 refine⟨rfl,_,⟨_,hd4.mono (by omega),Zsj (fs:=d.files) HOK.out.dir HOK.out.keep,⟨by have:=HBN.out.files;show d.files.length<=_;omega,?_,HBN.out.bytes⟩,HI.out.1,Zgd HI.out.2⟩,HON1.out.trans hon4 (fun k hk hf=>?_),fun k hk=>?_⟩
 ·have h1:=HBN.out.names
  have h2:=Zht d d.waits.length
  rw[Zga] at h2
  show(Zbo d).length+0<=_
  omega
 ·rcases hf with hf | hf
  ·exact hf
  ·omega
 ·rcases hk with hk | hk
  ·exact .inl hk
  ·exact .inr hk.1
open Go.RowKit
theorem ZvQ (v:Value) (l:List UInt8) (w:World) (hr:Rd w v l) (hlim:l.length<=70368744177664):
 Calls Tryz.prog 184 #[v] w fun e w'=>∃ v',e=.returned v'∧Own w' w.heap.size v' l∧Below w.heap.size w w':=by
 obtain⟨i0,hi,hz0,hz1,hz2⟩:=info_parts Zni
 have HR:=ZZ hr
 obtain⟨ao,cap,rfl,hlc,hcm,hn0,hao⟩:=hr
 have HA:=ZZ hao
 have HN:=ZZ hn0
 clear hao hn0
 go_enter Tryz.func184,Tryz.ntmps184
 go_wp2_with(at_make;refine wpList_make_own _ rfl _ _ 53 rfl w.heap.size 5 i0 (.int .u8 0) 1 Tryz.underlying53 hi hz0 hz1 _ _ _ (l.length+10) rfl rfl (by omega) (by rw[hz2];omega) (by unfold maxLen;omega) zL ?_)
 intro w1 hown hgrow
 have hb1:Below w.heap.size w w1:=(Below.refl _ _).grown hgrow zL (fun k hk=>by cases hk)
 obtain⟨ao',cap',hv',_,_,_,hao'⟩:=HR.out.below hb1 zL
 simp only [Value.slice.injEq] at hv'
 obtain⟨rfl,_,rfl⟩:=hv'
 have HA1:=ZZ hao'
 have HB:=ZZ hb1
 have HG:=ZZ hgrow
 clear hao' hb1 hgrow HA
 go_wp2_with(at_builtin;refine wpList_append_fits_any _ rfl _ _ 53 rfl w.heap.size 5 i0 1 Tryz.underlying53 hi hz1 w.heap.size 0 (l.length+10) [] rfl hown ao l.length cap (Lib.byteCells l) rfl (by rw[Zbr,Nat.mul_one]) (fun e=>⟨by have:=HN.out e;omega,HN.out e⟩) (Rd.cells HA1.out) (ZdA l) (by omega) ?_)
 intro w2 hown2 hgrow2
 have hb2:Below w.heap.size w w2:=HB.out.grown hgrow2 (by have:=HB.out.size;omega) (fun k hk=>by simp at hk;omega)
 have HB2:=ZZ hb2
 have HO:=ZZ hown2
 clear hb2 hgrow2 hown2 hown
 go_wp2
 go_ret
 exact⟨_,rfl,Own.mk' HO.out (by simp) (by simp),HB2.out⟩
theorem ZBu (y:Nat):bits .or .u8 ((y:Int) % 256) 128=(y:Int) % 128+128:=by
 rw[Lib.u8_or128_any _ (by omega) (by omega)]
 omega
theorem Own.snoc {w:World} {B:Nat} {v:Value} (l pre:List UInt8) (a:Nat) (ha:a<256) {n:Nat} {x:Int} (h:w.ownsRow B 5 1 v n (Lib.byteCells (l++pre)++[Value.int .u8 x])) (hn:n=l.length+pre.length+1) (hx:x=(a:Int)):Own w B v (l++(pre++[a.toUInt8])):=by
 subst hx
 refine Own.mk' h (by rw[hn];simp;omega) ?_
 rw[<-List.append_assoc,Lib.byteCells_snoc _ ha]
theorem Zhu (v:Value) (l:List UInt8) (u:Nat) (w:World) (hr:Rd w v l) (hlim:l.length<=70368744177664) (hu:u<18446744073709551616):
 Calls Tryz.prog 185 #[v,.int .u64 (u:Int)] w fun e w'=>∃ v',e=.returned v'∧Own w' w.heap.size v' (l++Lib.uvarint u)∧Below w.heap.size w w':=by
 obtain⟨i0,hi,hz0,hz1,hz2⟩:=info_parts Zni
 have hlen:=Lib.uvarint_length64 hu
 have HC:=ZZ (ZvQ v l w hr hlim)
 have HU:=ZZ hu
 clear hr hu
 go_enter Tryz.func185,Tryz.ntmps185
 go_wp2_with fail
 refine HC.out.mono ?_
 rintro e w0 ⟨v0,rfl,hown0,hb0⟩
 have HO0:=ZZ hown0
 have HB0:=ZZ hb0
 clear hown0 hb0 HC
 go_wp2
 go_loopw[1,5] (fun vu vb wr=>∃ (y:Nat) (pre:List UInt8),vu=.int .u64 (y:Int)∧Hid (y<=u∧Lib.uvarint u=pre++Lib.uvarint y)∧Hid (Own wr w.heap.size vb (l++pre))∧Hid (Below w.heap.size w wr))
  (fun vu _ _=>(intOf vu).toNat)
 case atStart=>exact⟨u,[],rfl,⟨Nat.le_refl _,rfl⟩,by rw[List.append_nil];exact HO0.out,HB0.out⟩
 case round=>
  obtain⟨y,pre,rfl,hys,hown1,hnx⟩:=hrel
  have hpl:pre.length+(Lib.uvarint y).length<=10:=by
   have h2:=congrArg List.length hys.out.2
   rw[List.length_append] at h2
   omega
  have hyp:=Lib.uvarint_pos y
  have hsz:=hnx.out.size
  by_cases h128:128<=y
  ·have hor:=ZBu y
   go_wp2_with(at_builtin;refine wpList_append_own _ rfl _ _ 53 rfl w.heap.size 5 i0 (.int .u8 0) 1 1 Tryz.underlying53 hi hz0 hz1 hz2 rfl (by decide) _ _ _ rfl (World.ownsRow.alloc hown1.out _) ⟨wr.heap.size,0,none⟩ 1 1 [Value.int .u8 ((y % 128+128:Nat):Int)] rfl rfl ?c1 ?c2 ?c3 ?c4 ?c5 ?_)
   case c1=>
    intro j u hj
    match j,hj with
    | 0,hj=>simp at hj;subst hj;simp[Addr.add]
   case c2=>intro u hu;simp at hu;subst hu;rfl
   case c3=>unfold maxLen;simp;omega
   case c4=>simp;omega
   case c5=>simp;omega
   intro v' w1 hown' hgrow _
   have hnx1:Below w.heap.size w w1:=(hnx.out.alloc (by omega) _).grown hgrow (by simp;omega) (fun k hk=>(World.ownsRow.lt hown1.out k hk).1)
   have HO:=ZZ (Own.snoc l pre (y % 128+128) (by omega) hown' (by simp) (by omega))
   have HB:=ZZ hnx1
   clear hown' hnx1 hgrow
   go_wp2
   go_roundw
   case rel=>exact⟨y / 128,pre++[(y % 128+128).toUInt8],by go_num,⟨by have:=hys.out.1;omega,by rw[hys.out.2,Lib.uvarint_big h128];simp⟩,HO,HB⟩
   case measure=>simp[intOf];omega
  ·have hsm:Lib.uvarint y=[y.toUInt8]:=Lib.uvarint_small (by omega)
   have HS:=ZZ hsm
   clear hsm
   go_wp2_with(at_builtin;refine wpList_append_own _ rfl _ _ 53 rfl w.heap.size 5 i0 (.int .u8 0) 1 1 Tryz.underlying53 hi hz0 hz1 hz2 rfl (by decide) _ _ _ rfl (World.ownsRow.alloc hown1.out _) ⟨wr.heap.size,0,none⟩ 1 1 [Value.int .u8 (y:Int)] rfl rfl ?c1 ?c2 ?c3 ?c4 ?c5 ?_)
   case c1=>
    intro j u hj
    match j,hj with
    | 0,hj=>simp at hj;subst hj;simp[Addr.add]
   case c2=>intro u hu;simp at hu;subst hu;rfl
   case c3=>unfold maxLen;simp;omega
   case c4=>simp;omega
   case c5=>simp;omega
   intro v' w1 hown' hgrow _
   have hnx1:Below w.heap.size w w1:=(hnx.out.alloc (by omega) _).grown hgrow (by simp;omega) (fun k hk=>(World.ownsRow.lt hown1.out k hk).1)
   have HO:=ZZ (Own.snoc l pre y (by omega) hown' (by simp) rfl)
   have HB:=ZZ hnx1
   clear hown' hnx1 hgrow
   go_wp2
   go_ret
   refine⟨v',rfl,?_,HB.out⟩
   rw[hys.out.2,HS.out]
   exact HO.out
def ZtI (l:List UInt8) (n:Int):List UInt8:=if 0<=n∧n<4611686018427387904 then l++Lib.uvarint n.toNat else l
theorem ZeD (v:Value) (l:List UInt8) (n:Int) (w:World) (hr:Rd w v l) (hlim:l.length<=70368744177664):
 Calls Tryz.prog 133 #[v,.int .i64 n] w fun e w'=>∃ v',e=.returned v'∧Own w' w.heap.size v' (ZtI l n)∧Below w.heap.size w w':=by
 by_cases h:0<=n∧n<4611686018427387904
 ·obtain⟨h0,h1⟩:=h
  have HE:Hid (ZtI l n=l++Lib.uvarint n.toNat):=if_pos ⟨h0,h1⟩
  have HC:=ZZ (Zhu v l n.toNat w hr hlim (by omega))
  have en:((n.toNat:Nat):Int)=n:=Int.toNat_of_nonneg h0
  rw[en] at HC
  clear en hr
  go_enter Tryz.func133,Tryz.ntmps133
  go_wp2_with fail
  refine HC.out.mono ?_
  rintro e w' ⟨v',rfl,ho,hb⟩
  have HO:=ZZ ho
  have HB:=ZZ hb
  clear ho hb HC
  go_wp2
  go_ret
  exact⟨v',rfl,by rw[HE.out];exact HO.out,HB.out⟩
 ·have HE:Hid (ZtI l n=l):=if_neg h
  have HC:=ZZ (ZvQ v l w hr hlim)
  clear hr
  by_cases h0:n<0
  all_goals
   go_enter Tryz.func133,Tryz.ntmps133
   go_wp2_with fail
   refine HC.out.mono ?_
   rintro e w' ⟨v',rfl,ho,hb⟩
   have HO:=ZZ ho
   have HB:=ZZ hb
   clear ho hb HC
   go_wp2
   go_ret
   exact⟨v',rfl,by rw[HE.out];exact HO.out,HB.out⟩
theorem Zci (v:Value) (l:List UInt8) (n:Int) (w:World) (hr:Rd w v l) (hlim:l.length<=70368744177664) (h0:-9223372036854775808<=n) (h1:n<=9223372036854775807):
 Calls Tryz.prog 143 #[v,.int .i64 n] w fun e w'=>∃ v',e=.returned v'∧Own w' w.heap.size v' (l++Lib.uvarint (Lib.zigzag n))∧Below w.heap.size w w':=by
 have HC:=ZZ (Zhu v l (Lib.zigzag n) w hr hlim (Lib.zigzag_lt h0 h1))
 have HZ:=ZZ (Zzz n w h0 h1)
 generalize Lib.zigzag n=z at *
 clear hr h0 h1
 go_enter Tryz.func143,Tryz.ntmps143
 go_wp2_with fail
 refine HZ.out.mono ?_
 rintro e w' ⟨rfl,rfl⟩
 go_wp2_with fail
 refine HC.out.mono ?_
 rintro e w' ⟨v',rfl,ho,hb⟩
 have HO:=ZZ ho
 have HB:=ZZ hb
 clear ho hb HC HZ
 go_wp2
 go_ret
 exact⟨v',rfl,HO.out,HB.out⟩
def Cnt (l:List UInt8) (c:Nat):Prop:=
 (c=0∧∀ j,j<10->j<l.length->128<=(l.getD j 0).toNat)∨
 (1<=c∧c<=10∧c<=l.length∧(∀ j,j+1<c->128<=(l.getD j 0).toNat)∧(l.getD (c-1) 0).toNat<128)
theorem ZvR (v:Value) (l:List UInt8) (w:World) (hr:Rd w v l):
 Calls Tryz.prog 223 #[v] w fun e w'=>∃ c:Nat,e=.returned (.int .i64 (c:Int))∧Cnt l c∧w'=w:=by
 obtain⟨ao,cap,rfl,hlc,hcm,hn0,hao⟩:=hr
 clear hn0
 have hml:(l.length:Int)<=9223372036854775807:=by unfold maxLen at hcm;omega
 by_cases h10:(l.length:Int)<=10
 all_goals
  go_enter Tryz.func223,Tryz.ntmps223
  go_wp2
  go_loop [7] (fun i=>∃ k:Nat,i=.int .i64 k∧k<=10∧k<=l.length∧Hid (∀ j,j<k->128<=(l.getD j 0).toNat)) (fun i=>10-(intOf i).toNat)
  case atStart=>exact⟨0,rfl,by omega,by omega,fun j hj=>by omega⟩
  case round=>
   obtain⟨k,rfl,hk10,hkl,hall⟩:=hrel
   by_cases hlt:k<10∧k<l.length
   ·obtain⟨hlt,hlt'⟩:=hlt
    rcases hao with hao | ⟨b,off,rfl,hc⟩
    ·subst hao;simp at hlt'
    ·have hck:=hc k hlt'
     clear hc
     obtain⟨y,hy⟩:∃ y,y=(l.getD k 0).toNat:=⟨_,rfl⟩
     rw[<-hy] at hck
     have HY:Hid (y=(l.getD k 0).toNat):=hy
     clear hy
     by_cases hyb:(y:Int)<128
     ·go_wp2
      go_ret
      refine⟨k+1,ZeX (by omega),.inr ⟨by omega,by omega,by omega,fun j hj=>hall.out j (by omega),?_⟩,rfl⟩
      rw[Nat.add_sub_cancel,<-HY.out]
      omega
     ·go_wp2
      go_round
      case rel=>
       refine⟨k+1,by go_num,by omega,by omega,fun j hj=>?_⟩
       by_cases e:j=k
       ·rw[e,<-HY.out];omega
       ·exact hall.out j (by omega)
      case measure=>simp[intOf];omega
   ·go_wp2
    go_ret
    exact⟨0,rfl,.inl ⟨rfl,fun j h1 h2=>hall.out j (by omega)⟩,rfl⟩
theorem ZtJ {l:List UInt8} (h:Cnt l 0):Zah l=(0,0):=by
 rcases h with ⟨_,h⟩ | h
 ·unfold Zah
  rw[Zng 10 l h]
 ·omega
theorem Znz {l:List UInt8} {c:Nat} (h:Cnt l (c+1)):c<10∧c<l.length∧(l.getD c 0).toNat<128∧
 dec 10 l=if 0<c∧(l.getD c 0).toNat=0 then none else some (val (l.take (c+1)),c+1):=by
 rcases h with h | ⟨h1,h2,h3,h4,h5⟩
 ·omega
 ·have h5':(l.getD c 0).toNat<128:=by simpa using h5
  exact⟨by omega,by omega,h5',Zvl c 10 l (by omega) (by omega) (fun j hj=>h4 j (by omega)) h5'⟩
theorem ZgL (l:List UInt8) (k:Nat) (h:k<=l.length):val (l.take k)<128 ^ k:=by
 have:=Zzl (l.take k)
 rwa [List.length_take,Nat.min_eq_left h] at this
theorem ZvS {l:List UInt8} (h:Cnt l 10) (hy:(l.getD 9 0).toNat≠1):Zah l=(0,0):=by
 obtain⟨h1,h2,h3,h4⟩:=Znz h
 unfold Zah
 rw[h4]
 by_cases hz:(l.getD 9 0).toNat=0
 ·rw[if_pos ⟨by omega,hz⟩]
 ·rw[if_neg (fun e=>hz e.2)]
  have hv:=Zhb l 9 h2
  have hm:(l.getD 9 0).toNat % 128=(l.getD 9 0).toNat:=Nat.mod_eq_of_lt h3
  rw[hm] at hv
  have e9:128 ^ 9=9223372036854775808:=by decide
  rw[e9] at hv
  have:¬ val (l.take (9+1))<18446744073709551616:=by omega
  simp only [this,if_false]
theorem ZqO {l:List UInt8} {c:Nat} (h:Cnt l (c+1)) (hc:0<c) (hy:(l.getD c 0).toNat=0):Zah l=(0,0):=by
 obtain⟨h1,h2,h3,h4⟩:=Znz h
 unfold Zah
 rw[h4,if_pos ⟨hc,hy⟩]
theorem ZtK {l:List UInt8} {c:Nat} (h:Cnt l (c+1)) (h10:c=9->(l.getD c 0).toNat=1) (h0:0<c->(l.getD c 0).toNat≠0):
 Zah l=(val (l.take (c+1)),c+1)∧val (l.take (c+1))<18446744073709551616:=by
 obtain⟨h1,h2,h3,h4⟩:=Znz h
 have hlt:val (l.take (c+1))<18446744073709551616:=by
  by_cases e:c=9
  ·subst e
   have hv:=Zhb l 9 h2
   have hv9:=ZgL l 9 (by omega)
   rw[h10 rfl] at hv
   have e9:128 ^ 9=9223372036854775808:=by decide
   rw[e9] at hv hv9
   omega
  ·have hv:=ZgL l (c+1) (by omega)
   have hp:128 ^ (c+1)<=128 ^ 9:=Nat.pow_le_pow_right (by decide) (by omega)
   have e9:128 ^ 9=9223372036854775808:=by decide
   omega
 refine⟨?_,hlt⟩
 unfold Zah
 rw[h4,if_neg (fun e=>h0 e.1 e.2)]
 simp only [hlt,if_true]
theorem Zzp (k y x:Nat) (hk:k<64) (hy:y<2 ^ k) (hx:x*2 ^ k<18446744073709551616):
 bits .or .u64 (y:Int) (IntKind.u64.wrap ((x:Int)*2 ^ k))=((y+x*2 ^ k:Nat):Int):=by
 have e:((x:Int)*2 ^ k)=((x*2 ^ k:Nat):Int):=by simp
 have hp:((2 ^ k:Nat):Int)=(2:Int) ^ k:=by simp
 have hk64:(2:Nat) ^ k<=2 ^ 64:=Nat.pow_le_pow_right (by decide) (by omega)
 rw[e,wraps_u64 _ (by omega) (by omega),bits_join_low .u64 64 (by decide) wraps_u64 k (y:Int) ((x*2 ^ k:Nat):Int) (by omega) (by rw[<-hp];omega) (by omega) (by omega) (by rw[<-hp];simp) (by omega)]
 omega
theorem ZzS (l:List UInt8) (k:Nat) (hk:k<l.length) (h10:k<10) (h9:k=9->(l.getD k 0).toNat % 128<=1):
 bits .or .u64 ((val (l.take k):Nat):Int) (IntKind.u64.wrap (((l.getD k 0).toNat:Int) % 128*2 ^ (7*k)))=((val (l.take (k+1)):Nat):Int):=by
 have hv:=ZgL l k (by omega)
 rw[Zhb l k hk,<-pow7]
 rw[<-pow7] at hv
 have e:(((l.getD k 0).toNat:Int) % 128)=(((l.getD k 0).toNat % 128:Nat):Int):=by omega
 rw[e]
 refine Zzp (7*k) _ _ (by omega) hv ?_
 by_cases hk9:k=9
 ·have:=h9 hk9
  subst hk9
  have e9:2 ^ (7*9)=9223372036854775808:=by decide
  rw[e9]
  omega
 ·have hp:2 ^ (7*k)<=2 ^ 56:=Nat.pow_le_pow_right (by decide) (by omega)
  have hm:(l.getD k 0).toNat % 128<=127:=by omega
  have:=Nat.mul_le_mul hm hp
  have e56:127*2 ^ 56<18446744073709551616:=by decide
  omega
theorem Zmr (v:Value) (l:List UInt8) (w:World) (hr:Rd w v l):
 Calls Tryz.prog 208 #[v] w fun e w'=>e=.returned (.tuple #[.int .u64 ((Zah l).1:Nat),.int .i64 ((Zah l).2:Nat)])∧w'=w:=by
 have hcnt:=ZvR v l w hr
 obtain⟨ao,cap,rfl,hlc,hcm,hn0,hao⟩:=hr
 clear hn0
 have HC:=ZZ hcnt
 clear hcnt
 go_enter Tryz.func208,Tryz.ntmps208
 go_wp2_with fail
 refine HC.out.mono ?_
 rintro e w' ⟨c,rfl,hc,rfl⟩
 have hc:Hid (Cnt l c):=hc
 clear HC
 cases c with
 | zero=>
  have H:Hid (Zah l=(0,0)):=ZtJ hc.out
  go_wp2
  go_ret2
  exact⟨by rw[H.out];rfl,rfl⟩
 | succ c=>
  obtain⟨hc10,hcl,hyl,hdec⟩:=Znz hc.out
  clear hdec
  rcases hao with hao | ⟨b,off,rfl,hcell⟩
  ·subst hao;simp at hcl
  have hck:=hcell c hcl
  obtain⟨y,hy⟩:∃ y,y=(l.getD c 0).toNat:=⟨_,rfl⟩
  rw[<-hy] at hck hyl
  have HY:Hid (y=(l.getD c 0).toNat):=hy
  have HCELL:=ZZ hcell
  clear hy hcell
  by_cases hbad:(c=9∧y≠1)∨(0<c∧y=0)
  ·have H:Hid (Zah l=(0,0)):=by
    rcases hbad with ⟨h9,hy1⟩ | ⟨h0,hy0⟩
    ·subst h9
     exact ZvS hc.out (by rw[<-HY.out];exact hy1)
    ·exact ZqO hc.out h0 (by rw[<-HY.out];exact hy0)
   by_cases h9:c=9
   ·have e9:(((c:Int)+1) == 10)=true:=beq_iff_eq.2 (by omega)
    have hne:((y:Int) != 1)=true:=by rw[bne_iff_ne];omega
    clear hbad h9
    go_wp2
    go_ret2
    exact⟨by rw[H.out];rfl,rfl⟩
   ·have e9:(((c:Int)+1) == 10)=false:=beq_eq_false_iff_ne.2 (by omega)
    have e1:(1:Int)<(c:Int)+1:=by omega
    have e0:((y:Int) == 0)=true:=beq_iff_eq.2 (by omega)
    clear hbad h9
    go_wp2
    go_ret2
    exact⟨by rw[H.out];rfl,rfl⟩
  ·have H:Hid (Zah l=(val (l.take (c+1)),c+1)∧val (l.take (c+1))<18446744073709551616):=ZtK hc.out (fun h=>by rw[<-HY.out];omega) (fun h=>by rw[<-HY.out];omega)
   have hw3:(c=9∧y=1)∨c=0∨(0<c∧c<9∧y≠0):=by omega
   have H9:Hid (c=9->y=1):=fun h=>by omega
   clear hbad
   rcases hw3 with hw3 | hw3 | hw3
   all_goals
    first
     | (have e9:(((c:Int)+1) == 10)=true:=beq_iff_eq.2 (by omega)
        have hne:((y:Int) != 1)=false:=by rw[bne_eq_false_iff_eq];omega
        have e1:(1:Int)<(c:Int)+1:=by omega
        have e0:((y:Int) == 0)=false:=beq_eq_false_iff_ne.2 (by omega))
     | (have e9:(((c:Int)+1) == 10)=false:=beq_eq_false_iff_ne.2 (by omega)
        have e1:¬ (1:Int)<(c:Int)+1:=by omega)
     | (have e9:(((c:Int)+1) == 10)=false:=beq_eq_false_iff_ne.2 (by omega)
        have e1:(1:Int)<(c:Int)+1:=by omega
        have e0:((y:Int) == 0)=false:=beq_eq_false_iff_ne.2 (by omega))
    clear hw3
    have ez:(((c:Int)+1) == 0)=false:=beq_eq_false_iff_ne.2 (by omega)
    go_wp2
    go_loop [5,35] (fun u i=>∃ k:Nat,k<=c+1∧i=.int .i64 k∧u=.int .u64 (val (l.take k):Nat)) (fun _ i=>c+1-(intOf i).toNat)
    case atStart=>exact⟨0,Nat.zero_le _,rfl,rfl⟩
    case round=>
     obtain⟨k,hk,rfl,rfl⟩:=hrel
     by_cases hlt:k<c+1
     ·have hkc:=HCELL.out k (by omega)
      obtain⟨x,hx⟩:∃ x,x=(l.getD k 0).toNat:=⟨_,rfl⟩
      rw[<-hx] at hkc
      have hx256:x<256:=by rw[hx];exact UInt8.toNat_lt _
      have HX:=ZZ hx
      clear hx
      obtain⟨z,hz⟩:∃ z,z=val (l.take k):=⟨_,rfl⟩
      rw[<-hz]
      have HZ:=ZZ hz
      clear hz hck
      go_wp2
      go_round
      case rel=>
       refine⟨k+1,by omega,by go_num,?_⟩
       rw[HZ.out,HX.out,ZzS l k (by omega) (by omega) (fun h=>?_)]
       have hc9:c=k:=by omega
       rw[<-hc9,<-HY.out,H9.out (by omega)]
       decide
      case measure=>simp[intOf];omega
     ·go_wp2
      go_ret2
      have ek:k=c+1:=by omega
      rw[H.out.1,ek]
      exact⟨rfl,rfl⟩
theorem ZfM (v:Value) (l:List UInt8) (w:World) (hr:Rd w v l):
 Calls Tryz.prog 169 #[v] w fun e w'=>e=.returned (.tuple #[.int .i64 ((Zab l).1:Nat),.int .i64 ((Zab l).2:Nat)])∧w'=w:=by
 have HC:=ZZ (Zmr v l w hr)
 have H:Hid (Zab l=if(Zah l).1<4611686018427387904 then Zah l else(0,0)):=rfl
 generalize Zah l=d at *
 obtain⟨u,k⟩:=d
 obtain⟨U,hU⟩:∃ U:Int,U=(u:Int):=⟨_,rfl⟩
 simp only at HC H
 rw[<-hU] at HC
 have hU0:0<=U:=by omega
 have HU:=ZZ hU
 clear hU
 by_cases hu:U<4611686018427387904
 ·go_enter Tryz.func169,Tryz.ntmps169
  go_wp2_with fail
  refine HC.out.mono ?_
  rintro e w' ⟨rfl,rfl⟩
  go_wp2
  go_ret2
  have e:=H.out
  have eu:=HU.out
  rw[if_pos (by omega)] at e
  rw[e]
  exact⟨by rw[eu];rfl,rfl⟩
 ·go_enter Tryz.func169,Tryz.ntmps169
  go_wp2_with fail
  refine HC.out.mono ?_
  rintro e w' ⟨rfl,rfl⟩
  go_wp2
  go_ret2
  have e:=H.out
  have eu:=HU.out
  rw[if_neg (by omega)] at e
  rw[e]
  exact⟨rfl,rfl⟩
theorem ZcO (v:Value) (l:List UInt8) (w:World) (hr:Rd w v l):
 Calls Tryz.prog 202 #[v] w fun e w'=>e=.returned (.tuple #[.int .i64 (zag (Zah l).1),.int .i64 ((Zah l).2:Nat)])∧w'=w:=by
 have HC:=ZZ (Zmr v l w hr)
 have hlt:=Znh l
 have hle:=ZcG l
 generalize Zah l=d at *
 obtain⟨u,k⟩:=d
 simp only at HC hlt hle
 go_enter Tryz.func202,Tryz.ntmps202
 go_wp2_with fail
 refine HC.out.mono ?_
 rintro e w' ⟨rfl,rfl⟩
 go_wp2_with fail
 refine(ZzA u _ hlt).mono ?_
 rintro e w1 ⟨rfl,rfl⟩
 go_wp2
 go_ret2
 exact⟨rfl,rfl⟩
theorem ZiP:∀ (k v:Nat),Lib.leBytes (k+1) v=Lib.leBytes k v++[(v / 256 ^ k % 256).toUInt8]
 | 0,v=>by simp[Lib.leBytes]
 | k+1,v=>by
  have ih:=ZiP k (v / 256)
  have e:v / 256 / 256 ^ k=v / 256 ^ (k+1):=by rw[Nat.div_div_eq_div_mul,Nat.pow_succ,Nat.mul_comm]
  rw[Lib.leBytes,ih,e]
  simp[Lib.leBytes]
def Zkn (c k v:Nat):List UInt8:=Lib.leBytes k v++List.replicate (c-k) 0
theorem ZoU (c k v:Nat) (h:k<=c):(Zkn c k v).length=c:=by
 simp[Zkn,Lib.leBytes_length]
 omega
theorem ZvT (c k v:Nat) (h:k<c):(Lib.byteCells (Zkn c k v)).set k (.int .u8 ((v / 256 ^ k % 256:Nat):Int))=Lib.byteCells (Zkn c (k+1) v):=by
 have e:c-k=(c-(k+1))+1:=by omega
 unfold Zkn
 rw[ZiP,e,List.replicate_succ]
 have hl:(Lib.byteCells (Lib.leBytes k v)).length=k:=by rw[Zbr,Lib.leBytes_length]
 have h8:((v / 256 ^ k % 256).toUInt8).toNat=v / 256 ^ k % 256:=Lib.toUInt8_toNat (Nat.mod_lt _ (by decide))
 simp only [Lib.byteCells,List.map_append,List.map_cons,List.map_nil,h8] at hl ⊢
 rw[List.set_append_right _ _ (by omega),hl]
 simp
theorem ZBv (k:Nat):2 ^ (8*k)=256 ^ k:=by rw[Nat.pow_mul]
theorem ZvU (v k:Nat):((v:Int) / 2 ^ (8*k)) % 256=((v / 256 ^ k % 256:Nat):Int):=by
 rw[<-ZBv]
 simp
theorem ZtL (v c:Nat) (w:World) (hc:c<=8):
 Calls Tryz.prog 187 #[.int .u64 (v:Int),.int .i64 (c:Int)] w fun e w'=>∃ v',e=.returned v'∧Own w' w.heap.size v' (Lib.leBytes c v)∧Below w.heap.size w w':=by
 obtain⟨i0,hi,hz0,hz1,hz2⟩:=info_parts Zni
 go_enter Tryz.func187,Tryz.ntmps187
 go_wp2_with(at_make;refine wpList_make_full _ rfl _ _ 53 rfl w.heap.size 5 i0 (.int .u8 0) 1 Tryz.underlying53 hi hz0 hz1 _ _ _ _ c rfl rfl rfl rfl (by rw[hz2];omega) (by unfold maxLen;omega) zL ?_)
 intro w1 hown hgrow
 have hb1:Below w.heap.size w w1:=(Below.refl _ _).grown hgrow zL (fun k hk=>by cases hk)
 have hown1:w1.ownsRow w.heap.size 5 1 (.slice (some ⟨w.heap.size,0,none⟩) c c) c (Lib.byteCells (Zkn c 0 v)):=by
  have e:(madeCells #[Value.int .u8 0] c).toList=Lib.byteCells (Zkn c 0 v):=by
   rw[toList_madeCells_one]
   simp[Zkn,Lib.leBytes,Lib.byteCells]
  rw[<-e]
  exact hown
 have HO:=ZZ hown1
 have HB:=ZZ hb1
 clear hown hown1 hb1 hgrow
 go_wp2
 go_loopw[11] (fun i wr=>∃ k:Nat,k<=c∧i=.int .i64 (k:Int)∧Hid (wr.ownsRow w.heap.size 5 1 (.slice (some ⟨w.heap.size,0,none⟩) c c) c (Lib.byteCells (Zkn c k v)))∧Hid (Below w.heap.size w wr)) (fun i _=>c-(intOf i).toNat)
 case atStart=>exact⟨0,Nat.zero_le _,rfl,HO,HB⟩
 case round=>
  obtain⟨k,hk,rfl,ho,hb⟩:=hrel
  by_cases hlt:k<c
  ·have hcell:wr.cell? ⟨w.heap.size,k,none⟩=some (.int .u8 ((Zkn c k v).getD k 0).toNat):=by
    rw[World.ownsRow.cellAt ho.out k (by omega),ZeW _ _ (by rw[ZoU c k v hk];exact hlt)]
   have hfr:wr.frozen? ⟨w.heap.size,k,none⟩=false:=World.ownsRow.frozenAt ho.out k
   go_wp2
   go_roundw
   case rel=>
    have hs:=World.ownsRow.stored ho.out k (Value.int .u8 ((v / 256 ^ k % 256:Nat):Int))
    rw[ZvT c k v hlt] at hs
    rw[ZvU]
    exact⟨k+1,by omega,by go_num,hs.1,hb.out.setCell zL _⟩
   case measure=>simp[intOf];omega
  ·go_wp2
   go_ret
   have e:k=c:=by omega
   refine⟨_,rfl,Own.mk' (l:=Lib.leBytes c v) ho.out (by rw[Lib.leBytes_length]) ?_,hb.out⟩
   rw[e]
   simp[Zkn]
theorem Zko (v:Nat) (w:World) (h:v<4294967296):
 Calls Tryz.prog 136 #[.int .u32 (v:Int)] w fun e w'=>∃ v',e=.returned v'∧Own w' w.heap.size v' (Lib.leBytes 4 v)∧Below w.heap.size w w':=by
 have HC:Hid (Calls Tryz.prog 187 #[.int .u64 (v:Int),.int .i64 4] w fun e w'=>∃ v',e=.returned v'∧Own w' w.heap.size v' (Lib.leBytes 4 v)∧Below w.heap.size w w'):=ZtL v 4 w (by omega)
 obtain⟨U,hU⟩:∃ U:Int,U=(v:Int):=⟨_,rfl⟩
 have h0:0<=U:=by omega
 have h1:U<4294967296:=by omega
 rw[<-hU] at HC ⊢
 clear hU h
 go_enter Tryz.func136,Tryz.ntmps136
 go_wp2_with fail
 refine HC.out.mono ?_
 rintro e w' ⟨v',rfl,ho,hb⟩
 have HO:=ZZ ho
 have HB:=ZZ hb
 clear ho hb HC
 go_wp2
 go_ret
 exact⟨v',rfl,HO.out,HB.out⟩
theorem ZnA:∀ l:List UInt8,Lib.leNat l<256 ^ l.length
 | []=>by simp[Lib.leNat]
 | c::r=>by
  have h:=ZnA r
  have hc:=c.toNat_lt
  simp only [Lib.leNat,List.length_cons,Nat.pow_succ]
  omega
theorem Zms:∀ (l:List UInt8) (c:UInt8),Lib.leNat (l++[c])=Lib.leNat l+c.toNat*256 ^ l.length
 | [],c=>by simp[Lib.leNat]
 | d::r,c=>by
  have h:=Zms r c
  simp only [List.cons_append,Lib.leNat,List.length_cons,Nat.pow_succ,h]
  rw[Nat.mul_add,<-Nat.mul_assoc,Nat.mul_comm 256 c.toNat,Nat.mul_assoc,Nat.mul_comm 256 (256 ^ r.length)]
  omega
theorem ZtM (l:List UInt8) (k:Nat) (h:k<l.length):Lib.leNat (l.take (k+1))=Lib.leNat (l.take k)+(l.getD k 0).toNat*256 ^ k:=by
 rw[ZjD l k h,Zms,List.length_take,Nat.min_eq_left (by omega)]
theorem ZnB (l:List UInt8) (k:Nat) (h:k<=l.length):Lib.leNat (l.take k)<256 ^ k:=by
 have:=ZnA (l.take k)
 rwa [List.length_take,Nat.min_eq_left h] at this
theorem Zym (l:List UInt8) (k:Nat) (hk:k<l.length) (h8:k<8):
 bits .or .u64 ((Lib.leNat (l.take k):Nat):Int) (IntKind.u64.wrap (((l.getD k 0).toNat:Int)*2 ^ (8*k)))=((Lib.leNat (l.take (k+1)):Nat):Int):=by
 have hv:=ZnB l k (by omega)
 rw[ZtM l k hk,<-ZBv]
 rw[<-ZBv] at hv
 refine Zzp (8*k) _ _ (by omega) hv ?_
 have hp:2 ^ (8*k)<=2 ^ 56:=Nat.pow_le_pow_right (by decide) (by omega)
 have hb:=(l.getD k 0).toNat_lt
 have hm:(l.getD k 0).toNat<=255:=by omega
 have:=Nat.mul_le_mul hm hp
 have e56:255*2 ^ 56<18446744073709551616:=by decide
 omega
theorem ZoV (v:Value) (l:List UInt8) (w:World) (hr:Rd w v l):
 Calls Tryz.prog 162 #[v] w fun e w'=>e=.returned (.int .u64 (Lib.leNat (l.take 8):Nat))∧w'=w:=by
 obtain⟨ao,cap,rfl,hlc,hcm,hn0,hao⟩:=hr
 clear hn0
 have hml:(l.length:Int)<=9223372036854775807:=by unfold maxLen at hcm;omega
 by_cases h10:(l.length:Int)<=8
 all_goals
  go_enter Tryz.func162,Tryz.ntmps162
  go_wp2
  go_loop [3,8] (fun n i=>∃ k:Nat,i=.int .i64 k∧k<=8∧k<=l.length∧n=.int .u64 (Lib.leNat (l.take k):Nat)) (fun _ i=>8-(intOf i).toNat)
  case atStart=>exact⟨0,rfl,by omega,by omega,rfl⟩
  case round=>
   obtain⟨k,rfl,hk10,hkl,rfl⟩:=hrel
   by_cases hlt:k<8∧k<l.length
   ·obtain⟨hlt,hlt'⟩:=hlt
    rcases hao with hao | ⟨b,off,rfl,hc⟩
    ·subst hao;simp at hlt'
    ·have hck:=hc k hlt'
     have HS:=ZZ (Zym l k hlt' hlt)
     have hy:(l.getD k 0).toNat<256:=UInt8.toNat_lt _
     clear hc
     generalize (l.getD k 0).toNat=y at *
     generalize Lib.leNat (l.take k)=z at *
     go_wp2
     go_round
     case rel=>exact⟨k+1,by go_num,by omega,by omega,by rw[HS.out]⟩
     case measure=>simp[intOf];omega
   ·go_wp2
    go_ret
    refine⟨ZeX ?_,rfl⟩
    by_cases e:k=8
    ·rw[e]
    ·rw[List.take_of_length_le (by omega:l.length<=k),List.take_of_length_le (by omega:l.length<=8)]
def bs (l:List UInt8):ByteArray:=⟨l.toArray⟩
theorem ZvV (l:List UInt8):(bs l).toList=l:=ByteArray.toList_mk l
theorem ZBw (a b:List UInt8):((bs a).toList == (bs b).toList)=(a == b):=by rw[ZvV,ZvV]
theorem Rd.str {w:World} {v:Value} {l:List UInt8} (h:Rd w v l):(convert 53 9 v).run Tryz.prog w=.ok (.string (bs l)) w:=by
 obtain⟨ao,cap,rfl,_,_,hn,h⟩:=h
 cases ao with
 | none=>
  have hl:l=[]:=List.eq_nil_of_length_eq_zero (by have:=hn rfl;omega)
  subst hl
  exact run_convert_bytes_nil w 53 5 Tryz.underlying53 Tryz.underlying5 0 cap 9 Tryz.underlying9
 | some a=>
  have hl:(loadCells a l.length).run Tryz.prog w=.ok ((l.map fun c=>(c.toNat:Int)).map (Value.int .u8)).toArray w:=by
   have:=run_loadCells_list (P:=Tryz.prog) w a (Lib.byteCells l) (Rd.cells h a rfl)
   rw[Zbr] at this
   rw[this]
   simp[Lib.byteCells,Function.comp_def]
  rw[run_convert_bytes_string w 53 9 5 _ l.length cap Tryz.underlying53 Tryz.underlying5 Tryz.underlying9,run_bytesToString w _ l.length cap _ hl,foldl_push_bytes]
  have e:(List.map (fun n:Int=>UInt8.ofNat n.toNat) (List.map (fun c:UInt8=>(c.toNat:Int)) l))=l:=by
   rw[List.map_map]
   conv=>rhs;rw[<-List.map_id l]
   apply List.map_congr_left
   intro c _
   simp
  rw[e]
  simp[bs,ByteArray.empty,ByteArray.emptyWithCapacity]
  rfl
def ZzT (B:Nat) (w:World) (p:Nat) (d:Dk) (N T:Nat):Prop:=∃ F,Dsk F w p d N T∧∀ k,F k->B<=k
theorem ZsC (B:Nat) (room:Int) (hr:I64 room) (w:World) (hB:B<=w.heap.size):
 Calls Tryz.prog 10 #[.int .i64 room] w fun e w'=>∃ p,e=.returned (ptr p)∧ZzT B w' p (ZlH room) 0 0∧Below B w w':=by
 refine(ZzO room hr w).mono ?_
 rintro e w' ⟨p,he,hd,hb⟩
 exact⟨p,he,⟨_,hd,fun k hk=>by omega⟩,hb.mono hB⟩
theorem Dsk.ltF {F:Nat->Prop} {w:World} {p:Nat} {d:Dk} {N T:Nat} (h:Dsk F w p d N T):∀ k,F k->k<w.heap.size:=by
 obtain⟨L,h1,_⟩:=h
 exact h1.lt
theorem ZtN {B p:Nat} {d:Dk} {N T:Nat} (w:World) (h:ZzT B w p d N T) (hN:N<=1000000):
 Calls Tryz.prog 29 #[ptr p] w fun e w'=>∃ v,e=.returned v∧ZaA w' w.heap.size v ((Zbo d).map Prod.fst)∧Below w.heap.size w w':=by
 obtain⟨F,⟨L,h1,h3,_⟩,h2⟩:=h
 exact Zkm w h1 h3 hN
theorem ZzT.ok {B:Nat} {w:World} {p:Nat} {d:Dk} {N T:Nat} (h:ZzT B w p d N T):OkD d∧Bnd d N T:=by
 obtain⟨F,⟨L,h1,h3,h4,_⟩,h2⟩:=h
 exact⟨h3,h4⟩
theorem ZcY (w:World) (o:Obj):Below w.heap.size w (w.alloc o):=(Below.refl _ w).alloc zL o
theorem Rd.mid {w:World} {ao:Option Addr} {n cap:Nat} {l:List UInt8} (h:Rd w (.slice ao n cap) l) (i j m:Nat) (hij:i<=j) (hj:j<=l.length) (hm:j<=m) (hmc:m<=cap):Rd w (sliced ao i j m 1) ((l.drop i).take (j-i)):=by
 obtain⟨ao',cap',hv,h1,h2,h3,h4⟩:=h
 simp only [Value.slice.injEq] at hv
 obtain⟨rfl,rfl,rfl⟩:=hv
 have hlen:((l.drop i).take (j-i)).length=j-i:=by simp;omega
 unfold sliced
 by_cases hmi:m=i
 ·rw[if_pos hmi]
  have e:j-i=0:=by omega
  refine⟨ao,m-i,by rw[hlen],by omega,by omega,fun hn=>by have:=h3 hn;omega,.inl ?_⟩
  rw[e]
  simp
 ·rw[if_neg hmi]
  refine⟨ao.map (·.add (i*1)),m-i,by rw[hlen],by omega,by omega,fun hn=>?_,?_⟩
  ·have hn':ao=none:=by simpa using hn
   have:=h3 hn'
   omega
  ·rcases h4 with h4 | ⟨b,off,h5,h6⟩
   ·exact .inl (by rw[h4];simp)
   ·refine .inr ⟨b,off+i,?_,fun k hk=>?_⟩
    ·rw[h5,Nat.mul_one,Option.map_some,Addr.add_lit]
    ·rw[hlen] at hk
     rw[Nat.add_assoc,h6 (i+k) (by omega)]
     simp[List.getD,hk]
theorem ZbS:Tryz.prog.elem 53=5:=by kernel_rfl
theorem Zfg (w:World):(sizeOf 5).run Tryz.prog w=.ok 1 w:=by
 obtain⟨i0,hi,_,hz1,_⟩:=info_parts Zni
 simp[sizeOf,typeInfo,hi,hz1]
theorem ZaE:Tryz.prog.underlying 53=some (.slice (Tryz.prog.elem 53)):=by rw[ZbS];exact Tryz.underlying53
theorem Zkp (w:World) (v:Value) (l:List UInt8) (hr:Rd w v l) (k:IntKind) (i:Int) (h0:0<=i) (h2:i<=l.length):
 ∃ v',(Instr.sliceAt 53 v (some (.int k i)) none none).run Tryz.prog w=.ok v' w∧Rd w v' (l.drop i.toNat):=by
 have h:=hr
 obtain⟨ao,cap,rfl,hlc,_⟩:=hr
 refine⟨sliced ao i.toNat l.length cap 1,?_,?_⟩
 ·rw[run_sliceAt_slice w 53 _ _ _ _ ZaE,run_slice_l w 53 ao l.length cap ZaE k i h0 (by omega),ZbS,Zfg]
  rfl
 ·have:=h.mid i.toNat l.length cap (by omega) zL hlc zL
  rw[List.take_of_length_le (by simp)] at this
  exact this
theorem Zik (w:World) {ops:Array Oper} {rest:List Oper} {o:Oper} {a:Act} {Q:Exit->Act->World->Prop} (hgd:o.guard=none) (x:Operand) (lo hi mx:Option Operand)
 (ho:o.op=.slice 53 x lo hi mx) (l:List UInt8)
 (hrun:∃ v',(Instr.sliceAt 53 (a.eval x) (lo.map a.eval) (hi.map a.eval) (mx.map a.eval)).run Tryz.prog w=.ok v' w∧Rd w v' l)
 (h:∀ v',Rd w v' l->wpList Tryz.prog ops Q rest (a.put o.dst v') w):wpList Tryz.prog ops Q (o::rest) a w:=
 wpList_plain hgd fun _ hK=>by
  obtain⟨v',hrun,hr⟩:=hrun
  unfold Oper.wp execOp
  simp only [ho,hrun,Sem.run_bind,Sem.run_pure,Result.andThen_ok]
  exact hK _ _ (h v' hr)
def ZtO (e:Ent):Value:=.agg #[.int .i64 e.proc,.int .i64 e.seq,.int .i64 e.resp]
def Zfz (e:Ent):Array Value:=#[.int .i64 e.proc,.int .i64 e.seq,.int .i64 e.resp]
def Zor (e:Ent):Prop:=I64 e.proc∧I64 e.seq∧I64 e.resp
def Be (w:World) (b:Nat) (cs:Array Value):Prop:=w.heap[b]?=some (.cells cs 86 (0,0))
theorem Be.lt {w:World} {b:Nat} {cs:Array Value} (h:Be w b cs):b<w.heap.size:=(Array.getElem?_eq_some_iff.1 h).1
theorem Be.below {w w':World} {b B:Nat} {cs:Array Value} (h:Be w b cs) (hb:Below B w w') (hB:w.heap.size<=B):Be w' b cs:=(hb.block b (by have:=h.lt;omega)).trans h
theorem Be.cell {w:World} {b:Nat} {cs:Array Value} (h:Be w b cs) (j:Nat):w.cell? ⟨b,j,none⟩=cs[j]?∧w.frozen? ⟨b,j,none⟩=false:=⟨cell_of_row w b j _ _ _ h,frozen_of_row w b j _ _ h⟩
def ZoW (w:World) (b o:Nat) (e:Ent):Prop:=
 w.cell? ⟨b,o,none⟩=some (.int .i64 e.proc)∧w.cell? ⟨b,o+1,none⟩=some (.int .i64 e.seq)∧w.cell? ⟨b,o+2,none⟩=some (.int .i64 e.resp)
theorem ZoW.lt {w:World} {b o:Nat} {e:Ent} (h:ZoW w b o e):b<w.heap.size:=World.block_lt_of_cell? w ⟨b,o,none⟩ h.1
theorem ZoW.keep {w w':World} {b o:Nat} {e:Ent} (h:ZoW w b o e) (hk:w'.heap[b]?=w.heap[b]?):ZoW w' b o e:=by
 have hc:∀ i,w'.cell? ⟨b,i,none⟩=w.cell? ⟨b,i,none⟩:=fun i=>World.cell?_of_block (a:=⟨b,i,none⟩) hk
 unfold ZoW at h ⊢
 simp only [hc]
 exact h
def RdE (w:World) (v:Value) (l:List Ent):Prop:=
 ∃ ao cap,v=.slice ao l.length cap∧l.length<=cap∧cap<=maxLen∧(ao=none->cap=0)∧(∀ e ∈ l,Zor e)∧
  (l=[]∨∃ b off,ao=some ⟨b,off,none⟩∧∀ j,j<l.length->ZoW w b (off+j*3) (l.getD j ZaV))
theorem RdE.nil (w:World):RdE w (.slice none 0 0) []:=⟨none,0,rfl,Nat.le_refl _,Nat.zero_le _,fun _=>rfl,(fun r h=>by simp at h),.inl rfl⟩
theorem RdE.below {w w':World} {v:Value} {l:List Ent} (h:RdE w v l) {B:Nat} (hb:Below B w w') (hB:w.heap.size<=B):RdE w' v l:=by
 obtain⟨ao,cap,h1,h2,h3,hn,hw,h4⟩:=h
 refine⟨ao,cap,h1,h2,h3,hn,hw,?_⟩
 rcases h4 with h4 | ⟨b,off,h5,h6⟩
 ·exact .inl h4
 ·refine .inr ⟨b,off,h5,fun j hj=>?_⟩
  have h7:=h6 j hj
  exact h7.keep (hb.block b (by have:=h7.lt;omega))
def Zag:List Ent->List Value
 | []=>[]
 | r::t=>(Zfz r).toList++Zag t
theorem Zaw:∀ l:List Ent,(Zag l).length=l.length*3
 | []=>rfl
 | r::t=>by
  rw[Zag,List.length_append,Zaw t,List.length_cons]
  simp[Zfz]
  omega
theorem Zdo:∀ a b:List Ent,Zag (a++b)=Zag a++Zag b
 | [],_=>rfl
 | r::t,b=>by rw[List.cons_append,Zag,Zdo t b,Zag,List.append_assoc]
theorem Zbv:∀ (l:List Ent) (j k:Nat),j<l.length->k<3->(Zag l)[j*3+k]?=(Zfz (l.getD j ZaV))[k]?
 | r::t,0,k,_,hk=>by
  rw[Zag,Nat.zero_mul,Nat.zero_add,List.getElem?_append_left (by simp[Zfz];omega)]
  simp[List.getD]
 | r::t,j+1,k,hj,hk=>by
  have e:(j+1)*3+k=(Zfz r).toList.length+(j*3+k):=by simp[Zfz];omega
  rw[Zag,e,List.getElem?_append_right (by omega),Nat.add_sub_cancel_left,Zbv t j k (by simpa using hj) hk]
  simp[List.getD]
theorem ZcB (l:List Ent):∀ u ∈ Zag l,u.oneCell'=true:=by
 induction l with
 | nil=>intro u hu;simp[Zag] at hu
 | cons r t ih=>
  intro u hu
  rw[Zag] at hu
  rcases List.mem_append.1 hu with h | h
  ·simp[Zfz] at h
   rcases h with rfl | rfl | rfl <;> rfl
  ·exact ih u h
def Zbs (w:World) (B:Nat) (v:Value) (l:List Ent):Prop:=w.ownsRow B 86 3 v l.length (Zag l)
theorem Zbs.nil (w:World) (B:Nat):Zbs w B (.slice none 0 0) []:=World.ownsRow_nil w B 86 3
theorem Zbs.rd {w:World} {B:Nat} {v:Value} {l:List Ent} (h:Zbs w B v l) (hw:∀ r ∈ l,Zor r):RdE w v l:=by
 rcases h.2 with ⟨hv,hn⟩ | ⟨g,cap,cur,hv,hb,hg,hnc,hcm,hcs,htake⟩
 ·exact⟨none,0,by rw[hv,hn],by omega,Nat.zero_le _,fun _=>rfl,hw,.inl (List.eq_nil_of_length_eq_zero hn)⟩
 ·refine⟨some ⟨g,0,none⟩,cap,hv,hnc,hcm,(fun e=>by cases e),hw,.inr ⟨g,0,rfl,fun j hj=>?_⟩⟩
  have hc:∀ k u,k<3->(Zfz (l.getD j ZaV))[k]?=some u->w.cell? ⟨g,0+j*3+k,none⟩=some u:=fun k u hk hu=>by
   have:=World.ownsRow.cells h (g:=g) (by rw[hv];rfl) (j*3+k) u ((Zbv l j k hj hk).trans hu)
   rw[Addr.add_lit] at this
   rw[Nat.add_assoc]
   exact this
  exact⟨hc 0 _ (by decide) rfl,hc 1 _ (by decide) rfl,hc 2 _ (by decide) rfl⟩
theorem Zbs.below {w w':World} {B B':Nat} {v:Value} {l:List Ent} (h:Zbs w B v l) (hb:Below B' w w') (hB:w.heap.size<=B'):Zbs w' B v l:=by
 obtain⟨h1,h2⟩:=h
 refine⟨h1,?_⟩
 rcases h2 with h2 | ⟨g,cap,cur,hv,hbg,hg,r⟩
 ·exact .inl h2
 ·have hlt:g<w.heap.size:=(Array.getElem?_eq_some_iff.1 hg).1
  exact .inr ⟨g,cap,cur,hv,hbg,by rw[hb.block g (by omega)];exact hg,r⟩
theorem Zbs.mono {w:World} {B B':Nat} {v:Value} {l:List Ent} (h:Zbs w B v l) (hB:B'<=B):Zbs w B' v l:=by
 obtain⟨h1,h2⟩:=h
 refine⟨h1,?_⟩
 rcases h2 with h2 | ⟨g,cap,cur,hv,hb,r⟩
 ·exact .inl h2
 ·exact .inr ⟨g,cap,cur,hv,by omega,r⟩
theorem Zbs.shape {w:World} {B:Nat} {v:Value} {l:List Ent} (h:Zbs w B v l):∃ ao cap,v=.slice ao l.length cap:=by
 rcases h.2 with ⟨hv,hn⟩ | ⟨g,cap,cur,hv,_⟩
 ·exact⟨none,0,by rw[hv,hn]⟩
 ·exact⟨_,_,hv⟩
theorem RdE.shape {w:World} {v:Value} {l:List Ent} (h:RdE w v l):∃ ao cap,v=.slice ao l.length cap:=by
 obtain⟨ao,cap,hv,_⟩:=h
 exact⟨ao,cap,hv⟩
theorem Zjs:(Tryz.prog.info? 86).map (fun i=>(i.zero,i.size,i.bytes))=some (some (.agg #[.int .i64 0,.int .i64 0,.int .i64 0]),3,24):=by kernel_rfl
theorem ZlN (w:World) (ty:TypeId) (B:Nat) (v:Value) (l:List Ent) (h:Zbs w B v l) (r:Ent) (hlim:l.length<=1000000) (hbase:B<=w.heap.size):
 ∃ v' w',(Builtin.append_ #[39,39] ty #[v,.slice (some ⟨w.heap.size,0,none⟩) 1 1]).run Tryz.prog (w.alloc (.cells (Zfz r) 86))=.ok v' w'∧Zbs w' B v' (l++[r])∧Below B w w':=by
 obtain⟨i0,hi,hz0,hz1,hz2⟩:=info_parts Zjs
 obtain⟨v',w',hrun,ho,hg,_⟩:=run_append_own (P:=Tryz.prog) (w.alloc (.cells (Zfz r) 86)) B 39 ty 86 i0 _ 3 24 Tryz.underlying39 hi hz0 hz1 hz2 rfl (by decide) v l.length (Zag l) (h.alloc _)
  ⟨w.heap.size,0,none⟩ 1 1 (Zag [r]) (Zaw [r]) (fun j u hj=>by
   rw[Addr.add_lit,Nat.zero_add,cell_of_row _ w.heap.size j _ 86 (0,0) (heap_alloc_new w _)]
   simpa[Zag] using hj) (ZcB [r]) (by unfold maxLen;omega) (by omega) (by simp;omega)
 refine⟨v',w',hrun,?_,?_⟩
 ·unfold Zbs
  rw[List.length_append,Zdo]
  exact ho
 ·exact((Below.refl _ _).alloc hbase _).grown hg (by simp;omega) (fun k hk=>(World.ownsRow.lt h k hk).1)
theorem Zil (w:World) {ops:Array Oper} {rest:List Oper} {o:Oper} {a:Act} {Q:Exit->Act->World->Prop} (hgd:o.guard=none) (s x:Operand)
 (ho:o.op=.call { callee:=.builtin .append,args:=#[s,x],argTypes:=#[39,39] })
 (B:Nat) (v:Value) (l:List Ent) (hs:a.eval s=v) (hown:Zbs w B v l) (r:Ent) (hx:a.eval x=.slice (some ⟨w.heap.size,0,none⟩) 1 1)
 (hlim:l.length<=1000000) (hbase:B<=w.heap.size)
 (h:∀ v' w',Zbs w' B v' (l++[r])->Below B w w'->wpList Tryz.prog ops Q rest (a.put o.dst v') w'):wpList Tryz.prog ops Q (o::rest) a (w.alloc (.cells (Zfz r) 86)):=
 wpList_plain hgd fun _ hK=>by
  obtain⟨v',w',hrun,h2,h3⟩:=ZlN w o.type B v l hown r hlim hbase
  unfold Oper.wp execOp
  simp only [ho,resolve,invoke,builtin,Sem.run_bind,Sem.run_pure,Result.andThen_ok,List.map_toArray,List.map_cons,List.map_nil,hs,hx,hrun]
  exact hK _ _ (h v' w' h2 h3)
def SnV (w:World) (v:Value) (s:ZaU):Prop:=
 ∃ vl vt,v=.agg #[.int .i64 s.idx,.int .i64 s.st.kind,vl,.bool s.st.shut,.int .i64 s.st.eng,vt]∧RdI w vl s.st.L∧I64 s.st.kind∧I64 s.st.eng∧RdE w vt s.tab∧I64 s.idx
def Zdp (p:Int):List Ent->Nat
 | []=>0
 | x::t=>if p<x.proc then 0 else Zdp p t+1
theorem ZoX (p:Int):∀ t,Zdp p t<=t.length
 | []=>Nat.le_refl _
 | x::t=>by
  rw[Zdp]
  split
  ·exact Nat.zero_le _
  ·have:=ZoX p t
   rw[List.length_cons]
   omega
def ZqP (p:Int) (t:List Ent):List Ent:=t.filter (fun x=>decide (x.proc≠p))
theorem Zyn (p:Int) (t:List Ent):(ZqP p t).length<=t.length:=List.length_filter_le _ _
theorem ZoY (e:Ent):∀ t:List Ent,ZfJ t e=(ZqP e.proc t).take (Zdp e.proc (ZqP e.proc t))++(e::(ZqP e.proc t).drop (Zdp e.proc (ZqP e.proc t)))
 | []=>rfl
 | x::t=>by
  have ih:=ZoY e t
  unfold ZfJ at ih ⊢
  unfold ZqP at ih ⊢
  have hf:(x::t).filter (fun y=>decide (y.proc≠e.proc))=if x.proc=e.proc then t.filter (fun y=>decide (y.proc≠e.proc)) else x::t.filter (fun y=>decide (y.proc≠e.proc)):=by
   rw[List.filter_cons]
   by_cases h:x.proc=e.proc <;> simp[h]
  rw[Zig,hf]
  by_cases h1:x.proc=e.proc
  ·have h2:¬ e.proc<x.proc:=by omega
   simp only [h1,if_true]
   rw[if_neg (by simp),decide_eq_false (by omega),Bool.false_or,ih]
   rfl
  ·simp only [if_neg h1]
   by_cases h2:e.proc<x.proc
   ·rw[if_pos (by simp[h2]),decide_eq_true h2,Bool.or_true,Zih,Zdp,if_pos h2]
    rfl
   ·rw[if_neg (fun h=>h2 h.2),decide_eq_false h2,Bool.or_false,Zdp,if_neg h2,ih]
    rfl
theorem Zmt {p:Int}:∀ {t:List Ent},(∀ j,j<t.length->¬ p<(t.getD j ZaV).proc)->Zdp p t=t.length
 | [],_=>rfl
 | x::t,h=>by
  have h0:=h 0 (by simp)
  rw[show(x::t).getD 0 ZaV=x from rfl] at h0
  rw[Zdp,if_neg h0,Zmt (fun j hj=>h (j+1) (by simpa using hj))]
  rfl
theorem ZoZ {p:Int}:∀ {t:List Ent} {i:Nat},i<t.length->(∀ j,j<i->¬ p<(t.getD j ZaV).proc)->p<(t.getD i ZaV).proc->Zdp p t=i
 | [],i,hi,_,_=>absurd hi (Nat.not_lt_zero _)
 | x::t,0,_,_,h=>by
  rw[show(x::t).getD 0 ZaV=x from rfl] at h
  rw[Zdp,if_pos h]
 | x::t,i+1,hi,hb,h=>by
  have h0:=hb 0 (by omega)
  rw[show(x::t).getD 0 ZaV=x from rfl] at h0
  rw[Zdp,if_neg h0,ZoZ (i:=i) (by simpa using hi) (fun j hj=>hb (j+1) (by omega)) h]
theorem ZvW {n:Nat} {b:List UInt8} {r:List Ent × List UInt8} (h:Zek n b=some r):n<=b.length:=by
 obtain⟨t,x⟩:=r
 obtain⟨h1,h2⟩:=ZgK n b t x h
 have:=ZvD t
 rw[h2,List.length_append]
 omega
theorem Zpa {b:List UInt8} (h0:(Zab b).2≠0):ZeM b=(Zek (Zab b).1 (b.drop (Zab b).2)).bind (fun r=>if r.2=[] then some r.1 else none):=by
 unfold ZeM
 by_cases h1:b.length<(Zab b).1
 ·rw[if_pos (.inr h1)]
  cases h:Zek (Zab b).1 (b.drop (Zab b).2) with
  | none=>rfl
  | some r=>
   have:=ZvW h
   rw[List.length_drop] at this
   omega
 rw[if_neg (by omega)]
 cases Zek (Zab b).1 (b.drop (Zab b).2) with
 | none=>rfl
 | some p=>
  obtain⟨t,x⟩:=p
  cases x <;> rfl
theorem ZqQ {l:List UInt8} {a:Nat} (h:a<l.length):Zbb (l.drop a)=(l.drop a).take 64::Zbb (l.drop (a+64)):=by
 rw[Zbw (fun e=>by
  have:=congrArg List.length e
  rw[List.length_drop,List.length_nil] at this
  omega),List.drop_drop]
theorem ZvX (P:List (List UInt8)):Zif P↔P=Zbb P.flatten:=
 ⟨fun h=>(ZfI P h).symm,fun h=>by rw[h];exact ZiH _ _ zL⟩
theorem ZvY (e:Ent):Zaz ⟨0,e.proc,e.seq,⟨0,0,0⟩,e.resp⟩↔Zfd e:=by
 unfold Zaz Zfd Zdt
 simp only
 omega
def Zkq (t:List Ent):Nat->Int
 | 0=>0
 | k+1=>(t.getD k ZaV).proc+1
theorem ZqR {t:List Ent} {k:Nat}:Zdu t (k+1)↔Zdu t k∧Zfd (t.getD k ZaV)∧Zkq t k<=(t.getD k ZaV).proc:=by
 rw[Zdu.next]
 constructor
 ·rintro⟨h1,h2,h3⟩
  refine⟨h1,h2,?_⟩
  cases k with
  | zero=>exact h2.1
  | succ k=>
   have:=h3 (by omega)
   rw[Nat.add_sub_cancel] at this
   rw[Zkq]
   omega
 ·rintro⟨h1,h2,h3⟩
  refine⟨h1,h2,fun h=>?_⟩
  cases k with
  | zero=>omega
  | succ k=>
   rw[Zkq] at h3
   rw[Nat.add_sub_cancel]
   omega
theorem ZvZ (i:Int) (t:List Ent):¬ Zgm ⟨i,ZfF,t⟩:=by
 rintro⟨-,h,-⟩
 revert h
 show ¬ Zcy ZfF
 decide
def Zcq:Nat->List UInt8->Option (List Nat × List UInt8)
 | 0,b=>some ([],b)
 | n+1,b=>if(Zab b).2=0 then none else(Zcq n (b.drop (Zab b).2)).map (fun r=>((Zab b).1::r.1,r.2))
theorem ZdJ {P:Program} (w:World) (dT sT ty elem:TypeId) (k:Nat) (b o dLen dCap:Nat) (a:Addr) (sLen sCap:Nat) (cs:List Value)
 (hu:P.underlying dT=some (.slice elem)) (hs:(P.info? elem).map (·.size)=some k) (hn:cs.length=Nat.min sLen dLen*k)
 (hsrc:∀ j v,cs[j]?=some v->w.cell? (a.add j)=some v) (hc:∀ j,j<cs.length->(w.cell? ⟨b,o+j,none⟩).isSome=true) (hf:∀ j,j<cs.length->w.frozen? ⟨b,o+j,none⟩=false) (h1:∀ v ∈ cs,v.oneCell'=true):
 (Builtin.copy_ #[dT,sT] ty #[.slice (some ⟨b,o,none⟩) dLen dCap,.slice (some a) sLen sCap]).run P w=.ok (goInt (Nat.min sLen dLen)) (w.setCells b o cs):=by
 have hl:=run_loadCells_list (P:=P) w a cs hsrc
 have hst:=run_storeCells_cells (P:=P) b o cs 0 w (by simpa using hc) (by simpa using hf) h1
 cases hq:P.info? elem with
 | none=>simp[hq] at hs
 | some i=>
  have hi:i.size=k:=by simpa[hq] using hs
  rw[hn] at hl
  simp[Builtin.copy_,run_underlying hu,Builtin.lenOf,Builtin.firstCells,sizeOf,typeInfo,hq,hi,hl,hst]
def Zes:Nat->List Value
 | 0=>[]
 | n+1=>.int .i64 0::.int .i64 0::.int .i64 0::Zes n
theorem Zcj:∀ n,(Zes n).length=n*3
 | 0=>rfl
 | n+1=>by rw[Zes,List.length_cons,List.length_cons,List.length_cons,Zcj n];omega
theorem Zim:∀ n,∀ v ∈ Zes n,v=.int .i64 0
 | 0,v,h=>by simp[Zes] at h
 | n+1,v,h=>by
  rw[Zes,List.mem_cons,List.mem_cons,List.mem_cons] at h
  rcases h with h | h | h | h
  ·exact h
  ·exact h
  ·exact h
  ·exact Zim n v h
theorem Zmu (n:Nat):(Builtin.zeroCells (Value.agg #[.int .i64 0,.int .i64 0,.int .i64 0]).cells n).toList=Zes n:=by
 have hsz:(Value.agg #[.int .i64 0,.int .i64 0,.int .i64 0]).cells=#[.int .i64 0,.int .i64 0,.int .i64 0]:=by rfl
 rw[hsz]
 apply List.ext_getElem?
 intro i
 by_cases h:i<n*3
 ·have h2:i<(Zes n).length:=by rw[Zcj];exact h
  have h3:(Zes n)[i]?=some (.int .i64 0):=by
   rw[List.getElem?_eq_getElem h2,Zim n _ (List.getElem_mem h2)]
  rw[h3]
  have hm:i % 3=0∨i % 3=1∨i % 3=2:=by omega
  simp only [Builtin.zeroCells,Array.getElem?_toList,Array.getElem?_map]
  have h4:(Array.range (n*(#[Value.int .i64 0,.int .i64 0,.int .i64 0]:Array Value).size))[i]?=some i:=by simp[h]
  rw[h4]
  have h5:(#[Value.int .i64 0,.int .i64 0,.int .i64 0]:Array Value).size=3:=rfl
  rw[h5]
  rcases hm with e | e | e <;> rw[Option.map_some,e] <;> rfl
 ·rw[List.getElem?_eq_none (by simp[Builtin.zeroCells];omega),List.getElem?_eq_none (by rw[Zcj];omega)]
theorem Zkr {P:Program} (w:World) (t e ty:TypeId) (ht:P.underlying t=some (.slice e)) (hv:∀ w,(zeroValue e).run P w=.ok (.agg #[.int .i64 0,.int .i64 0,.int .i64 0]) w) (b o n c:Nat) (hn:0<n)
 (hc:∀ j,j<n*3->(w.cell? ⟨b,o+j,none⟩).isSome=true) (hf:∀ j,j<n*3->w.frozen? ⟨b,o+j,none⟩=false):
 (Builtin.clear_ #[t] ty #[.slice (some ⟨b,o,none⟩) n c]).run P w=.ok (.tuple #[]) (w.setCells b o (Zes n)):=by
 have hst:=run_storeCells_cells (P:=P) b o (Zes n) 0 w (by rw[Zcj];simpa using hc) (by rw[Zcj];simpa using hf) (by intro v hv';rw[Zim n v hv'];rfl)
 simp only [Nat.add_zero] at hst
 obtain⟨m,rfl⟩:∃ m,n=m+1:=⟨n-1,by omega⟩
 simp[Builtin.clear_,run_underlying ht,hv,Zmu,hst]
open Go.RowKit Go.Shelf
def ZtP:Go.Shelf.Ren:=⟨fun | 15=>40 | n=>n,fun | 22=>23 | 3=>3 | 4=>4 | n=>n,fun | n=>n⟩
theorem Zwa:Go.Proofs.Lays2.n15 Tryz.prog ZtP:={
 mixed:=by kernel_rfl
 f15:=Tryz.func40.trans (congrArg some (by kernel_rfl))
 t3:=Tryz.underlying3
 a3:=Tryz.isAgg3
 z3:=Tryz.sizeOf3
 v3:=Tryz.zeroValue3
 t4:=Tryz.underlying4
 a4:=Tryz.isAgg4
 z4:=Tryz.sizeOf4
 v4:=Tryz.zeroValue4
 t22:=Tryz.underlying23
 a22:=Tryz.isAgg23
 z22:=Tryz.sizeOf23
 v22:=Tryz.zeroValue23
 i3:=by kernel_rfl }
def ZtQ:Go.Shelf.Ren:=⟨fun | 23=>211 | n=>n,fun | 22=>23 | 3=>3 | 4=>4 | 0=>0 | n=>n,fun | n=>n⟩
theorem ZAM:Go.Proofs.Lays2.n23 Tryz.prog ZtQ:={
 mixed:=by kernel_rfl
 f23:=Tryz.func211.trans (congrArg some (by kernel_rfl))
 t0:=Tryz.underlying0
 a0:=Tryz.isAgg0
 z0:=Tryz.sizeOf0
 v0:=Tryz.zeroValue0
 t3:=Tryz.underlying3
 a3:=Tryz.isAgg3
 z3:=Tryz.sizeOf3
 v3:=Tryz.zeroValue3
 t4:=Tryz.underlying4
 a4:=Tryz.isAgg4
 z4:=Tryz.sizeOf4
 v4:=Tryz.zeroValue4
 t22:=Tryz.underlying23
 a22:=Tryz.isAgg23
 z22:=Tryz.sizeOf23
 v22:=Tryz.zeroValue23
 i3:=by kernel_rfl }
def Zmv:Go.Shelf.Ren:=⟨fun | 21=>213 | 27=>224 | 28=>225 | 35=>230 | 39=>233 | n=>n,fun | 22=>23 | 3=>3 | 4=>4 | 0=>0 | n=>n,fun | n=>n⟩
theorem Zpb:Go.Proofs.Lays2.n21 Tryz.prog Zmv:={
 mixed:=by kernel_rfl
 f21:=Tryz.func213.trans (congrArg some (by kernel_rfl))
 f27:=Tryz.func224.trans (congrArg some (by kernel_rfl))
 f28:=Tryz.func225.trans (congrArg some (by kernel_rfl))
 f35:=Tryz.func230.trans (congrArg some (by kernel_rfl))
 f39:=Tryz.func233.trans (congrArg some (by kernel_rfl))
 t0:=Tryz.underlying0
 a0:=Tryz.isAgg0
 z0:=Tryz.sizeOf0
 v0:=Tryz.zeroValue0
 t3:=Tryz.underlying3
 a3:=Tryz.isAgg3
 z3:=Tryz.sizeOf3
 v3:=Tryz.zeroValue3
 t4:=Tryz.underlying4
 a4:=Tryz.isAgg4
 z4:=Tryz.sizeOf4
 v4:=Tryz.zeroValue4
 t22:=Tryz.underlying23
 a22:=Tryz.isAgg23
 z22:=Tryz.sizeOf23
 v22:=Tryz.zeroValue23
 i3:=by kernel_rfl }
def ZhV (cur:Array Value):Nat->List Value->Array Value
 | _,[]=>cur
 | o,v::r=>ZhV (cur.setIfInBounds o v) (o+1) r
theorem ZaF:∀ (vs:List Value) (o:Nat) (cur:Array Value),(ZhV cur o vs).size=cur.size
 | [],_,_=>rfl
 | v::r,o,cur=>by rw[ZhV,ZaF r];simp
theorem Zbe:∀ (vs:List Value) (o:Nat) (cur:Array Value) (j:Nat),j<cur.size->(ZhV cur o vs)[j]?=if o<=j∧j<o+vs.length then vs[j-o]? else cur[j]?
 | [],o,cur,j,_=>by
  rw[ZhV,if_neg (by rw[List.length_nil];omega)]
 | v::r,o,cur,j,hj=>by
  rw[ZhV,Zbe r (o+1) _ j (by simpa using hj)]
  by_cases h:j=o
  ·subst h
   rw[if_neg (by omega),if_pos (by simp)]
   simp[hj]
  ·by_cases h2:o+1<=j∧j<o+1+r.length
   ·rw[if_pos h2,if_pos (by simp;omega)]
    rw[show j-o=(j-(o+1))+1 by omega]
    simp
   ·rw[if_neg h2,if_neg (by simp;omega)]
    simp[show ¬ o=j by omega]
theorem ZaG (g:Nat) (t:TypeId):∀ (vs:List Value) (o:Nat) (w:World) (cur:Array Value),w.heap[g]?=some (.cells cur t (0,0))->(w.setCells g o vs).heap[g]?=some (.cells (ZhV cur o vs) t (0,0))
 | [],_,_,_,h=>h
 | v::r,o,w,cur,h=>by
  rw[World.setCells,ZhV]
  exact ZaG g t r (o+1) _ _ (heap_setCell_same w g o cur t v h)
theorem ZcC {B g:Nat} {a:World} (hg:B<=g):∀ (vs:List Value) (o:Nat) (w:World),Below B a w->Below B a (w.setCells g o vs)
 | [],_,_,h=>h
 | v::r,o,w,h=>by
  rw[World.setCells]
  exact ZcC hg r (o+1) _ (h.setCell hg v)
theorem Zks {B:Nat} {a w:World} (h:Below B a w):Below B a w.drew:=⟨h.os,h.tape,h.output,h.size,h.block⟩
theorem ZaA.ofRow {w:World} {B g cap:Nat} {cur:Array Value} {l:List Int} (hB:B<=g) (hg:w.heap[g]?=some (.cells cur 3 (0,0))) (hn:l.length<=cap) (hm:cap<=maxLen) (hs:cur.size=cap) (hc:∀ j,j<l.length->cur[j]?=some (.int .i64 (l.getD j 0))):
 ZaA w B (.slice (some ⟨g,0,none⟩) l.length cap) l:=by
 refine⟨by rw[Zbj,Nat.mul_one],.inr ⟨g,cap,cur,rfl,hB,hg,hn,hm,by rw[hs,Nat.mul_one],?_⟩⟩
 apply List.ext_getElem?
 intro j
 rw[Nat.mul_one]
 by_cases hj:j<l.length
 ·rw[List.getElem?_take_of_lt hj,Zbt l j hj,Array.getElem?_toList]
  exact hc j hj
 ·rw[List.getElem?_eq_none (by simp;omega),List.getElem?_eq_none (by rw[Zbj];omega)]
theorem ZaA.ofRowN {w:World} {B g cap n:Nat} {cur:Array Value} {l:List Int} (hnl:n=l.length) (hB:B<=g) (hg:w.heap[g]?=some (.cells cur 3 (0,0))) (hn:l.length<=cap) (hm:cap<=maxLen) (hs:cur.size=cap) (hc:∀ j,j<l.length->cur[j]?=some (.int .i64 (l.getD j 0))):
 ZaA w B (.slice (some ⟨g,0,none⟩) n cap) l:=by
 subst hnl
 exact ZaA.ofRow hB hg hn hm hs hc
theorem ZaA.row {w:World} {B:Nat} {v:Value} {l:List Int} (h:ZaA w B v l):(v=.slice none 0 0∧l=[])∨∃ g cap cur,v=.slice (some ⟨g,0,none⟩) l.length cap∧B<=g∧g<w.heap.size∧w.heap[g]?=some (.cells cur 3 (0,0))∧l.length<=cap∧cap<=maxLen∧cur.size=cap∧∀ j,j<l.length->cur[j]?=some (.int .i64 (l.getD j 0)):=by
 rcases h.2 with ⟨h1,h2⟩ | ⟨g,cap,cur,h1,h2,h3,h4,h5,h6,h7⟩
 ·exact .inl ⟨h1,List.eq_nil_of_length_eq_zero h2⟩
 ·refine .inr ⟨g,cap,cur,h1,h2,(Array.getElem?_eq_some_iff.1 h3).1,h3,h4,h5,by rw[h6,Nat.mul_one],fun j hj=>?_⟩
  have e:=Zbt l j hj
  rw[<-h7,Nat.mul_one,List.getElem?_take_of_lt hj,Array.getElem?_toList] at e
  exact e
theorem Zmw (w:World) (q:Nat):(w.drewN q).heap=w.heap:=by
 induction q generalizing w with
 | zero=>rfl
 | succ n ih=>exact ih _
structure Mv (w w':World) (v v':Value):Prop where
 grown:w.grownBy w' v.ownBlock
 lies:∀ b,v'.ownBlock=some b->v.ownBlock=some b∨w.heap.size<=b
theorem Mv.size {w w':World} {v v':Value} (h:Mv w w' v v'):w.heap.size<=w'.heap.size:=h.grown.size
theorem Mv.ofBelow {w w':World} (h:Below w.heap.size w w') (v:Value):Mv w w' v v:=⟨⟨h.os,h.tape,h.output,h.size,fun k hk _=>h.block k hk⟩,fun _ hb=>.inl hb⟩
theorem Mv.refl (w:World) (v:Value):Mv w w v v:=Mv.ofBelow (Below.refl _ _) v
theorem Mv.alloc (w:World) (v:Value) (X:Obj):Mv w (w.alloc X) v v:=Mv.ofBelow ((Below.refl _ _).alloc zL X) v
theorem Mv.trans {w w1 w2:World} {v v1 v2:Value} (h1:Mv w w1 v v1) (h2:Mv w1 w2 v1 v2):Mv w w2 v v2:=by
 have hs:=h1.size
 refine⟨⟨h2.grown.os.trans h1.grown.os,h2.grown.tape.trans h1.grown.tape,h2.grown.output.trans h1.grown.output,Nat.le_trans hs h2.size,fun k hk hne=>?_⟩,fun b hb=>?_⟩
 ·rw[h2.grown.block k (by omega) (fun e=>?_)]
  ·exact h1.grown.block k hk hne
  ·rcases h1.lies k e.symm with h | h
   ·exact hne h.symm
   ·omega
 ·rcases h2.lies b hb with h | h
  ·exact h1.lies b h
  ·exact .inr (by omega)
theorem Mv.drew {w w':World} {v v':Value} (h:Mv w w' v v'):Mv w w'.drew v v':=⟨⟨h.grown.os,h.grown.tape,h.grown.output,h.grown.size,h.grown.block⟩,h.lies⟩
theorem Mv.below {w w':World} {v v':Value} (h:Mv w w' v v') {B:Nat} {l:List Int} (ho:ZaA w B v l) (hB:B<=w.heap.size):Below B w w':=
 ⟨h.grown.os,h.grown.tape,h.grown.output,h.size,fun k hk=>h.grown.block k (by omega) (fun e=>by have:=(World.ownsRow.lt ho k e.symm).1;omega)⟩
theorem Mv.app {w w':World} {v v':Value} {N:Nat} (h:w.grownBy w' v.ownBlock) (hN:w.heap.size=N) (h2:v'.ownBlock=v.ownBlock∨∃ g,v'.ownBlock=some g∧N<=g):Mv w w' v v':=by
 refine⟨h,fun b hb=>?_⟩
 rcases h2 with h2 | ⟨g,h2,h3⟩
 ·exact .inl (by rw[<-h2];exact hb)
 ·rw[h2] at hb
  injection hb with hb
  exact .inr (by omega)
theorem Zdg (g:Nat):∀ (vs:List Value) (o:Nat) (w:World) (k:Nat),k≠g->(w.setCells g o vs).heap[k]?=w.heap[k]?
 | [],_,_,_,_=>rfl
 | v::r,o,w,k,h=>by
  rw[World.setCells,Zdg g r (o+1) _ k h]
  exact Below.heap_setCell _ _ _ _ h
theorem Mv.cells {w w':World} {v:Value} {g n c n' c':Nat} (h:Mv w w' v (.slice (some ⟨g,0,none⟩) n c)) (o:Nat) (vs:List Value):Mv w (w'.setCells g o vs) v (.slice (some ⟨g,0,none⟩) n' c'):=by
 have hb:=ZcC (B:=0) (g:=g) (a:=w') (Nat.zero_le _) vs o w' (Below.refl _ _)
 refine⟨⟨hb.os.trans h.grown.os,hb.tape.trans h.grown.tape,hb.output.trans h.grown.output,Nat.le_trans h.size hb.size,fun k hk hne=>?_⟩,fun b hb=>h.lies b hb⟩
 rw[Zdg g vs o w' k (fun e=>?_)]
 ·exact h.grown.block k hk hne
 ·rcases h.lies g rfl with h' | h'
  ·exact hne (by rw[e,h'])
  ·omega
theorem Mv.made {w w':World} {v v0:Value} (h:Mv w w' v v0) (X:Obj) (n c:Nat):Mv w (w'.alloc X) v (.slice (some ⟨w'.heap.size,0,none⟩) n c):=by
 have hb:=(Below.refl w'.heap.size w').alloc zL X
 refine⟨⟨hb.os.trans h.grown.os,hb.tape.trans h.grown.tape,hb.output.trans h.grown.output,Nat.le_trans h.size hb.size,fun k hk hne=>?_⟩,fun b hb=>.inr ?_⟩
 ·rw[hb.block k (by have:=h.size;omega)]
  exact h.grown.block k hk hne
 ·have:=Zqq hb
  have:=h.size
  omega
theorem Mv.drewN {w w':World} {v v':Value} (h:Mv w w' v v') (q:Nat):Mv w (w'.drewN q) v v':=by
 have hb:=ZaM (Below.refl 0 w') q
 exact⟨⟨hb.os.trans h.grown.os,hb.tape.trans h.grown.tape,hb.output.trans h.grown.output,Nat.le_trans h.size hb.size,fun k hk hne=>by rw[Zmw];exact h.grown.block k hk hne⟩,h.lies⟩
theorem ZaA.put {w:World} {B:Nat} {v:Value} {l:List Int} (h:ZaA w B v l) (j:Nat) (hj:j<l.length) (n:Int):
 ∃ g cap,v=.slice (some ⟨g,0,none⟩) l.length cap∧w.cell? ⟨g,j,none⟩=some (.int .i64 (l.getD j 0))∧w.frozen? ⟨g,j,none⟩=false∧B<=g∧g<w.heap.size∧ZaA (w.setCell ⟨g,j,none⟩ (.int .i64 n)) B v (l.set j n)∧Mv w (w.setCell ⟨g,j,none⟩ (.int .i64 n)) v v:=by
 rcases h.row with ⟨_,h2⟩ | ⟨g,cap,cur,rfl,h2,hlt,h3,h4,h5,h6,h7⟩
 ·subst h2;simp at hj
 ·refine⟨g,cap,rfl,?_,frozen_of_row w g j _ _ h3,h2,hlt,?_,(Mv.refl w (.slice (some ⟨g,0,none⟩) l.length cap)).cells j [_]⟩
  ·rw[cell_of_row w g j _ _ _ h3]
   exact h7 j hj
  ·have e:l.length=(l.set j n).length:=by simp
   rw[e]
   refine ZaA.ofRow h2 (heap_setCell_same w g j _ _ _ h3) (by rw[<-e];exact h4) h5 (by simpa using h6) (fun i hi=>?_)
   rw[<-e] at hi
   by_cases hij:i=j
   ·subst hij
    have:i<cur.size:=by omega
    simp[this,List.getD,hi]
   ·have hne:¬ j=i:=fun h=>hij h.symm
    have:=h7 i hi
    simp[hne,this,List.getD]
theorem Zmx (v:Value) (l:List Int) (w:World) (hr:RdI w v l) (hlim:l.length<=1000000):
 Calls Tryz.prog 40 #[v] w fun e w'=>∃ v',e=.returned v'∧ZaA w' w.heap.size v' l∧Below w.heap.size w w':=by
 obtain⟨ao,cap,rfl,hlc,hcm,hn0,hi,hao⟩:=hr
 cases ao with
 | none=>
  have hc:=hn0 rfl
  have hl:l=[]:=List.eq_nil_of_length_eq_zero (by omega)
  subst hl
  refine Calls.mono (Any.slices_Clone_int_nil Zwa _ cap w) ?_
  rintro e w' ⟨rfl,rfl⟩
  exact⟨_,rfl,ZaA.nil _ _,Below.refl _ _⟩
 | some a=>
  by_cases hl:l=[]
  ·subst hl
   refine Calls.mono (Any.slices_Clone_int_zero Zwa a cap w) ?_
   rintro e w' ⟨v',rfl,ho,_,hb⟩
   exact⟨v',rfl,ho,hb⟩
  ·rcases hao with hao | ⟨b,off,hab,hc⟩
   ·exact absurd hao hl
   ·injection hab with hab
    subst hab
    refine Calls.mono (Any.slices_Clone_int Zwa b off l.length cap l w zL (by omega) hc) ?_
    rintro e w' ⟨v',rfl,ho,_,hb⟩
    refine⟨v',rfl,?_,hb⟩
    rw[List.take_length] at ho
    exact ho
theorem Zkt (v:Value) (l:List Int) (B:Nat) (w:World) (ho:ZaA w B v l) (i j:Nat) (hij:i<j) (hj:j<=l.length) (I J:Int) (hI:I=i) (hJ:J=j):
 Calls Tryz.prog 211 #[v,.int .i64 I,.int .i64 J] w fun e w'=>∃ v',e=.returned v'∧ZaA w' B v' (l.take i++l.drop j)∧Mv w w' v v':=by
 subst hI
 subst hJ
 rcases ho.row with ⟨_,h2⟩ | ⟨g,cap,cur,rfl,hB,hlt,hg,hn,hm,hs,hc⟩
 ·subst h2;simp at hj;omega
 ·unfold maxLen at hm
  refine Calls.mono (Any.slices_Delete_int_cells ZAM g 0 l.length cap i j l w zL hn (by omega) (by omega) hj
   (fun k hk=>by rw[Nat.zero_add,cell_of_row w g k _ _ _ hg];exact hc k hk) (fun k hk=>by rw[Nat.zero_add];exact frozen_of_row w g k _ _ hg)) ?_
  rintro e w' ⟨rfl,q,rfl⟩
  refine⟨_,rfl,?_,((Mv.refl w (.slice (some ⟨g,0,none⟩) l.length cap)).drewN q).cells _ _⟩
  have hlen:(l.take i++l.drop j).length=l.length-(j-i):=by simp;omega
  rw[<-hlen]
  refine ZaA.ofRow hB (ZaG g _ _ _ _ cur (by rw[Zmw];exact hg)) (by omega) (by unfold maxLen;omega) (by rw[ZaF];exact hs) (fun k hk=>?_)
  rw[Zbe _ _ _ _ (by omega),List.take_length,if_pos (by simp at hk ⊢;omega),Nat.sub_zero,List.map_append,List.getElem?_append_left (by simpa using hk)]
  exact Zbt _ k hk
theorem get3 {α:Type} (A vs:List α) (i:Nat) (hi:i<=A.length) (j:Nat):(A.take i++(vs++A.drop i))[j]?=if j<i then A[j]? else if j<i+vs.length then vs[j-i]? else A[j-vs.length]?:=by
 have hl:(A.take i).length=i:=by simp;omega
 by_cases h1:j<i
 ·rw[if_pos h1,List.getElem?_append_left (by omega),List.getElem?_take_of_lt h1]
 ·rw[if_neg h1,List.getElem?_append_right (by omega),hl]
  by_cases h2:j<i+vs.length
  ·rw[if_pos h2,List.getElem?_append_left (by omega)]
  ·rw[if_neg h2,List.getElem?_append_right (by omega),List.getElem?_drop]
   congr 1
   omega
theorem ZfN (A B:List Int):Zal (A++B)=Zal A++Zal B:=by simp[Zal]
theorem ZnC (A:List Int) (i:Nat):Zal (A.take i)=(Zal A).take i:=by simp[Zal]
theorem ZnD (A:List Int) (i:Nat):Zal (A.drop i)=(Zal A).drop i:=by simp[Zal]
theorem Zhv (l:List Int) (i:Nat) (hi:i<=l.length) (x y:Int) (j:Nat) (hj:j<(l.take i++([x,y]++l.drop i)).length):
 some (.int .i64 ((l.take i++([x,y]++l.drop i)).getD j 0))=if j<i then(Zal l)[j]? else if j<i+2 then[Value.int .i64 x,.int .i64 y][j-i]? else(Zal l)[j-2]?:=by
 rw[<-Zbt _ j hj,ZfN,ZfN,ZnC,ZnD]
 exact get3 (Zal l) (Zal [x,y]) i (by rw[Zbj];exact hi) j
theorem ZqS (v:Value) (l:List Int) (B:Nat) (w:World) (ho:ZaA w B v l) (hB:B<=w.heap.size) (hlim:l.length<=1000000) (i:Nat) (hi:i<=l.length) (I:Int) (hI:I=i) (x y:Int) (N:Nat) (hN:N=w.heap.size):
 Calls Tryz.prog 213 #[v,.int .i64 I,.slice (some ⟨N,0,none⟩) 2 2] (w.alloc (.cells #[.int .i64 x,.int .i64 y] 3)) fun e w'=>∃ v',e=.returned v'∧ZaA w' B v' (l.take i++([x,y]++l.drop i))∧Mv w w' v v':=by
 subst hI
 subst hN
 have hm0:Mv w (w.alloc (.cells #[.int .i64 x,.int .i64 y] 3)) v v:=Mv.alloc w v _
 have hv:=heap_alloc_new w (.cells #[.int .i64 x,.int .i64 y] 3)
 have hsz:(w.alloc (.cells #[.int .i64 x,.int .i64 y] 3)).heap.size=w.heap.size+1:=by simp
 have hg0:∀ k,k<w.heap.size->(w.alloc (.cells #[.int .i64 x,.int .i64 y] 3)).heap[k]?=w.heap[k]?:=fun k hk=>Below.heap_alloc _ _ _ hk
 generalize w.alloc (.cells #[.int .i64 x,.int .i64 y] 3)=W at *
 have hlen:(l.take i++([x,y]++l.drop i)).length=l.length+2:=by simp;omega
 have hvs:∀ j u,[Value.int .i64 x,.int .i64 y][j]?=some u->W.cell? ⟨w.heap.size,0+j,none⟩=some u:=fun j u hu=>by
  rw[Nat.zero_add,cell_of_row W w.heap.size j _ _ _ hv]
  simpa using hu
 have h1v:∀ u ∈ [Value.int .i64 x,.int .i64 y],u.oneCell'=true:=fun u hu=>by
  simp at hu
  rcases hu with rfl | rfl <;> rfl
 have hcl:=Zbj l
 have h1c:=Zox l
 have hz:(Value.int .i64 0).cells.size=1:=rfl
 have e3:Zmv.t 3=3:=rfl
 rcases ho.row with ⟨rfl,rfl⟩ | ⟨g,cap,cur,rfl,hBg,hlt,hg,hn,hm,hs,hc⟩
 ·have hi0:i=0:=by simpa using hi
  subst hi0
  refine Calls.mono (Any2.slices_Insert_int_end_grow Zpb none 0 0 w.heap.size 0 2 2 [] [.int .i64 x,.int .i64 y] W (by omega) (by omega) (by omega) (by omega) rfl rfl (fun _=>rfl) (fun a ha=>by cases ha) hvs h1v) ?_
  rintro e w' ⟨rfl,rfl⟩
  rw[e3]
  have hge:=grownCap_ge W (0+2) 0 3
  have hle:=grownCap_le_maxLen W (0+2) 0 3 (by unfold maxLen;omega)
  refine⟨_,rfl,?_,hm0.drew.made _ _ _⟩
  have e2:0+2=([x,y]:List Int).length:=rfl
  show ZaA _ B (.slice (some ⟨W.heap.size,0,none⟩) (0+2) (grownCap W (0+2) 0 3)) [x,y]
  generalize grownCap W (0+2) 0 3=gc at *
  exact ZaA.ofRow (by omega) (heap_alloc_new W.drew _) hge hle (by simp[size_zeroCells,hz];omega) (fun j hj=>by
   have hj':j=0∨j=1:=by simp at hj;omega
   rcases hj' with rfl | rfl <;> (rw[Array.getElem?_append_left (by simp)];rfl))
 ·have hgW:W.heap[g]?=some (.cells cur 3 (0,0)):=(hg0 g hlt).trans hg
  have hcs:∀ j u,(Zal l)[j]?=some u->W.cell? ⟨g,0+j,none⟩=some u:=fun j u hu=>by
   have hj:j<l.length:=by rw[<-hcl];exact(List.getElem?_eq_some_iff.1 hu).1
   rw[Nat.zero_add,cell_of_row W g j _ _ _ hgW,hc j hj,<-Zbt l j hj,hu]
  have hcurj:∀ j,j<l.length->cur[j]?=(Zal l)[j]?:=fun j hj=>by rw[hc j hj,Zbt l j hj]
  have hm':cap<=9223372036854775807:=by unfold maxLen at hm;omega
  by_cases hroom:l.length+2<=cap
  ·have hsp:∀ j,j<l.length+2->(W.cell? ⟨g,0+j,none⟩).isSome=true:=fun j hj=>by
    rw[Nat.zero_add,cell_of_row W g j _ _ _ hgW,Array.getElem?_eq_getElem (by omega)]
    rfl
   have hfz:∀ j,j<l.length+2->W.frozen? ⟨g,0+j,none⟩=false:=fun j hj=>frozen_of_row W g _ _ _ hgW
   by_cases he:i=l.length
   ·subst he
    refine Calls.mono (Any2.slices_Insert_int_end_room Zpb g 0 l.length cap w.heap.size 0 2 2 [.int .i64 x,.int .i64 y] W (by omega) hroom hm' rfl
     (fun j hj=>by rw[Nat.add_assoc];exact hsp _ (by omega)) (fun j hj=>by rw[Nat.add_assoc];exact hfz _ (by omega)) hvs h1v) ?_
    rintro e w' ⟨rfl,rfl⟩
    refine⟨_,rfl,?_,hm0.cells _ _⟩
    rw[<-hlen]
    refine ZaA.ofRow hBg (ZaG g _ _ _ _ cur hgW) (by omega) hm (by rw[ZaF];exact hs) (fun j hj=>?_)
    rw[Zbe _ _ _ _ (by omega),Zhv l l.length zL x y j hj,Nat.zero_add]
    rw[hlen] at hj
    by_cases h1:j<l.length
    ·rw[if_neg (by omega),if_pos h1,hcurj j h1]
    ·rw[if_pos (by simp;omega),if_neg h1,if_pos (by omega)]
   ·refine Calls.mono (Any2.slices_Insert_int_shift Zpb g 0 l.length cap i w.heap.size 0 2 2 (Zal l) [.int .i64 x,.int .i64 y] W (by omega) (by omega) hroom hm' (by omega) hcl rfl hcs hsp hfz hvs h1c h1v
     3 3 2 cap (by simp[World.shape?,hv]) (by simp[World.shape?,hgW,hs]) (by omega) (frozen_of_row W _ _ _ _ hv) (frozen_of_row W _ _ _ _ hv)) ?_
    rintro e w' ⟨rfl,rfl⟩
    refine⟨_,rfl,?_,(Mv.cells (n':=0) (c':=0) hm0.drew _ _).cells _ _⟩
    rw[<-hlen]
    refine ZaA.ofRow hBg (ZaG g _ _ _ _ _ (ZaG g _ _ _ _ cur hgW)) (by omega) hm (by rw[ZaF,ZaF];exact hs) (fun j hj=>?_)
    rw[Zbe _ _ _ _ (by rw[ZaF];omega),Zbe _ _ _ _ (by omega),Zhv l i hi x y j hj,Nat.zero_add,Nat.zero_add]
    rw[hlen] at hj
    have hdl:((Zal l).drop i).length=l.length-i:=by simp[Zal]
    rw[hdl]
    by_cases h1:j<i
    ·rw[if_neg (by omega),if_neg (by omega),if_pos h1,hcurj j (by omega)]
    ·by_cases h2:j<i+2
     ·rw[if_pos (by simp;omega),if_neg h1,if_pos h2]
     ·rw[if_neg (by simp;omega),if_pos (by omega),if_neg h1,if_neg h2,List.getElem?_drop]
      congr 1
      omega
  ·by_cases he:i=l.length
   ·subst he
    refine Calls.mono (Any2.slices_Insert_int_end_grow Zpb (some ⟨g,0,none⟩) l.length cap w.heap.size 0 2 2 (Zal l) [.int .i64 x,.int .i64 y] W (by omega) hn (by omega) (by omega) hcl rfl (fun h=>by cases h)
     (fun a ha j u hu=>by injection ha with ha;subst ha;rw[Addr.add_lit];exact hcs j u hu) hvs h1v) ?_
    rintro e w' ⟨rfl,rfl⟩
    rw[e3]
    have hge:=grownCap_ge W (l.length+2) cap 3
    have hle:=grownCap_le_maxLen W (l.length+2) cap 3 (by unfold maxLen;omega)
    refine⟨_,rfl,?_,hm0.drew.made _ _ _⟩
    show ZaA _ B (.slice (some ⟨W.heap.size,0,none⟩) (l.length+2) (grownCap W (l.length+2) cap 3)) _
    generalize grownCap W (l.length+2) cap 3=gc at *
    rw[<-hlen]
    refine ZaA.ofRow (by omega) (heap_alloc_new W.drew _) (by omega) hle (by simp[size_zeroCells,hz,hcl];omega) (fun j hj=>?_)
    rw[Zhv l l.length zL x y j hj]
    rw[hlen] at hj
    rw[Array.getElem?_append_left (by simp[hcl];omega),List.getElem?_toArray]
    by_cases h1:j<l.length
    ·rw[if_pos h1,List.getElem?_append_left (by omega)]
    ·rw[if_neg h1,if_pos (by omega),List.getElem?_append_right (by omega),hcl]
   ·refine Calls.mono (Any2.slices_Insert_int_grow Zpb g 0 l.length cap i w.heap.size 0 2 2 (Zal l) [.int .i64 x,.int .i64 y] W (by omega) (by omega) hn (by omega) (by omega) hcl rfl hcs hvs h1c h1v) ?_
    rintro e w' ⟨rfl,rfl⟩
    rw[e3]
    have hge:=grownCap_ge W (l.length+2) cap 3
    have hle:=grownCap_le_maxLen W (l.length+2) cap 3 (by unfold maxLen;omega)
    refine⟨_,rfl,?_,((hm0.made _ 0 0).drew.cells (n':=0) (c':=0) _ _).drew.cells _ _⟩
    show ZaA _ B (.slice (some ⟨W.heap.size,0,none⟩) (l.length+2) (grownCap W (l.length+2) cap 3)) _
    generalize grownCap W (l.length+2) cap 3=gc at *
    have hti:((Zal l).take i).length=i:=by simp[hcl];omega
    have hdl:((Zal l).drop i).length=l.length-i:=by simp[Zal]
    refine ZaA.ofRowN hlen.symm (cur:=ZhV (ZhV (((Zal l).take i).toArray++Builtin.zeroCells (Value.int .i64 0).cells (l.length+2-i)++Builtin.zeroCells (Value.int .i64 0).cells (gc-(l.length+2))) i [.int .i64 x,.int .i64 y]) (i+2) ((Zal l).drop i)) (by omega) (ZaG _ _ _ _ _ _ (ZaG _ _ _ _ _ _ (heap_alloc_new W _))) (by omega) hle ?_ (fun j hj=>?_)
    ·rw[ZaF,ZaF]
     simp[size_zeroCells,hz,hti]
     omega
    ·rw[Zhv l i hi x y j hj]
     rw[hlen] at hj
     have hcs1:(((Zal l).take i).toArray++Builtin.zeroCells (Value.int .i64 0).cells (l.length+2-i)++Builtin.zeroCells (Value.int .i64 0).cells (gc-(l.length+2))).size=gc:=by
      simp[size_zeroCells,hz,hti]
      omega
     rw[Zbe _ _ _ _ (by rw[ZaF];omega),Zbe _ _ _ _ (by omega),hdl]
     by_cases h1:j<i
     ·rw[if_neg (by omega),if_neg (by omega),if_pos h1,Array.getElem?_append_left (by simp[size_zeroCells,hz,hti];omega),Array.getElem?_append_left (by simp[hti];omega),List.getElem?_toArray,List.getElem?_take_of_lt h1]
     ·by_cases h2:j<i+2
      ·rw[if_neg (by omega),if_pos (by simp;omega),if_neg h1,if_pos h2]
      ·rw[if_pos (by omega),if_neg h1,if_neg h2,List.getElem?_drop]
       congr 1
       omega
theorem Zbs.row {w:World} {B:Nat} {v:Value} {l:List Ent} (h:Zbs w B v l):(v=.slice none 0 0∧l=[])∨
 ∃ g cap cur,v=.slice (some ⟨g,0,none⟩) l.length cap∧B<=g∧g<w.heap.size∧w.heap[g]?=some (.cells cur 86 (0,0))∧l.length<=cap∧cap<=maxLen∧cur.size=cap*3∧∀ j,j<l.length*3->cur[j]?=(Zag l)[j]?:=by
 rcases h.2 with ⟨hv,hn⟩ | ⟨g,cap,cur,hv,hb,hg,hnc,hcm,hcs,htake⟩
 ·have e:l=[]:=List.eq_nil_of_length_eq_zero hn
  subst e
  exact .inl ⟨hv,rfl⟩
 ·refine .inr ⟨g,cap,cur,hv,hb,(Array.getElem?_eq_some_iff.1 hg).1,hg,hnc,hcm,hcs,fun j hj=>?_⟩
  rw[<-htake,List.getElem?_take_of_lt hj,Array.getElem?_toList]
theorem Zbs.ofRow {w:World} {B g cap n:Nat} {cur:Array Value} {l:List Ent} (hn:n=l.length) (hB:B<=g) (hg:w.heap[g]?=some (.cells cur 86 (0,0))) (hc:l.length<=cap) (hm:cap<=maxLen) (hs:cur.size=cap*3) (hcell:∀ j,j<l.length*3->cur[j]?=(Zag l)[j]?):
 Zbs w B (.slice (some ⟨g,0,none⟩) n cap) l:=by
 subst hn
 refine⟨by rw[Zaw],.inr ⟨g,cap,cur,rfl,hB,hg,hc,hm,hs,?_⟩⟩
 apply List.ext_getElem?
 intro j
 by_cases hj:j<l.length*3
 ·rw[List.getElem?_take_of_lt hj,Array.getElem?_toList]
  exact hcell j hj
 ·rw[List.getElem?_eq_none (by simp;omega),List.getElem?_eq_none (by rw[Zaw];omega)]
theorem Zbs.empty (w:World) (B:Nat) (hB:B<=w.heap.size):Zbs (w.alloc (.cells #[] 86)) B (.slice (some ⟨w.heap.size,0,none⟩) 0 0) []:=
 Zbs.ofRow (l:=[]) rfl hB (heap_alloc_new w _) zL (Nat.zero_le _) rfl (fun j hj=>absurd hj (by simp))
theorem Zfh:∀ (l:List Ent) (i:Nat),Zag (l.take i)=(Zag l).take (i*3)
 | l,0=>by simp[Zag]
 | [],i+1=>by simp[Zag]
 | x::t,i+1=>by
  rw[List.take_succ_cons,show(i+1)*3=i*3+1+1+1 by omega]
  show Value.int .i64 x.proc::.int .i64 x.seq::.int .i64 x.resp::Zag (t.take i)=(Value.int .i64 x.proc::.int .i64 x.seq::.int .i64 x.resp::Zag t).take (i*3+1+1+1)
  rw[Zfh t i]
  rfl
theorem Zfi:∀ (l:List Ent) (i:Nat),Zag (l.drop i)=(Zag l).drop (i*3)
 | l,0=>by simp
 | [],i+1=>by simp[Zag]
 | x::t,i+1=>by
  rw[List.drop_succ_cons,show(i+1)*3=i*3+1+1+1 by omega]
  show Zag (t.drop i)=(Value.int .i64 x.proc::.int .i64 x.seq::.int .i64 x.resp::Zag t).drop (i*3+1+1+1)
  rw[Zfi t i]
  rfl
theorem Zbs.cut {w:World} {B g n cap:Nat} {l:List Ent} (h:Zbs w B (.slice (some ⟨g,0,none⟩) n cap) l) (i:Nat) (hi:i<=l.length):Zbs w B (.slice (some ⟨g,0,none⟩) i cap) (l.take i):=by
 rcases h.row with ⟨h1,-⟩ | ⟨g',cap',cur,h1,hB,hlt,hg,hc,hm,hs,hcell⟩
 ·cases h1
 ·injection h1 with h1 h2 h3
  injection h1 with h1
  injection h1 with h1
  subst h1 h3
  exact Zbs.ofRow (by rw[List.length_take];omega) hB hg (by rw[List.length_take];omega) hm hs (fun j hj=>by
   rw[List.length_take] at hj
   rw[hcell j (by omega),Zfh,List.getElem?_take_of_lt (by omega)])
theorem Zbs.cells {w:World} {B g n cap:Nat} {l:List Ent} (h:Zbs w B (.slice (some ⟨g,0,none⟩) n cap) l) (o:Nat) (ho:l.length*3<=o) (vs:List Value):Zbs (w.setCells g o vs) B (.slice (some ⟨g,0,none⟩) n cap) l:=by
 rcases h.row with ⟨h1,-⟩ | ⟨g',cap',cur,h1,hB,hlt,hg,hc,hm,hs,hcell⟩
 ·cases h1
 ·injection h1 with h1 h2 h3
  injection h1 with h1
  injection h1 with h1
  subst h1 h3
  exact Zbs.ofRow h2 hB (ZaG g _ vs o w cur hg) hc hm (by rw[ZaF];exact hs) (fun j hj=>by
   rw[Zbe _ _ _ _ (by omega),if_neg (by omega)]
   exact hcell j hj)
theorem Zbs.put {w:World} {B g n cap:Nat} {l:List Ent} (h:Zbs w B (.slice (some ⟨g,0,none⟩) n cap) l) (i:Nat) (hi:i<l.length) (e:Ent):Zbs (w.setCells g (i*3) (Zag [e])) B (.slice (some ⟨g,0,none⟩) n cap) (l.set i e):=by
 rcases h.row with ⟨h1,-⟩ | ⟨g',cap',cur,h1,hB,hlt,hg,hc,hm,hs,hcell⟩
 ·cases h1
 ·injection h1 with h1 h2 h3
  injection h1 with h1
  injection h1 with h1
  subst h1 h3
  have hl3:(Zag [e]).length=3:=Zaw [e]
  refine Zbs.ofRow (by rw[List.length_set];exact h2) hB (ZaG g _ _ _ w cur hg) (by rw[List.length_set];exact hc) hm (by rw[ZaF];exact hs) (fun j hj=>?_)
  rw[List.length_set] at hj
  obtain⟨q,k,hk,rfl⟩:∃ q k,k<3∧j=q*3+k:=⟨j / 3,j % 3,Nat.mod_lt _ (by decide),by omega⟩
  rw[Zbe _ _ _ _ (by omega),hl3,Zbv (l.set i e) q k (by rw[List.length_set];omega) hk]
  by_cases hq:q=i
  ·subst hq
   rw[if_pos (by omega),show q*3+k-q*3=0*3+k by omega,Zbv [e] 0 k (by simp) hk]
   congr 2
   simp[List.getD,hi]
  ·rw[if_neg (by omega),hcell _ (by omega),Zbv l q k (by omega) hk]
   congr 2
   have:¬ i=q:=fun h=>hq h.symm
   simp[List.getD,this]
theorem RdE.cells {w:World} {a:Addr} {n cap:Nat} {l:List Ent} (h:RdE w (.slice (some a) n cap) l):∀ j u,(Zag l)[j]?=some u->w.cell? (a.add j)=some u:=by
 obtain⟨ao,c,h1,h2,h3,hn,hw,h4⟩:=h
 injection h1 with h1 _ _
 subst h1
 intro j u hu
 have hj:j<l.length*3:=by rw[<-Zaw];exact(List.getElem?_eq_some_iff.1 hu).1
 rcases h4 with h4 | ⟨b,off,h5,h6⟩
 ·rw[h4] at hj
  simp at hj
 ·injection h5 with h5
  subst h5
  obtain⟨q,k,hk,rfl⟩:∃ q k,k<3∧j=q*3+k:=⟨j / 3,j % 3,Nat.mod_lt _ (by decide),by omega⟩
  rw[Zbv l q k (by omega) hk] at hu
  obtain⟨c0,c1,c2⟩:=h6 q (by omega)
  rw[Addr.add_lit,<-Nat.add_assoc]
  match k,hk with
  | 0,_=>exact c0.trans hu
  | 1,_=>exact c1.trans hu
  | 2,_=>exact c2.trans hu
theorem Zku (w:World) (ty:TypeId) (B:Nat) (v:Value) (l:List Ent) (h:Zbs w B v l) (vx:Value) (m:List Ent) (hr:RdE w vx m) (hlim:l.length+m.length<=1000000) (hbase:B<=w.heap.size):
 ∃ v' w',(Builtin.append_ #[39,39] ty #[v,vx]).run Tryz.prog w=.ok v' w'∧Zbs w' B v' (l++m)∧Below B w w':=by
 obtain⟨i0,hi,hz0,hz1,hz2⟩:=info_parts Zjs
 have hr':=hr
 obtain⟨ao,cap,rfl,hlc,hcm,hn0,hw,hao⟩:=hr
 cases ao with
 | none=>
  have hc:=hn0 rfl
  subst hc
  have hl:m=[]:=List.eq_nil_of_length_eq_zero (by omega)
  subst hl
  have hrun:=run_append_owned_none (P:=Tryz.prog) w B 39 ty 86 i0 3 Tryz.underlying39 hi v l.length (Zag l) h
  exact⟨v,w,hrun,by rw[List.append_nil];exact h,Below.refl _ _⟩
 | some a=>
  obtain⟨v',w',hrun,ho,hg,_⟩:=run_append_own (P:=Tryz.prog) w B 39 ty 86 i0 _ 3 24 Tryz.underlying39 hi hz0 hz1 hz2 rfl (by decide) v l.length (Zag l) h
   a m.length cap (Zag m) (Zaw m) hr'.cells (ZcB m) (by unfold maxLen;omega) (by omega) hbase
  refine⟨v',w',hrun,?_,?_⟩
  ·unfold Zbs
   rw[List.length_append,Zdo]
   exact ho
  ·exact(Below.refl _ _).grown hg hbase (fun k hk=>(World.ownsRow.lt h k hk).1)
theorem ZcP (w:World) {ops:Array Oper} {rest:List Oper} {o:Oper} {a:Act} {Q:Exit->Act->World->Prop} (hgd:o.guard=none) (s x:Operand)
 (ho:o.op=.call { callee:=.builtin .append,args:=#[s,x],argTypes:=#[39,39] })
 (B:Nat) (v:Value) (l:List Ent) (hs:a.eval s=v) (hown:Zbs w B v l) (vx:Value) (m:List Ent) (hx:a.eval x=vx) (hr:RdE w vx m)
 (hlim:l.length+m.length<=1000000) (hbase:B<=w.heap.size)
 (h:∀ v' w',Zbs w' B v' (l++m)->Below B w w'->wpList Tryz.prog ops Q rest (a.put o.dst v') w'):wpList Tryz.prog ops Q (o::rest) a w:=
 wpList_plain hgd fun _ hK=>by
  obtain⟨v',w',hrun,h2,h3⟩:=Zku w o.type B v l hown vx m hr hlim hbase
  unfold Oper.wp execOp
  simp only [ho,resolve,invoke,builtin,Sem.run_bind,Sem.run_pure,Result.andThen_ok,List.map_toArray,List.map_cons,List.map_nil,hs,hx,hrun]
  exact hK _ _ (h v' w' h2 h3)
theorem Zmy (v:Value) (l:List Ent) (w:World) (hr:RdE w v l) (hlim:l.length<=1000000):
 Calls Tryz.prog 41 #[v] w fun e w'=>∃ v',e=.returned v'∧Zbs w' w.heap.size v' l∧Below w.heap.size w w':=by
 have HR:=ZZ hr
 obtain⟨ao,cap,rfl,hlc,-,hn,-⟩:=hr
 cases ao with
 | none=>
  obtain rfl:cap=0:=hn rfl
  obtain rfl:l=[]:=List.eq_nil_of_length_eq_zero (by omega)
  clear hn hlc
  have hnil:∀ w,(binOp .eql 39 (.slice none 0 0) (.slice none 0 0)).run Tryz.prog w=.ok (.bool true) w:=fun w=>run_eql_slice_nil w _ _ none 0 0 Tryz.underlying39
  go_enter Tryz.func41,Tryz.ntmps41
  go_wp2
  go_ret
  exact⟨_,rfl,Zbs.nil _ _,Below.refl _ _⟩
 | some a=>
  clear hn
  have hnil:∀ w,(binOp .eql 39 (.slice (some a) l.length cap) (.slice none 0 0)).run Tryz.prog w=.ok (.bool false) w:=fun w=>run_eql_slice_nil w _ _ (some a) _ _ Tryz.underlying39
  have HB0:Hid (∀ X,Below w.heap.size w (w.alloc X)):=fun X=>(Below.refl _ _).alloc zL X
  have HO0:Hid (Zbs (w.alloc (.cells #[] 86)) w.heap.size (.slice (some ⟨w.heap.size,0,none⟩) 0 0) []):=ZZ (Zbs.empty w _ zL)
  go_enter Tryz.func41,Tryz.ntmps41
  go_wp2_with(at_builtin;refine ZcP _ rfl _ _ rfl w.heap.size _ [] rfl HO0.out _ l rfl (HR.out.below (HB0.out _) zL) (by simp;omega) (by simp) ?_)
  intro v1 W1 ho1 hb1
  have HO1:=ZZ ho1
  have HB1:=ZZ ((HB0.out _).trans hb1)
  clear ho1 hb1
  go_wp2
  go_ret
  exact⟨_,rfl,HO1.out,HB1.out⟩
def Zzq (p:Ent->Bool) (l:List Ent) (k:Int):Prop:=(k=-1∧∀ j,j<l.length->p (l.getD j ZaV)=false)∨∃ i:Nat,k=(i:Int)∧i<l.length∧(∀ j,j<i->p (l.getD j ZaV)=false)∧p (l.getD i ZaV)=true
theorem Zgs (g R:Nat) (p:Ent->Bool) (v:Value) (l:List Ent) (w:World) (hr:RdE w v l)
 (eg:∀ args W,(callFunc g args).run Tryz.prog W=.ok (.enter g args) W)
 (hp:∀ W e,Below w.heap.size w W->Calls Tryz.prog g #[ZtO e,.pointer (some ⟨R,0,none⟩)] W fun x w'=>x=.returned (.bool (p e))∧Below W.heap.size W w'):
 Calls Tryz.prog 88 #[v,.func (.func g) #[] #[.pointer (some ⟨R,0,none⟩)]] w fun x w'=>∃ k:Int,x=.returned (.int .i64 k)∧Zzq p l k∧Below w.heap.size w w':=by
 have HR:=ZZ hr
 have HP:=ZZ hp
 obtain⟨va,vc,rfl,hlc,hcm,-,-,hao⟩:=hr
 have HAO:=ZZ hao
 have hml:(l.length:Int)<=9223372036854775807:=by unfold maxLen at hcm;omega
 clear hp hlc hcm hao
 go_enter Tryz.func88,Tryz.ntmps88
 go_wp2
 go_loopw[8] (fun vi wr=>∃ q:Nat,vi=.int .i64 (q:Int)∧q<=l.length∧Hid (∀ j,j<q->p (l.getD j ZaV)=false)∧Hid (Below w.heap.size w wr)) (fun vi _=>l.length-(intOf vi).toNat)
 case atStart=>exact⟨0,rfl,Nat.zero_le _,ZZ (fun j hj=>absurd hj (Nat.not_lt_zero _)),Below.refl _ _⟩
 case round=>
  obtain⟨q,rfl,hq,hN,hB⟩:=hrel
  by_cases hlt:q<l.length
  case neg=>
   obtain rfl:q=l.length:=by omega
   go_wp2
   go_ret
   exact⟨-1,rfl,.inl ⟨rfl,hN.out⟩,hB.out⟩
  have hqi:(q:Int)<(l.length:Int):=by omega
  rcases HAO.out with h0 | ⟨b,off,rfl,hc⟩
  ·rw[h0] at hlt;simp at hlt
  obtain⟨c0,c1,c2⟩:=(hc q hlt).keep (hB.out.block b (hc q hlt).lt)
  have HC:=ZZ (HP.out wr (l.getD q ZaV) hB.out)
  have HX:Hid (∀ j,j<q+1->j=q∨j<q):=ZZ (fun j hj=>by omega)
  obtain⟨e,he⟩:∃ e,e=l.getD q ZaV:=⟨_,rfl⟩
  rw[<-he] at HC c0 c1 c2
  have HE:=ZZ he
  obtain⟨pe,hpe⟩:∃ pe,pe=p e:=⟨_,rfl⟩
  rw[<-hpe] at HC
  have HPE:=ZZ hpe
  clear he hc HP HAO HR hpe
  unfold ZtO at HC
  obtain⟨ep,es,er⟩:=e
  simp only at HC c0 c1 c2
  go_wp2_with fail
  refine HC.out.mono ?_
  rintro x W1 ⟨rfl,hb1⟩
  have HB1:=ZZ (hB.out.trans (hb1.mono hB.out.size))
  clear hb1 HC
  cases pe with
  | true=>
   go_wp2
   go_ret
   exact⟨(q:Int),rfl,.inr ⟨q,rfl,hlt,hN.out,by rw[<-HE.out];exact HPE.out.symm⟩,HB1.out⟩
  | false=>
   go_wp2
   go_roundw
   case rel=>exact⟨q+1,by go_num,by omega,ZZ (fun j hj=>by
    rcases HX.out j hj with h | h
    ·rw[h,<-HE.out];exact HPE.out.symm
    ·exact hN.out j h),HB1⟩
   case measure=>simp[intOf];omega
theorem ZgM (p:Ent->Bool) (l:List Ent) (j:Nat) (hj:j<l.length):(l.take (j+1)).filter (fun e=>!p e)=(l.take j).filter (fun e=>!p e)++if p (l.getD j ZaV)=true then[] else[l.getD j ZaV]:=by
 have e1:l.take (j+1)=l.take j++[l.getD j ZaV]:=by
  rw[List.take_add_one,List.getElem?_eq_getElem hj]
  simp[List.getD,hj]
 rw[e1,List.filter_append]
 congr 1
 generalize l.getD j ZaV=x
 cases h:p x <;> simp[h]
theorem Zkv (p:Ent->Bool) (l:List Ent) (i:Nat) (hi:i<=l.length) (h:∀ j,j<i->p (l.getD j ZaV)=false):(l.take i).filter (fun e=>!p e)=l.take i:=by
 rw[List.filter_eq_self]
 intro e he
 obtain⟨j,hj,rfl⟩:=List.getElem_of_mem he
 rw[List.length_take] at hj
 have:=h j (by omega)
 rw[List.getElem_take]
 simp only [List.getD,List.getElem?_eq_getElem (show j<l.length by omega),Option.getD_some] at this
 simp[this]
def Zjg (p:Ent->Bool) (l L:List Ent) (i j:Nat):Prop:=L.length=l.length∧L.take i=(l.take j).filter (fun e=>!p e)∧L.drop j=l.drop j∧i<j
theorem Zjg.start {p:Ent->Bool} {l:List Ent} {i:Nat} (hi:i<l.length) (h:∀ j,j<i->p (l.getD j ZaV)=false) (hp:p (l.getD i ZaV)=true):Zjg p l l i (i+1):=by
 refine⟨rfl,?_,rfl,Nat.lt_succ_self _⟩
 rw[ZgM p l i hi,if_pos hp,List.append_nil,Zkv p l i (by omega) h]
theorem Zjg.at {p:Ent->Bool} {l L:List Ent} {i j:Nat} (h:Zjg p l L i j):L.getD j ZaV=l.getD j ZaV:=by
 obtain⟨h1,h2,h3,h4⟩:=h
 have e1:(L.drop j).getD 0 ZaV=L.getD j ZaV:=by simp[List.getD]
 have e2:(l.drop j).getD 0 ZaV=l.getD j ZaV:=by simp[List.getD]
 rw[<-e1,<-e2,h3]
theorem Zpc {L l:List Ent} {j:Nat} (h:L.drop j=l.drop j):L.drop (j+1)=l.drop (j+1):=by
 rw[<-List.drop_drop,<-List.drop_drop,h]
theorem Zjg.skip {p:Ent->Bool} {l L:List Ent} {i j:Nat} (h:Zjg p l L i j) (hj:j<l.length) (hp:p (l.getD j ZaV)=true):Zjg p l L i (j+1):=by
 obtain⟨h1,h2,h3,h4⟩:=h
 refine⟨h1,?_,Zpc h3,by omega⟩
 rw[ZgM p l j hj,if_pos hp,List.append_nil,h2]
theorem Zjg.keep {p:Ent->Bool} {l L:List Ent} {i j:Nat} (h:Zjg p l L i j) (hj:j<l.length) (hp:p (l.getD j ZaV)=false):Zjg p l (L.set i (l.getD j ZaV)) (i+1) (j+1):=by
 obtain⟨h1,h2,h3,h4⟩:=h
 refine⟨by rw[List.length_set,h1],?_,?_,by omega⟩
 ·rw[ZgM p l j hj,if_neg (by rw[hp];simp),<-h2,List.take_add_one,List.take_set_of_le zL]
  congr 1
  rw[List.getElem?_set_self (by omega)]
  rfl
 ·rw[List.drop_set_of_lt (by omega)]
  exact Zpc h3
theorem Zbs.put3 {w:World} {B g n cap:Nat} {l:List Ent} (h:Zbs w B (.slice (some ⟨g,0,none⟩) n cap) l) (i:Nat) (hi:i<l.length) (p s r:Int) (o0 o1 o2:Nat) (h0:o0=i*3) (h1:o1=i*3+1) (h2:o2=i*3+2):
 Zbs (((w.setCell ⟨g,o0,none⟩ (.int .i64 p)).setCell ⟨g,o1,none⟩ (.int .i64 s)).setCell ⟨g,o2,none⟩ (.int .i64 r)) B (.slice (some ⟨g,0,none⟩) n cap) (l.set i ⟨p,s,r⟩):=by
 subst h0 h1 h2
 exact h.put i hi ⟨p,s,r⟩
theorem Zbs.ent {w:World} {B g n cap:Nat} {l:List Ent} (h:Zbs w B (.slice (some ⟨g,0,none⟩) n cap) l) (i:Nat) (hi:i<l.length):ZoW w g (i*3) (l.getD i ZaV)∧(∀ k,w.frozen? ⟨g,k,none⟩=false)∧B<=g∧l.length<=cap∧cap<=maxLen∧n=l.length:=by
 rcases h.row with ⟨h1,-⟩ | ⟨g',cap',cur,h1,hB,hlt,hg,hc,hm,hs,hcell⟩
 ·cases h1
 ·injection h1 with h1 h2 h3
  injection h1 with h1
  injection h1 with h1
  subst h1 h3
  have hx:∀ k,k<3->w.cell? ⟨g,i*3+k,none⟩=(Zfz (l.getD i ZaV))[k]?:=fun k hk=>by
   rw[cell_of_row w g (i*3+k) _ _ _ hg,hcell _ (by omega),Zbv l i k hi hk]
  exact⟨⟨hx 0 (by decide),hx 1 (by decide),hx 2 (by decide)⟩,fun k=>frozen_of_row w g k _ _ hg,hB,hc,hm,h2⟩
theorem ZqT {C:Nat} {w0 w:World} (h:Below C w0 w) (R:Nat) (hR:C<=R) (o0 o1 o2:Nat) (x0 x1 x2:Value):Below C w0 (((w.setCell ⟨R,o0,none⟩ x0).setCell ⟨R,o1,none⟩ x1).setCell ⟨R,o2,none⟩ x2):=
 ((h.setCell hR _).setCell hR _).setCell hR _
theorem ZnE (w:World):(zeroValue 86).run Tryz.prog w=.ok (.agg #[.int .i64 0,.int .i64 0,.int .i64 0]) w:=Tryz.zeroValue86 w
theorem Zkw (g R:Nat) (p:Ent->Bool) (v:Value) (l:List Ent) (B:Nat) (w:World) (ho:Zbs w B v l) (hI:∀ e ∈ l,Zor e) (hBw:B<=w.heap.size) (hlim:l.length<=1000000)
 (eg:∀ args W,(callFunc g args).run Tryz.prog W=.ok (.enter g args) W)
 (hp:∀ W e,Below B w W->Calls Tryz.prog g #[ZtO e,.pointer (some ⟨R,0,none⟩)] W fun x w'=>x=.returned (.bool (p e))∧Below W.heap.size W w'):
 Calls Tryz.prog 87 #[v,.func (.func g) #[] #[.pointer (some ⟨R,0,none⟩)]] w fun x w'=>∃ v',x=.returned v'∧Zbs w' B v' (l.filter (fun e=>!p e))∧Below B w w':=by
 have HO:=ZZ ho
 have HP:=ZZ hp
 have HIX:=ZZ (Zgs g R p v l w (ho.rd hI) eg (fun W e h=>hp W e (h.mono hBw)))
 obtain⟨va,vc,hv⟩:=ho.shape
 subst hv
 clear ho hp
 go_enter Tryz.func87,Tryz.ntmps87
 go_wp2_with fail
 refine HIX.out.mono ?_
 rintro x W0 ⟨k,rfl,hf,hb0⟩
 have HB0:=ZZ (hb0.mono hBw)
 have HO0:=ZZ (HO.out.below hb0 zL)
 clear HIX hb0 HO
 rcases hf with ⟨rfl,hf⟩ | ⟨i0,rfl,hi0,hf,hpi⟩
 ·have HE:Hid (l.filter (fun e=>!p e)=l):=ZZ (by
   have:=Zkv p l l.length zL hf
   rwa [List.take_length] at this)
  clear hf
  go_wp2
  go_ret
  exact⟨_,rfl,by rw[HE.out];exact HO0.out,HB0.out⟩
 have HD0:=ZZ (Zjg.start hi0 hf hpi)
 clear hf hpi
 rcases HO0.out.row with ⟨-,h2⟩ | ⟨gr,cap,cur,h1,hBg,-,-,hlc,hcm,-,-⟩
 ·rw[h2] at hi0;simp at hi0
 injection h1 with h1 _ h3
 subst h1 h3
 have hml:(l.length:Int)<=1000000:=by omega
 clear cur hcm
 have ei:((i0:Int) == -1)=false:=beq_eq_false_iff_ne.2 (by omega)
 go_wp2
 go_loopw[5,6] (fun v5 v6 wr=>∃ (i j:Nat) (L:List Ent),v5=.int .i64 (i:Int)∧v6=.int .i64 (j:Int)∧i<j∧j<=l.length∧Hid (Zbs wr B (.slice (some ⟨gr,0,none⟩) l.length vc) L)∧Hid (Zjg p l L i j)∧Hid (Below B w wr)) (fun _ v6 _=>l.length-(intOf v6).toNat)
 case atStart=>exact⟨i0,i0+1,l,rfl,by go_num,by omega,by omega,HO0,HD0,HB0⟩
 case round=>
  clear HO0 HD0 HB0 ei
  obtain⟨i,j,L,rfl,rfl,hij,hjl,hO,hD,hB⟩:=hrel
  by_cases hlt:j<l.length
  case neg=>
   obtain rfl:j=l.length:=by omega
   have hL:L.length=l.length:=hD.out.1
   have HT:Hid (L.take i=l.filter (fun e=>!p e)):=ZZ (by rw[hD.out.2.1,List.take_length])
   have hE:=(hO.out.ent i (by omega)).2.1
   have HK:Hid (∀ ty,(Builtin.clear_ #[39] ty #[.slice (some ⟨gr,i*3,none⟩) (l.length-i) (vc-i)]).run Tryz.prog wr=.ok (.tuple #[]) (wr.setCells gr (i*3) (Zes (l.length-i)))):=ZZ (fun ty=>
    Zkr wr _ _ _ Tryz.underlying39 ZnE gr (i*3) (l.length-i) (vc-i) (by omega) (fun k hk=>by
     obtain⟨q,r,hr,rfl⟩:∃ q r,r<3∧k=q*3+r:=⟨k / 3,k % 3,Nat.mod_lt _ (by decide),by omega⟩
     have:=(hO.out.ent (i+q) (by omega)).1
     rw[show i*3+(q*3+r)=(i+q)*3+r by omega]
     match r,hr with
     | 0,_=>rw[show(i+q)*3+0=(i+q)*3 from rfl,this.1];rfl
     | 1,_=>rw[this.2.1];rfl
     | 2,_=>rw[this.2.2];rfl) (fun k _=>hE _))
   have HOC:=ZZ ((hO.out.cut i (by omega)).cells (i*3) (by rw[List.length_take];omega) (Zes (l.length-i)))
   rw[HT.out] at HOC
   have HBC:=ZZ (ZcC hBg (Zes (l.length-i)) (i*3) wr hB.out)
   have hvi:¬ (vc=i):=by omega
   have hb1:(i:Int)<=(l.length:Int):=by omega
   have hb2:(i:Int)<=(vc:Int):=by omega
   have hb3:i<=l.length:=by omega
   have hb4:i<=vc:=by omega
   clear hE
   have hK:=HK.out
   go_wp2
   go_ret
   exact⟨_,rfl,HOC.out,HBC.out⟩
  have hji:(j:Int)<(l.length:Int):=by omega
  have hLl:L.length=l.length:=hD.out.1
  obtain⟨⟨c0,c1,c2⟩,-,-⟩:=hO.out.ent j (by omega)
  rw[hD.out.at] at c0 c1 c2
  have HSK:=ZZ (hD.out.skip hlt)
  have HKP:=ZZ (hD.out.keep hlt)
  obtain⟨e,he⟩:∃ e,e=l.getD j ZaV:=⟨_,rfl⟩
  rw[<-he] at c0 c1 c2 HSK HKP
  obtain⟨pe,hpe⟩:∃ pe,pe=p e:=⟨_,rfl⟩
  have HC:=ZZ (fun W h=>HP.out W e h)
  rw[<-hpe] at HC HSK HKP
  obtain⟨ep,es,er⟩:=e
  unfold ZtO at HC
  simp only at HC c0 c1 c2 HKP
  clear he hpe hD
  have HB2:Hid (∀ X,Below B w (wr.alloc X)):=ZZ (fun X=>hB.out.alloc (Nat.le_trans hBw hB.out.size) X)
  have HX:Hid (Be (wr.alloc (.cells #[.int .i64 ep,.int .i64 es,.int .i64 er] 86)) wr.heap.size #[.int .i64 ep,.int .i64 es,.int .i64 er]):=ZZ (heap_alloc_new wr _)
  have HOW:Hid (∀ X,Zbs (wr.alloc X) B (.slice (some ⟨gr,0,none⟩) l.length vc) L):=ZZ (fun X=>hO.out.below ((Below.refl _ _).alloc zL X) zL)
  go_wp2_with fail
  refine(HC.out _ (HB2.out _)).mono ?_
  rintro x W1 ⟨rfl,hb1⟩
  have HB3:=ZZ ((HB2.out (.cells #[.int .i64 ep,.int .i64 es,.int .i64 er] 86)).trans (hb1.mono (by have:=hB.out.size;simp;omega)))
  have HX3:=ZZ (HX.out.below hb1 zL)
  have HO3:=ZZ ((HOW.out (.cells #[.int .i64 ep,.int .i64 es,.int .i64 er] 86)).below hb1 zL)
  clear hb1 HC HB2 HX HOW c0 c1 c2 hO hB
  cases pe with
  | true=>
   go_wp2
   go_roundw
   case rel=>exact⟨i,j+1,L,rfl,by go_num,by omega,by omega,HO3,ZZ (HSK.out (by simp)),HB3⟩
   case measure=>simp[intOf];omega
  | false=>
   obtain⟨⟨d0,d1,d2⟩,hfz,hBg2,-⟩:=HO3.out.ent i (by omega)
   obtain⟨b0,f0⟩:=HX3.out.cell 0
   obtain⟨b1,f1⟩:=HX3.out.cell 1
   obtain⟨b2,f2⟩:=HX3.out.cell 2
   have z0:=hfz (i*3)
   have z1:=hfz (i*3+1)
   have z2:=hfz (i*3+2)
   have hii:(i:Int)<(l.length:Int):=by omega
   have hil:i<l.length:=by omega
   clear hfz
   go_wp2
   go_roundw
   case rel=>exact⟨i+1,j+1,L.set i ⟨ep,es,er⟩,by go_num,by go_num,by omega,by omega,ZZ (HO3.out.put3 i (by omega) ep es er _ _ _ (by omega) (by omega) (by omega)),ZZ (HKP.out (by simp)),ZZ (ZqT HB3.out gr hBg _ _ _ _ _ _)⟩
   case measure=>simp[intOf];omega
end Go.Proofs.YtfiffndhehkapaaGreatDoor
