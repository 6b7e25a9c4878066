import Derived.Test.YtnahjngbneicaaaGreatDoorBlockTakeB
namespace Go.Proofs.YtnahjngbneicaaaGreatDoor
set_option maxRecDepth 100000
open Go.RowKit
structure TIn (w W:World) (cs:Array Value) (v:Value) (m:List UInt8):Prop where
 box:Br W w.heap.size cs
 rd:Rd W v m
 below:Below w.heap.size w W
theorem TIn.next {w W W':World} {cs:Array Value} {v v':Value} {m m':List UInt8} (h:TIn w W cs v m) (hb:Below W.heap.size W W') (hr:Rd W' v' m'):TIn w W' cs v' m':=
 ⟨h.box.below hb zL,hr,h.below.trans (hb.mono h.below.size)⟩
theorem TIn.set {w W:World} {cs:Array Value} {v:Value} {m:List UInt8} (h:TIn w W cs v m) (j:Nat) {n:Int} (hn:cs[j]?=some (.int .i64 n)) (x:Value):TIn w (W.setCell ⟨w.heap.size,j,none⟩ x) (cs.setIfInBounds j x) v m:=
 ⟨h.box.set j x,h.rd.setInt ((h.box.cell j).1.trans hn),h.below.setCell zL _⟩
set_option maxHeartbeats 2000000 in
theorem ZkK (v:Value) (m:List UInt8) (w:World) (hr:Rd w v m) (hlim:m.length<=1000000):
 Calls Tryz.prog 169 #[v] w fun e w'=>∃ v',e=.returned (.tuple #[ZrL (ZcF m).1,.int .i64 (ZcF m).2.1,v',.bool (ZcF m).2.2.2])∧Rd w' v' (ZcF m).2.2.1∧Below w.heap.size w w':=by
 obtain⟨m1,m2,m3,h1,h2,h3,he⟩:=ZgR m
 have HE:=ZZ he
 have l1:=ZbF (Zab m).2 m
 have l2:=ZbF (Zaf m1).2 m1
 have l3:=ZbF (Zay m2).2 m2
 rw[<-h1] at l1
 rw[<-h2] at l2
 rw[<-h3] at l3
 have HG:Hid (∀ W v,Rd W v m->Calls Tryz.prog 167 #[v,.func (.func 168) #[] #[]] W fun e w'=>∃ v',e=.returned (.tuple #[.int .i64 ((Zab m).1:Nat),v',.bool (decide ((Zab m).2≠0))])∧Rd w' v' m1∧Below W.heap.size W w'):=ZZ (fun W v h=>by
  have:=Zgb ((Zab m).1:Nat) (Zab m).2 v m W h (ZbQ m) (ZeZ v m W h)
  rw[<-h1] at this
  exact this)
 have HS1:Hid (∀ W v,Rd W v m1->Calls Tryz.prog 167 #[v,.func (.func 201) #[] #[]] W fun e w'=>∃ v',e=.returned (.tuple #[.int .i64 (zag (Zaf m1).1),v',.bool (decide ((Zaf m1).2≠0))])∧Rd w' v' m2∧Below W.heap.size W w'):=ZZ (fun W v h=>by
  have:=ZfF (zag (Zaf m1).1) (Zaf m1).2 v m1 W h (Zci m1) (Zcr v m1 W h)
  rw[<-h2] at this
  exact this)
 have HO:Hid (∀ W v,Rd W v m2->Calls Tryz.prog 208 #[v,.func (.func 209) #[] #[]] W fun e w'=>∃ v',e=.returned (.tuple #[opV (Zay m2).1,v',.bool (decide ((Zay m2).2≠0))])∧Rd w' v' m3∧Below W.heap.size W w'):=ZZ (fun W v h=>by
  have:=ZsF v m2 W h (by omega)
  rw[<-h3] at this
  exact this)
 have HS3:Hid (∀ W v,Rd W v m3->Calls Tryz.prog 167 #[v,.func (.func 201) #[] #[]] W fun e w'=>∃ v',e=.returned (.tuple #[.int .i64 (zag (Zaf m3).1),v',.bool (decide ((Zaf m3).2≠0))])∧Rd w' v' (behind (Zaf m3).2 m3)∧Below W.heap.size W w'):=ZZ (fun W v h=>ZfF (zag (Zaf m3).1) (Zaf m3).2 v m3 W h (Zci m3) (Zcr v m3 W h))
 have HR:=ZZ hr
 obtain⟨ao,cap,rfl,-⟩:=hr
 rw[HE.out]
 clear he HE h1 h2 h3 l1 l2 l3
 generalize decide ((Zaf m3).2≠0)=T at *
 generalize behind (Zaf m3).2 m3=m4 at *
 generalize zag (Zaf m3).1=y at *
 generalize zag (Zaf m1).1=x at *
 generalize decide ((Zaf m1).2≠0)=T1 at *
 generalize decide ((Zay m2).2≠0)=T2 at *
 generalize decide ((Zab m).2≠0)=T0 at *
 obtain⟨p,hp⟩:∃ p:Int,p=((Zab m).1:Nat):=⟨_,rfl⟩
 rw[<-hp] at HG ⊢
 clear hp
 generalize (Zay m2).1=o at *
 unfold opV at HO
 obtain⟨c,a,b⟩:=o
 dsimp only at HO
 unfold ZrL
 dsimp only
 have HT0:Hid (TIn w (w.alloc (.cells #[.int .i64 0,.int .i64 0,.int .i64 0,.int .i64 0,.int .i64 0,.int .i64 0,.int .i64 0] 62)) #[.int .i64 0,.int .i64 0,.int .i64 0,.int .i64 0,.int .i64 0,.int .i64 0,.int .i64 0] (.slice ao m.length cap) m):=
  ⟨heap_alloc_new w _,HR.out.below ((Below.refl _ _).alloc zL _) zL,(Below.refl _ _).alloc zL _⟩
 go_enter Tryz.func169,Tryz.ntmps169
 go_wp2_with fail
 refine(HG.out _ _ HT0.out.rd).mono ?_
 rintro e W1 ⟨v1,rfl,hr1,hb1⟩
 have HT1:=ZZ (HT0.out.next hb1 hr1)
 obtain⟨p1,f1⟩:=HT1.out.box.cell 1
 obtain⟨a1,c1,rfl,-⟩:=hr1
 have HU1:=ZZ (HT1.out.set 1 rfl (.int .i64 p))
 clear hb1 HT0 HG
 go_wp2_with fail
 refine(HS1.out _ _ HU1.out.rd).mono ?_
 rintro e W2 ⟨v2,rfl,hr2,hb2⟩
 have HT2:=ZZ (HU1.out.next hb2 hr2)
 obtain⟨a2,c2,rfl,-⟩:=hr2
 clear hb2 HT1 HU1 HS1 p1 f1
 go_wp2_with fail
 refine(HO.out _ _ HT2.out.rd).mono ?_
 rintro e W3 ⟨v3,rfl,hr3,hb3⟩
 have HT3:=ZZ (HT2.out.next hb3 hr3)
 obtain⟨p3,f3⟩:=HT3.out.box.cell 3
 obtain⟨p4,f4⟩:=HT3.out.box.cell 4
 obtain⟨p5,f5⟩:=HT3.out.box.cell 5
 obtain⟨a3,c3,rfl,-⟩:=hr3
 have HU3:=ZZ (((HT3.out.set 3 rfl (.int .i64 c)).set 4 rfl (.int .i64 a)).set 5 rfl (.int .i64 b))
 clear hb3 HT2 HO
 go_wp2_with fail
 refine(HS3.out _ _ HU3.out.rd).mono ?_
 rintro e W4 ⟨v4,rfl,hr4,hb4⟩
 have HT4:=ZZ (HU3.out.next hb4 hr4)
 obtain⟨a4,c4,rfl,-⟩:=hr4
 have hq:Br W4 w.heap.size #[.int .i64 0,.int .i64 p,.int .i64 0,.int .i64 c,.int .i64 a,.int .i64 b,.int .i64 0]:=HT4.out.box
 have HT5:Hid (TIn w (W4.setCell ⟨w.heap.size,6,none⟩ (.int .i64 y)) #[.int .i64 0,.int .i64 p,.int .i64 0,.int .i64 c,.int .i64 a,.int .i64 b,.int .i64 y] (.slice a4 m4.length c4) m4):=HT4.out.set 6 rfl (.int .i64 y)
 obtain⟨q0,g0⟩:=hq.cell 0
 obtain⟨q1,g1⟩:=hq.cell 1
 obtain⟨q2,g2⟩:=hq.cell 2
 obtain⟨q3,g3⟩:=hq.cell 3
 obtain⟨q4,g4⟩:=hq.cell 4
 obtain⟨q5,g5⟩:=hq.cell 5
 obtain⟨q6,g6⟩:=hq.cell 6
 clear hb4 HT3 HU3 HS3 p3 p4 p5 f3 f4 f5
 go_wp2
 refine bodyPost_ret (v:=.tuple #[.agg #[.int .i64 0,.int .i64 p,.int .i64 0,.int .i64 c,.int .i64 a,.int .i64 b,.int .i64 y],.int .i64 x,.slice a4 m4.length c4,.bool T]) (by simp[results,Tryz.results169,go_sem,q0,q1,q2,q3,q4,q5,q6]) rfl ?_
 have h:=(((((((HT5.out.set 0 rfl (.int .i64 0)).set 1 rfl (.int .i64 p)).set 2 rfl (.int .i64 0)).set 3 rfl (.int .i64 c)).set 4 rfl (.int .i64 a)).set 5 rfl (.int .i64 b)).set 6 rfl (.int .i64 y))
 exact⟨_,rfl,h.rd,h.below⟩
end Go.Proofs.YtnahjngbneicaaaGreatDoor
