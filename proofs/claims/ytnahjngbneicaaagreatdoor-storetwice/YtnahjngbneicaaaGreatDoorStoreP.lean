import Derived.Test.YtnahjngbneicaaaGreatDoorBlockDec
namespace Go.Proofs.YtnahjngbneicaaaGreatDoor
open _root_.Go.Proofs.Tryz
set_option maxRecDepth 100000
open Go.RowKit
theorem Zge {a b:List UInt8} (g:a.length<=1048576) (i:b.length<=1048576) (h:Qe a=Qe b):a=b:=by
 have c:=ZaH [a] (by simpa using g)
 have d:=ZaH [b] (by simpa using i)
 have f:Qf [a]=Qe a:=by simp[Qf]
 have e:Qf [b]=Qe b:=by simp[Qf]
 rw[f,h] at c;rw[e] at d;have:=congrArg Prod.fst (c.symm.trans d);simpa using this
theorem ZwB {H:List UInt8} (g:H.length<=1048576) {kind:Int} (y:0<=kind) (A:kind<6):
 decide (Qe H=Zgr 3 kind (Ju (Qe H)).1.first)=(Zca H kind).isSome∧(∀ f,Zca H kind=some f->(Ju (Qe H)).1.first=(f:Int))∧0<=(Ju (Qe H)).1.first∧(Ju (Qe H)).1.first<4611686018427387904:=by
 have l:=ZaH [H] (by simpa using g)
 have B:Qf [H]=Qe H:=by simp[Qf]
 rw[B] at l
 have b:Ju (Qe H)=match Za H with
  | .error _=>(Zen,0,false)
  | .ok (v,k,f)=>(⟨k,f,(Z9 v f [] [] 16).1⟩,(Qf ([H].take (1+(Z9 v f [] [] 16).2.1))).length,true):=by
  unfold Ju ZvE;rw[l];rw[if_neg (by simp)]
  rfl
 have m:∀ f:Int,0<=f->f<4611686018427387904->Zgr 3 kind f=Qe (X6 3 kind.toNat f.toNat):=fun f p n=>by
  unfold Zgr;rw[if_pos (by decide),if_pos ⟨y,A,p,n⟩]
  rfl
 have w:∀ f:Int,0<=f->f<4611686018427387904->(X6 3 kind.toNat f.toNat).length<=1048576:=fun f p n=>by
  have:=ZeF (v:=3) (k:=kind.toNat) (f:=f.toNat) (by decide) (by omega) (by omega)
  omega
 cases hr:Za H with
 | error x=>
  rw[hr] at b;have i:(Ju (Qe H)).1.first=0:=by rw[b];rfl
  have d:Zca H kind=none:=by unfold Zca;rw[hr]
  rw[i,d];refine⟨?_,(fun f a=>by cases a),by decide,by decide⟩
  rw[m 0 (by decide) (by decide)]
  refine decide_eq_false fun a=>?_
  have:=Zge g (w 0 (by decide) (by decide)) a
  rw[this,ZjX (by decide) (by decide) (by omega) (by decide)] at hr
  cases hr
 | ok t=>
  obtain⟨v,k,f⟩:=t;obtain⟨D,J,G,I,E⟩:=Zck hr;rw[hr] at b;have i:(Ju (Qe H)).1.first=(f:Int):=by rw[b]
  rw[i,m f (by omega) (by omega)]
  have d:Zca H kind=if v=3∧(k:Int)=kind then some f else none:=by unfold Zca;rw[hr]
  have u:((f:Int)).toNat=f:=by omega
  rw[u];have q:=w f (by omega) (by omega)
  rw[u] at q;by_cases c:v=3∧(k:Int)=kind
  ·rw[d,if_pos c]
   refine⟨?_,fun z j=>by rw[Option.some.inj j],by omega,by omega⟩
   have F:kind.toNat=k:=by omega
   rw[D,c.1,F];exact decide_eq_true rfl
  ·rw[d,if_neg c]
   refine⟨decide_eq_false fun a=>?_,(fun z j=>by cases j),by omega,by omega⟩
   have C:=Zge g q a;have e:=ZjX (v:=3) (k:=kind.toNat) (f:=f) (by decide) (by decide) (by omega) E
   rw[<-C,hr] at e
   injection e with e
   injection e with h5 h6
   injection h6 with h6 h7
   exact c ⟨h5,by omega⟩
set_option maxHeartbeats 2000000 in
theorem Znl (n:Value) (H:List UInt8) (kind:Int) (w:World) (P:Rd w n H) (hH:H.length<=90000) (D:0<=kind) (K:kind<6):
 Calls prog 119 #[n,.int .i64 kind] w fun e w'=>∃ x:Int,e=.returned (.tuple #[.int .i64 x,.bool (Zca H kind).isSome])∧(∀ f,Zca H kind=some f->x=(f:Int))∧Below w.heap.size w w':=by
 obtain⟨k,J,q3,U⟩:=ZwB (H:=H) (by omega) D K
 have F:=ZZ (Zdg n H w P);rw[Zlk (by omega)] at F
 have l:=ZaH [H] (by simp;omega)
 have L:Qf [H]=Qe H:=by simp[Qf]
 rw[L] at l;have aa:=Qz H;have hu:(Lib.uvarint H.length).length<=10:=Ji (by omega)
 have j:=ZZ (fun p W (h:Rd W p (Qe H))=>Zjj p (Qe H) W h (by omega) (by rw[l];rfl))
 obtain⟨fs,q⟩:∃ fs,fs=(Ju (Qe H)).1.first:=⟨_,rfl⟩;have E:=ZZ (fun W=>ZmZ 3 kind fs W)
 unfold ZaS at j;unfold Zqk at E;rw[<-q] at k j;have HQ:Hid (∀ f,Zca H kind=some f->fs=(f:Int)):=ZZ (fun f hf=>by rw[q];exact J f hf)
 have I:=ZZ (fun i z W (ha:Rd W i (Qe H)) (hb:Rd W z (Zgr 3 kind fs))=>Ziu i z _ _ W ha hb)
 rw[k] at I;generalize (Zca H kind).isSome=af at *;generalize (Ju (Qe H)).1.kind=N at *;generalize ((Ju (Qe H)).2.1:Int)=rn at *;generalize (Ju (Qe H)).2.2=ro at *;generalize (Ju (Qe H)).1.recs=R at *;generalize Zgr 3 kind fs=HL at *;generalize Zr 3 kind fs=he at *;generalize Qe H=FH at *;obtain⟨i,vc,rfl,-⟩:=P;clear k J q3 U l L aa hu q D K
 go_enter func119,ntmps119
 go_wp2_with fail
 refine F.o.mono ?_;rintro e W1 ⟨p,rfl,O,G⟩;have t:=ZZ O.rd;have C:=ZZ G;clear O G
 go_wp2_with fail
 refine(j.o _ _ t.o).mono ?_;rintro e b ⟨vl,rfl,ab,m⟩;obtain⟨v,lc,rfl,-⟩:=ab;have Z:=ZZ m;have B:=ZZ (C.o.trans (m.mono C.o.size));obtain⟨a,g⟩:∃ a,a=b.alloc (.cells #[.int .i64 N,.int .i64 fs,.slice v R.length lc] 217):=⟨_,rfl⟩;have S:Hid (Bsg a b.heap.size #[.int .i64 N,.int .i64 fs,.slice v R.length lc]):=ZZ (by rw[g];exact heap_alloc_new b _)
 have u:Hid (Below b.heap.size b a):=ZZ (by rw[g];exact Jc _ _)
 have y:=ZZ (B.o.trans (u.o.mono B.o.size));have X:=ZZ ((t.o.below Z.o zL).below u.o zL);have M:Hid (∀ W,Below a.heap.size a W->W.cell? ⟨b.heap.size,1,none⟩=some (.int .i64 fs)):=ZZ (fun W T=>((S.o.below T zL).cell 1).1)
 have c1:=M.o a (Below.refl _ _);clear m
 go_upto_region 3 with fail
 rw[<-g];clear g
 go_wp2_with fail
 refine(E.o a).mono ?_;rintro e d ⟨v4,rfl,A,c⟩;have ag:=ZZ c;have Y:=ZZ (y.o.trans (c.mono y.o.size));have ae:=ZZ A.rd;have ad:=ZZ (X.o.below c zL);have ac:Hid (Below a.heap.size a d.drew):=ZZ c.drew;have Q:Hid (Below d.heap.size d d.drew):=ZZ (Below.refl _ _).drew;have V:=ZZ (I.o _ _ d.drew (ad.o.below Q.o zL) (ae.o.below Q.o zL));clear A c c1
 go_upto_region 4 with fail
 go_region_held(fun W=>W.cell? ⟨b.heap.size,1,none⟩=some (.int .i64 fs))
  (first | (with_reducible exact M.o _ ac.o))
  (first | (go_at_call 163;refine V.o.mono ?_;rintro e W5 ⟨rfl,rfl⟩))
 all_goals
  go_wp2;go_ret2;exact⟨fs,rfl,HQ.o,Y.o.drew⟩
end Go.Proofs.YtnahjngbneicaaaGreatDoor
