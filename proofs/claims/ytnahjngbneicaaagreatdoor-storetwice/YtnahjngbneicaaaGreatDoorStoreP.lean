import Derived.Test.YtnahjngbneicaaaGreatDoorBlockDec
namespace Go.Proofs.YtnahjngbneicaaaGreatDoor
open _root_.Go.Proofs.Tryz
set_option maxRecDepth 100000
open Go.RowKit
theorem Zge {a b:List UInt8} (i:a.length<=1048576) (e:b.length<=1048576) (h:Qe a=Qe b):a=b:=by
 have c:=ZaH [a] (by simpa using i)
 have d:=ZaH [b] (by simpa using e)
 have g:Qf [a]=Qe a:=by simp[Qf]
 have f:Qf [b]=Qe b:=by simp[Qf]
 rw[g,h] at c;rw[f] at d;have:=congrArg Prod.fst (c.symm.trans d);simpa using this
theorem ZwB {H:List UInt8} (i:H.length<=1048576) {kind:Int} (A:0<=kind) (F:kind<6):
 decide (Qe H=Zgr 3 kind (Ju (Qe H)).1.first)=(Zca H kind).isSome∧(∀ f,Zca H kind=some f->(Ju (Qe H)).1.first=(f:Int))∧0<=(Ju (Qe H)).1.first∧(Ju (Qe H)).1.first<4611686018427387904:=by
 have u:=ZaH [H] (by simpa using i)
 have B:Qf [H]=Qe H:=by simp[Qf]
 rw[B] at u
 have e:Ju (Qe H)=match Za H with
  | .error _=>(Zen,0,false)
  | .ok (v,k,f)=>(⟨k,f,(Z9 v f [] [] 16).1⟩,(Qf ([H].take (1+(Z9 v f [] [] 16).2.1))).length,true):=by
  unfold Ju ZvE;rw[u];rw[if_neg (by simp)]
  rfl
 have m:∀ f:Int,0<=f->f<4611686018427387904->Zgr 3 kind f=Qe (X6 3 kind.toNat f.toNat):=fun f n q=>by
  unfold Zgr;rw[if_pos (by decide),if_pos ⟨A,F,n,q⟩]
  rfl
 have p:∀ f:Int,0<=f->f<4611686018427387904->(X6 3 kind.toNat f.toNat).length<=1048576:=fun f n q=>by
  have:=ZeF (v:=3) (k:=kind.toNat) (f:=f.toNat) (by decide) (by omega) (by omega)
  omega
 cases hr:Za H with
 | error x=>
  rw[hr] at e;have g:(Ju (Qe H)).1.first=0:=by rw[e];rfl
  have d:Zca H kind=none:=by unfold Zca;rw[hr]
  rw[g,d];refine⟨?_,(fun f a=>by cases a),by decide,by decide⟩
  rw[m 0 (by decide) (by decide)]
  refine decide_eq_false fun a=>?_
  have:=Zge i (p 0 (by decide) (by decide)) a
  rw[this,ZjX (by decide) (by decide) (by omega) (by decide)] at hr
  cases hr
 | ok t=>
  obtain⟨v,k,f⟩:=t;obtain⟨C,J,G,I,E⟩:=Zck hr;rw[hr] at e;have g:(Ju (Qe H)).1.first=(f:Int):=by rw[e]
  rw[g,m f (by omega) (by omega)]
  have d:Zca H kind=if v=3∧(k:Int)=kind then some f else none:=by unfold Zca;rw[hr]
  have l:((f:Int)).toNat=f:=by omega
  rw[l];have w:=p f (by omega) (by omega)
  rw[l] at w;by_cases c:v=3∧(k:Int)=kind
  ·rw[d,if_pos c]
   refine⟨?_,fun D j=>by rw[Option.some.inj j],by omega,by omega⟩
   have y:kind.toNat=k:=by omega
   rw[C,c.1,y];exact decide_eq_true rfl
  ·rw[d,if_neg c]
   refine⟨decide_eq_false fun a=>?_,(fun D j=>by cases j),by omega,by omega⟩
   have z:=Zge i w a;have b:=ZjX (v:=3) (k:=kind.toNat) (f:=f) (by decide) (by decide) (by omega) E
   rw[<-z,hr] at b
   injection b with b
   injection b with h5 h6
   injection h6 with h6 h7
   exact c ⟨h5,by omega⟩
set_option maxHeartbeats 2000000 in
theorem Znl (n:Value) (H:List UInt8) (kind:Int) (w:World) (F:Rd w n H) (hH:H.length<=90000) (I:0<=kind) (N:kind<6):
 Calls prog 119 #[n,.int .i64 kind] w fun e w'=>∃ x:Int,e=.returned (.tuple #[.int .i64 x,.bool (Zca H kind).isSome])∧(∀ f,Zca H kind=some f->x=(f:Int))∧Below w.heap.size w w':=by
 obtain⟨k,u,q3,Y⟩:=ZwB (H:=H) (by omega) I N
 have E:=ZZ (Zdg n H w F);rw[Zlk (by omega)] at E
 have p:=ZaH [H] (by simp;omega)
 have D:Qf [H]=Qe H:=by simp[Qf]
 rw[D] at p;have X:=Qz H;have hu:(Lib.uvarint H.length).length<=10:=Ji (by omega)
 have j:=ZZ (fun q W (h:Rd W q (Qe H))=>Zjj q (Qe H) W h (by omega) (by rw[p];rfl))
 obtain⟨fs,l⟩:∃ fs,fs=(Ju (Qe H)).1.first:=⟨_,rfl⟩;have G:=ZZ (fun W=>ZmZ 3 kind fs W)
 unfold ZaS at j;unfold Zqk at G;rw[<-l] at k j;have U:Hid (∀ f,Zca H kind=some f->fs=(f:Int)):=ZZ (fun f hf=>by rw[l];exact u f hf)
 have z:=ZZ (fun m R W (ha:Rd W m (Qe H)) (hb:Rd W R (Zgr 3 kind fs))=>Ziu m R _ _ W ha hb)
 rw[k] at z;generalize (Zca H kind).isSome=ag at *;generalize (Ju (Qe H)).1.kind=C at *;generalize ((Ju (Qe H)).2.1:Int)=rn at *;generalize (Ju (Qe H)).2.2=ro at *;generalize (Ju (Qe H)).1.recs=M at *;generalize Zgr 3 kind fs=HL at *;generalize Zr 3 kind fs=he at *;generalize Qe H=FH at *;obtain⟨m,vc,rfl,-⟩:=F;clear k u q3 Y p D X hu l I N
 go_enter func119,ntmps119
 go_wp2_with fail
 refine E.o.mono ?_;rintro e W1 ⟨q,rfl,L,P⟩;have O:=ZZ L.rd;have A:=ZZ P;clear L P
 go_wp2_with fail
 refine(j.o _ _ O.o).mono ?_;rintro e b ⟨vl,rfl,ac,i⟩;obtain⟨t,lc,rfl,-⟩:=ac;have ad:=ZZ i;have y:=ZZ (A.o.trans (i.mono A.o.size));obtain⟨a,g⟩:∃ a,a=b.alloc (.cells #[.int .i64 C,.int .i64 fs,.slice t M.length lc] 217):=⟨_,rfl⟩;have T:Hid (Bsg a b.heap.size #[.int .i64 C,.int .i64 fs,.slice t M.length lc]):=ZZ (by rw[g];exact heap_alloc_new b _)
 have J:Hid (Below b.heap.size b a):=ZZ (by rw[g];exact Jc _ _)
 have K:=ZZ (y.o.trans (J.o.mono y.o.size));have V:=ZZ ((O.o.below ad.o zL).below J.o zL);have Q:Hid (∀ W,Below a.heap.size a W->W.cell? ⟨b.heap.size,1,none⟩=some (.int .i64 fs)):=ZZ (fun W S=>((T.o.below S zL).cell 1).1)
 have c1:=Q.o a (Below.refl _ _);clear i
 go_upto_region 3 with fail
 rw[<-g];clear g
 go_wp2_with fail
 refine(G.o a).mono ?_;rintro e d ⟨v4,rfl,v,c⟩;have ai:=ZZ c;have aa:=ZZ (K.o.trans (c.mono K.o.size));have af:=ZZ v.rd;have ae:=ZZ (V.o.below c zL);have Z:Hid (Below a.heap.size a d.drew):=ZZ c.drew;have B:Hid (Below d.heap.size d d.drew):=ZZ (Below.refl _ _).drew;have ab:=ZZ (z.o _ _ d.drew (ae.o.below B.o zL) (af.o.below B.o zL));clear v c c1
 go_upto_region 4 with fail
 go_region_held(fun W=>W.cell? ⟨b.heap.size,1,none⟩=some (.int .i64 fs))
  (first | (with_reducible exact Q.o _ Z.o))
  (first | (go_at_call 163;refine ab.o.mono ?_;rintro e W5 ⟨rfl,rfl⟩))
 all_goals
  go_wp2;go_ret2;exact⟨fs,rfl,U.o,aa.o.drew⟩
end Go.Proofs.YtnahjngbneicaaaGreatDoor
