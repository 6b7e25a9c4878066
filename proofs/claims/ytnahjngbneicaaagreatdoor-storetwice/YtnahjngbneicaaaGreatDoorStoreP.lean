import Derived.Test.YtnahjngbneicaaaGreatDoorPack12
import Derived.Test.YtnahjngbneicaaaGreatDoorPack13
import Derived.Test.YtnahjngbneicaaaGreatDoorBlockDec
namespace Go.Proofs.YtnahjngbneicaaaGreatDoor
open _root_.Go.Proofs.Tryz
set_option maxRecDepth 100000
open Go.RowKit
theorem Zju {a b:List UInt8} (f:a.length<=1048576) (g:b.length<=1048576) (h:Zad a=Zad b):a=b:=by
 have d:=ZdN [a] (by simpa using f)
 have c:=ZdN [b] (by simpa using g)
 have e:Zaf [a]=Zad a:=by simp[Zaf]
 have i:Zaf [b]=Zad b:=by simp[Zaf]
 rw[e,h] at d;rw[i] at c;have:=congrArg Prod.fst (d.symm.trans c);simpa using this
theorem ZzR {H:List UInt8} (i:H.length<=1048576) {kind:Int} (B:0<=kind) (z:kind<6):
 decide (Zad H=ZjH 3 kind (ZdP (Zad H)).1.first)=(Zfp H kind).isSome∧(∀ f,Zfp H kind=some f->(ZdP (Zad H)).1.first=(f:Int))∧0<=(ZdP (Zad H)).1.first∧(ZdP (Zad H)).1.first<4611686018427387904:=by
 have m:=ZdN [H] (by simpa using i)
 have D:Zaf [H]=Zad H:=by simp[Zaf]
 rw[D] at m
 have b:ZdP (Zad H)=match Zcy H with
  | .error _=>(ZhD,0,false)
  | .ok (v,k,f)=>(⟨k,f,(Zds v f [] [] 16).1⟩,(Zaf ([H].take (1+(Zds v f [] [] 16).2.1))).length,true):=by
  unfold ZdP ZyU;rw[m];rw[if_neg (by simp)]
  rfl
 have q:∀ f:Int,0<=f->f<4611686018427387904->ZjH 3 kind f=Zad (ZbC 3 kind.toNat f.toNat):=fun f n l=>by
  unfold ZjH;rw[if_pos (by decide),if_pos ⟨B,z,n,l⟩]
  rfl
 have j:∀ f:Int,0<=f->f<4611686018427387904->(ZbC 3 kind.toNat f.toNat).length<=1048576:=fun f n l=>by
  have:=ZhV (v:=3) (k:=kind.toNat) (f:=f.toNat) (by decide) (by omega) (by omega)
  omega
 cases hr:Zcy H with
 | error x=>
  rw[hr] at b;have h:(ZdP (Zad H)).1.first=0:=by rw[b];rfl
  have c:Zfp H kind=none:=by unfold Zfp;rw[hr]
  rw[h,c];refine⟨?_,(fun f a=>by cases a),by decide,by decide⟩
  rw[q 0 (by decide) (by decide)]
  refine decide_eq_false fun a=>?_
  have:=Zju i (j 0 (by decide) (by decide)) a
  rw[this,Znn (by decide) (by decide) (by omega) (by decide)] at hr
  cases hr
 | ok t=>
  obtain⟨v,k,f⟩:=t;obtain⟨A,F,G,I,E⟩:=Zfz hr;rw[hr] at b;have h:(ZdP (Zad H)).1.first=(f:Int):=by rw[b]
  rw[h,q f (by omega) (by omega)]
  have c:Zfp H kind=if v=3∧(k:Int)=kind then some f else none:=by unfold Zfp;rw[hr]
  have p:((f:Int)).toNat=f:=by omega
  rw[p];have u:=j f (by omega) (by omega)
  rw[p] at u;by_cases d:v=3∧(k:Int)=kind
  ·rw[c,if_pos d]
   refine⟨?_,fun w g=>by rw[Option.some.inj g],by omega,by omega⟩
   have C:kind.toNat=k:=by omega
   rw[A,d.1,C];exact decide_eq_true rfl
  ·rw[c,if_neg d]
   refine⟨decide_eq_false fun a=>?_,(fun w g=>by cases g),by omega,by omega⟩
   have y:=Zju i u a;have e:=Znn (v:=3) (k:=kind.toNat) (f:=f) (by decide) (by decide) (by omega) E
   rw[<-y,hr] at e
   injection e with e
   injection e with h5 h6
   injection h6 with h6 h7
   exact d ⟨h5,by omega⟩
set_option maxHeartbeats 2000000 in
theorem ZqB (n:Value) (H:List UInt8) (kind:Int) (w:World) (R:Rd w n H) (hH:H.length<=90000) (F:0<=kind) (E:kind<6):
 Calls prog 119 #[n,.int .i64 kind] w fun e w'=>∃ x:Int,e=.returned (.tuple #[.int .i64 x,.bool (Zfp H kind).isSome])∧(∀ f,Zfp H kind=some f->x=(f:Int))∧Below w.heap.size w w':=by
 obtain⟨m,I,q3,q4⟩:=ZzR (H:=H) (by omega) F E
 have B:=ZZ (Zgw n H w R);rw[ZoA (by omega)] at B
 have q:=ZdN [H] (by simp;omega)
 have z:Zaf [H]=Zad H:=by simp[Zaf]
 rw[z] at q;have V:=Zas H;have hu:(Lib.uvarint H.length).length<=10:=ZdD (by omega)
 have l:=ZZ (fun j W (h:Rd W j (Zad H))=>Zmz j (Zad H) W h (by omega) (by rw[q];rfl))
 obtain⟨fs,k⟩:∃ fs,fs=(ZdP (Zad H)).1.first:=⟨_,rfl⟩;have K:=ZZ (fun W=>Zqp 3 kind fs W)
 unfold Zea at l;unfold ZtA at K;rw[<-k] at m l;have HQ:Hid (∀ f,Zfp H kind=some f->fs=(f:Int)):=ZZ (fun f hf=>by rw[k];exact I f hf)
 have L:=ZZ (fun p A W (ha:Rd W p (Zad H)) (T:Rd W A (ZjH 3 kind fs))=>ZlK p A _ _ W ha T)
 rw[m] at L;generalize (Zfp H kind).isSome=ans at *;generalize (ZdP (Zad H)).1.kind=C at *;generalize ((ZdP (Zad H)).2.1:Int)=rn at *;generalize (ZdP (Zad H)).2.2=ro at *;generalize (ZdP (Zad H)).1.recs=J at *;generalize ZjH 3 kind fs=HL at *;generalize Zch 3 kind fs=he at *;generalize Zad H=FH at *;obtain⟨p,vc,rfl,-⟩:=R;clear m I q3 q4 q z V hu k F E
 go_enter func119,ntmps119
 go_wp2_with fail
 refine B.o.mono ?_;rintro e W1 ⟨j,rfl,v,t⟩;have D:=ZZ v.rd;have Q:=ZZ t;clear v t
 go_wp2_with fail
 refine(l.o _ _ D.o).mono ?_;rintro e b ⟨vl,rfl,ac,i⟩;obtain⟨M,lc,rfl,-⟩:=ac;have ab:=ZZ i;have G:=ZZ (Q.o.trans (i.mono Q.o.size));obtain⟨a,g⟩:∃ a,a=b.alloc (.cells #[.int .i64 C,.int .i64 fs,.slice M J.length lc] 217):=⟨_,rfl⟩;have HX:Hid (Bsg a b.heap.size #[.int .i64 C,.int .i64 fs,.slice M J.length lc]):=ZZ (by rw[g];exact heap_alloc_new b _)
 have u:Hid (Below b.heap.size b a):=ZZ (by rw[g];exact ZcW _ _)
 have P:=ZZ (G.o.trans (u.o.mono G.o.size));have X:=ZZ ((D.o.below ab.o zL).below u.o zL);have y:Hid (∀ W,Below a.heap.size a W->W.cell? ⟨b.heap.size,1,none⟩=some (.int .i64 fs)):=ZZ (fun W hW=>((HX.o.below hW zL).cell 1).1)
 have S:=y.o a (Below.refl _ _);clear i
 go_upto_region 3 with fail
 rw[<-g];clear g
 go_wp2_with fail
 refine(K.o a).mono ?_;rintro e d ⟨v4,rfl,N,c⟩;have ae:=ZZ c;have aa:=ZZ (P.o.trans (c.mono P.o.size));have Y:=ZZ N.rd;have U:=ZZ (X.o.below c zL);have Z:Hid (Below a.heap.size a d.drew):=ZZ c.drew;have O:Hid (Below d.heap.size d d.drew):=ZZ (Below.refl _ _).drew;have ad:=ZZ (L.o _ _ d.drew (U.o.below O.o zL) (Y.o.below O.o zL));clear N c S
 go_upto_region 4 with fail
 go_region_held(fun W=>W.cell? ⟨b.heap.size,1,none⟩=some (.int .i64 fs))
  (first | (with_reducible exact y.o _ Z.o))
  (first | (go_at_call 163;refine ad.o.mono ?_;rintro e W5 ⟨rfl,rfl⟩))
 all_goals
  go_wp2;go_ret2;exact⟨fs,rfl,HQ.o,aa.o.drew⟩
end Go.Proofs.YtnahjngbneicaaaGreatDoor
