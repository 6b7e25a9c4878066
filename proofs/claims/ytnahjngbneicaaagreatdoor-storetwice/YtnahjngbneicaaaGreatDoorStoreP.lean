import Derived.Test.YtnahjngbneicaaaGreatDoorBlockDec
namespace Go.Proofs.YtnahjngbneicaaaGreatDoor
open _root_.Go.Proofs.Tryz
set_option maxRecDepth 100000
open Go.RowKit
theorem Zju {a b:List UInt8} (g:a.length<=1048576) (i:b.length<=1048576) (h:Zad a=Zad b):a=b:=by
 have d:=ZdN [a] (by simpa using g)
 have c:=ZdN [b] (by simpa using i)
 have f:Zaf [a]=Zad a:=by simp[Zaf]
 have e:Zaf [b]=Zad b:=by simp[Zaf]
 rw[f,h] at d;rw[e] at c;have:=congrArg Prod.fst (d.symm.trans c);simpa using this
theorem ZzR {H:List UInt8} (i:H.length<=1048576) {kind:Int} (z:0<=kind) (w:kind<6):
 decide (Zad H=ZjH 3 kind (ZdP (Zad H)).1.first)=(Zfp H kind).isSome∧(∀ f,Zfp H kind=some f->(ZdP (Zad H)).1.first=(f:Int))∧0<=(ZdP (Zad H)).1.first∧(ZdP (Zad H)).1.first<4611686018427387904:=by
 have m:=ZdN [H] (by simpa using i)
 have C:Zaf [H]=Zad H:=by simp[Zaf]
 rw[C] at m
 have c:ZdP (Zad H)=match Zcy H with
  | .error _=>(ZhD,0,false)
  | .ok (v,k,f)=>(⟨k,f,(Zds v f [] [] 16).1⟩,(Zaf ([H].take (1+(Zds v f [] [] 16).2.1))).length,true):=by
  unfold ZdP ZyU;rw[m];rw[if_neg (by simp)]
  rfl
 have l:∀ f:Int,0<=f->f<4611686018427387904->ZjH 3 kind f=Zad (ZbC 3 kind.toNat f.toNat):=fun f p n=>by
  unfold ZjH;rw[if_pos (by decide),if_pos ⟨z,w,p,n⟩]
  rfl
 have q:∀ f:Int,0<=f->f<4611686018427387904->(ZbC 3 kind.toNat f.toNat).length<=1048576:=fun f p n=>by
  have:=ZhV (v:=3) (k:=kind.toNat) (f:=f.toNat) (by decide) (by omega) (by omega)
  omega
 cases hr:Zcy H with
 | error x=>
  rw[hr] at c;have h:(ZdP (Zad H)).1.first=0:=by rw[c];rfl
  have d:Zfp H kind=none:=by unfold Zfp;rw[hr]
  rw[h,d];refine⟨?_,(fun f a=>by cases a),by decide,by decide⟩
  rw[l 0 (by decide) (by decide)]
  refine decide_eq_false fun a=>?_
  have:=Zju i (q 0 (by decide) (by decide)) a
  rw[this,Znn (by decide) (by decide) (by omega) (by decide)] at hr
  cases hr
 | ok t=>
  obtain⟨v,k,f⟩:=t;obtain⟨y,G,I,F,E⟩:=Zfz hr;rw[hr] at c;have h:(ZdP (Zad H)).1.first=(f:Int):=by rw[c]
  rw[h,l f (by omega) (by omega)]
  have d:Zfp H kind=if v=3∧(k:Int)=kind then some f else none:=by unfold Zfp;rw[hr]
  have u:((f:Int)).toNat=f:=by omega
  rw[u];have j:=q f (by omega) (by omega)
  rw[u] at j;by_cases e:v=3∧(k:Int)=kind
  ·rw[d,if_pos e]
   refine⟨?_,fun D g=>by rw[Option.some.inj g],by omega,by omega⟩
   have B:kind.toNat=k:=by omega
   rw[y,e.1,B];exact decide_eq_true rfl
  ·rw[d,if_neg e]
   refine⟨decide_eq_false fun a=>?_,(fun D g=>by cases g),by omega,by omega⟩
   have A:=Zju i j a;have b:=Znn (v:=3) (k:=kind.toNat) (f:=f) (by decide) (by decide) (by omega) E
   rw[<-A,hr] at b
   injection b with b
   injection b with h5 h6
   injection h6 with h6 h7
   exact e ⟨h5,by omega⟩
set_option maxHeartbeats 2000000 in
theorem ZqB (q:Value) (H:List UInt8) (kind:Int) (w:World) (u:Rd w q H) (hH:H.length<=90000) (v:0<=kind) (F:kind<6):
 Calls prog 119 #[q,.int .i64 kind] w fun e w'=>∃ x:Int,e=.returned (.tuple #[.int .i64 x,.bool (Zfp H kind).isSome])∧(∀ f,Zfp H kind=some f->x=(f:Int))∧Below w.heap.size w w':=by
 obtain⟨k,D,q3,q4⟩:=ZzR (H:=H) (by omega) v F
 have G:=ZZ (Zgw q H w u);rw[ZoA (by omega)] at G
 have i:=ZdN [H] (by simp;omega)
 have C:Zaf [H]=Zad H:=by simp[Zaf]
 rw[C] at i;have Z:=Zas H;have hu:(Lib.uvarint H.length).length<=10:=ZdD (by omega)
 have l:=ZZ (fun m W (h:Rd W m (Zad H))=>Zmz m (Zad H) W h (by omega) (by rw[i];rfl))
 obtain⟨fs,j⟩:∃ fs,fs=(ZdP (Zad H)).1.first:=⟨_,rfl⟩;have L:=ZZ (fun W=>Zqp 3 kind fs W)
 unfold Zea at l;unfold ZtA at L;rw[<-j] at k l;have HQ:Hid (∀ f,Zfp H kind=some f->fs=(f:Int)):=ZZ (fun f hf=>by rw[j];exact D f hf)
 have J:=ZZ (fun n E W (ha:Rd W n (Zad H)) (Y:Rd W E (ZjH 3 kind fs))=>ZlK n E _ _ W ha Y)
 rw[k] at J;generalize (Zfp H kind).isSome=af at *;generalize (ZdP (Zad H)).1.kind=P at *;generalize ((ZdP (Zad H)).2.1:Int)=rn at *;generalize (ZdP (Zad H)).2.2=ro at *;generalize (ZdP (Zad H)).1.recs=O at *;generalize ZjH 3 kind fs=HL at *;generalize Zch 3 kind fs=he at *;generalize Zad H=FH at *;obtain⟨n,vc,rfl,-⟩:=u;clear k D q3 q4 i C Z hu j v F
 go_enter func119,ntmps119
 go_wp2_with fail
 refine G.o.mono ?_;rintro e W1 ⟨m,rfl,R,M⟩;have A:=ZZ R.rd;have Q:=ZZ M;clear R M
 go_wp2_with fail
 refine(l.o _ _ A.o).mono ?_;rintro e b ⟨vl,rfl,aa,p⟩;obtain⟨z,lc,rfl,-⟩:=aa;have ae:=ZZ p;have N:=ZZ (Q.o.trans (p.mono Q.o.size));obtain⟨a,g⟩:∃ a,a=b.alloc (.cells #[.int .i64 P,.int .i64 fs,.slice z O.length lc] 217):=⟨_,rfl⟩;have HX:Hid (Bsg a b.heap.size #[.int .i64 P,.int .i64 fs,.slice z O.length lc]):=ZZ (by rw[g];exact heap_alloc_new b _)
 have I:Hid (Below b.heap.size b a):=ZZ (by rw[g];exact ZcW _ _)
 have K:=ZZ (N.o.trans (I.o.mono N.o.size));have V:=ZZ ((A.o.below ae.o zL).below I.o zL);have y:Hid (∀ W,Below a.heap.size a W->W.cell? ⟨b.heap.size,1,none⟩=some (.int .i64 fs)):=ZZ (fun W S=>((HX.o.below S zL).cell 1).1)
 have T:=y.o a (Below.refl _ _);clear p
 go_upto_region 3 with fail
 rw[<-g];clear g
 go_wp2_with fail
 refine(L.o a).mono ?_;rintro e c ⟨v4,rfl,B,d⟩;have ag:=ZZ d;have U:=ZZ (K.o.trans (d.mono K.o.size));have ac:=ZZ B.rd;have ad:=ZZ (V.o.below d zL);have ab:Hid (Below a.heap.size a c.drew):=ZZ d.drew;have t:Hid (Below c.heap.size c c.drew):=ZZ (Below.refl _ _).drew;have X:=ZZ (J.o _ _ c.drew (ad.o.below t.o zL) (ac.o.below t.o zL));clear B d T
 go_upto_region 4 with fail
 go_region_held(fun W=>W.cell? ⟨b.heap.size,1,none⟩=some (.int .i64 fs))
  (first | (with_reducible exact y.o _ ab.o))
  (first | (go_at_call 163;refine X.o.mono ?_;rintro e W5 ⟨rfl,rfl⟩))
 all_goals
  go_wp2;go_ret2;exact⟨fs,rfl,HQ.o,U.o.drew⟩
end Go.Proofs.YtnahjngbneicaaaGreatDoor
