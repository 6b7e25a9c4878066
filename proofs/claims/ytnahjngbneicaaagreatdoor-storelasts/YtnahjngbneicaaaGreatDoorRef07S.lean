import Derived.Test.YtnahjngbneicaaaGreatDoorRecEq
namespace Go.Proofs.YtnahjngbneicaaaGreatDoor
open _root_.Go.Proofs.Tryz
set_option maxRecDepth 100000
open Go.RowKit
theorem Zlb {l:List Rec} {q:Nat} (h:q<l.length):l.take (q+1)=l.take q++[l.getD q Qi]:=by
 rw[List.take_add_one];simp[List.getD,h]
set_option maxHeartbeats 2000000 in
theorem ZoF (F:Value) (a:List Rec) (y:Value) (b:List Rec) (w:World) (K:RdR w F a) (S:RdR w y b):
 Calls prog 19 #[F,y] w fun e w'=>e=.returned (.bool (decide (a=b)))∧Below w.heap.size w w':=by
 obtain⟨aa,ca,rfl,N,C,-,-,A⟩:=K;obtain⟨ab,cb,rfl,Q,B,-,-,z⟩:=S;have ac:(a.length:Int)<=9223372036854775807:=by unfold maxLen at C;omega
 have X:(b.length:Int)<=9223372036854775807:=by unfold maxLen at B;omega
 have J:=ZZ A;have L:=ZZ z;clear A z N C Q B;have Z:=Zwu;by_cases f:a.length=b.length
 case neg=>
  have U:Hid (decide (a=b)=false):=decide_eq_false (fun h=>f (by rw[h]))
  have I:((a.length:Int) != (b.length:Int))=true:=by rw[bne_iff_ne];omega
  rw[U.o]
  go_enter func19,ntmps19
  go_wp2;go_ret;exact⟨rfl,Below.refl _ _⟩
 have I:((a.length:Int) != (b.length:Int))=false:=by rw[bne_eq_false_iff_eq];omega
 obtain⟨D,j⟩:∃ D,D=decide (a=b):=⟨_,rfl⟩;rw[<-j]
 have v:Hid (a.take a.length=b.take a.length->D=true):=fun h=>by
  rw[j];refine decide_eq_true ?_;rw[List.take_length,f,List.take_length] at h;exact h
 have H:Hid (∀ k,k<a.length->a.getD k Qi≠b.getD k Qi->D=false):=fun k T h=>by
  rw[j];exact decide_eq_false (fun e=>h (by rw[e]))
 clear j
 go_enter func19,ntmps19
 go_wp2
 go_loopw[5] (fun u wr=>∃ k:Nat,u=.int .i64 (k:Int)∧k<=a.length∧Hid (a.take k=b.take k)∧Hid (Below w.heap.size w wr)) (fun u _=>a.length-(intOf u).toNat)
 case atStart=>exact⟨0,rfl,Nat.zero_le _,rfl,Below.refl _ _⟩
 case round=>
  obtain⟨k,rfl,T,E,g⟩:=hrel;by_cases d:k<a.length
  case neg=>
   obtain rfl:k=a.length:=by omega
   have R:=ZZ (v.o E.out);go_wp2;go_ret;rw[R.o];exact⟨rfl,g.out⟩
  rcases J.o with l | ⟨c,ag,rfl,x⟩
  ·rw[l] at d;simp at d
  rcases L.o with l | ⟨c',ad,rfl,G⟩
  ·rw[l] at f;simp at f;rw[f] at d;simp at d
  have p:=x k d;have t:=G k (by omega)
  obtain⟨p0,p1,p2,p3,p4,Y,p6⟩:=p.keep (g.out.block c p.lt);obtain⟨q0,q1,V,q3,q4,q5,q6⟩:=t.keep (g.out.block c' t.lt);have ae:(k:Int)<(a.length:Int):=by omega
  have af:(k:Int)<(b.length:Int):=by omega
  have n:=ZZ (H.o k d);have q:Hid (a.getD k Qi=b.getD k Qi->a.take (k+1)=b.take (k+1)):=fun h=>by rw[Zlb d,Zlb (by omega),E.out,h]
  clear x G p t v H;generalize a.getD k Qi=r at *;generalize b.getD k Qi=s at *;by_cases i:r=s
  ·subst i
   have M:=ZZ (q.o rfl);have m:=fun W=>Zwt W r r
   rw[ZtM] at m;clear n q
   go_upto_region 6 with fail
   go_quiet(fail)
   go_wp2;go_roundw
   case rel=>exact⟨k+1,by go_num,by omega,M,Xo g.out _⟩
   case measure=>simp[intOf];omega
  ·have O:=ZZ (n.o i)
   have m:=fun W=>Zwt W r s
   have P:ZoE r s=false:=by
    cases hq:ZoE r s
    ·rfl
    ·exact absurd ((Zjy _ _).1 hq) i
   rw[P] at m;clear n q i
   go_upto_region 6 with fail
   go_quiet(fail)
   go_wp2;go_ret;rw[O.o];exact⟨rfl,Xo g.out _⟩
end Go.Proofs.YtnahjngbneicaaaGreatDoor
