import Derived.Test.YtnahjngbneicaaaGreatDoorRecEq
namespace Go.Proofs.YtnahjngbneicaaaGreatDoor
open _root_.Go.Proofs.Tryz
set_option maxRecDepth 100000
open Go.RowKit
theorem Zlb {l:List Rec} {q:Nat} (h:q<l.length):l.take (q+1)=l.take q++[l.getD q Qi]:=by
 rw[List.take_add_one];simp[List.getD,h]
set_option maxHeartbeats 2000000 in
theorem ZoF (z:Value) (a:List Rec) (C:Value) (b:List Rec) (w:World) (R:RdR w z a) (Q:RdR w C b):
 Calls prog 19 #[z,C] w fun e w'=>e=.returned (.bool (decide (a=b)))∧Below w.heap.size w w':=by
 obtain⟨aa,ca,rfl,O,v,-,-,x⟩:=R;obtain⟨ab,cb,rfl,K,A,-,-,E⟩:=Q;have ac:(a.length:Int)<=9223372036854775807:=by unfold maxLen at v;omega
 have ag:(b.length:Int)<=9223372036854775807:=by unfold maxLen at A;omega
 have U:=ZZ x;have N:=ZZ E;clear x E O v K A;have ae:=Zwu;by_cases g:a.length=b.length
 case neg=>
  have L:Hid (decide (a=b)=false):=decide_eq_false (fun h=>g (by rw[h]))
  have T:((a.length:Int) != (b.length:Int))=true:=by rw[bne_iff_ne];omega
  rw[L.o]
  go_enter func19,ntmps19
  go_wp2;go_ret;exact⟨rfl,Below.refl _ _⟩
 have T:((a.length:Int) != (b.length:Int))=false:=by rw[bne_eq_false_iff_eq];omega
 obtain⟨D,j⟩:∃ D,D=decide (a=b):=⟨_,rfl⟩;rw[<-j]
 have H:Hid (a.take a.length=b.take a.length->D=true):=fun h=>by
  rw[j];refine decide_eq_true ?_;rw[List.take_length,g,List.take_length] at h;exact h
 have B:Hid (∀ k,k<a.length->a.getD k Qi≠b.getD k Qi->D=false):=fun k M h=>by
  rw[j];exact decide_eq_false (fun e=>h (by rw[e]))
 clear j
 go_enter func19,ntmps19
 go_wp2
 go_loopw[5] (fun n wr=>∃ k:Nat,n=.int .i64 (k:Int)∧k<=a.length∧Hid (a.take k=b.take k)∧Hid (Below w.heap.size w wr)) (fun n _=>a.length-(intOf n).toNat)
 case atStart=>exact⟨0,rfl,Nat.zero_le _,rfl,Below.refl _ _⟩
 case round=>
  obtain⟨k,rfl,M,y,f⟩:=hrel;by_cases d:k<a.length
  case neg=>
   obtain rfl:k=a.length:=by omega
   have P:=ZZ (H.o y.out);go_wp2;go_ret;rw[P.o];exact⟨rfl,f.out⟩
  rcases U.o with m | ⟨c,ah,rfl,F⟩
  ·rw[m] at d;simp at d
  rcases N.o with m | ⟨c',af,rfl,G⟩
  ·rw[m] at g;simp at g;rw[g] at d;simp at d
  have l:=F k d;have p:=G k (by omega)
  obtain⟨X,p1,p2,p3,p4,p5,V⟩:=l.keep (f.out.block c l.lt);obtain⟨q0,q1,Z,q3,q4,q5,q6⟩:=p.keep (f.out.block c' p.lt);have ad:(k:Int)<(a.length:Int):=by omega
  have Y:(k:Int)<(b.length:Int):=by omega
  have u:=ZZ (B.o k d);have t:Hid (a.getD k Qi=b.getD k Qi->a.take (k+1)=b.take (k+1)):=fun h=>by rw[Zlb d,Zlb (by omega),y.out,h]
  clear F G l p H B;generalize a.getD k Qi=r at *;generalize b.getD k Qi=s at *;by_cases i:r=s
  ·subst i
   have S:=ZZ (t.o rfl);have q:=fun W=>Zwt W r r
   rw[ZtM] at q;clear u t
   go_upto_region 6 with fail
   go_quiet(fail)
   go_wp2;go_roundw
   case rel=>exact⟨k+1,by go_num,by omega,S,Xo f.out _⟩
   case measure=>simp[intOf];omega
  ·have I:=ZZ (u.o i)
   have q:=fun W=>Zwt W r s
   have J:ZoE r s=false:=by
    cases hq:ZoE r s
    ·rfl
    ·exact absurd ((Zjy _ _).1 hq) i
   rw[J] at q;clear u t i
   go_upto_region 6 with fail
   go_quiet(fail)
   go_wp2;go_ret;rw[I.o];exact⟨rfl,Xo f.out _⟩
end Go.Proofs.YtnahjngbneicaaaGreatDoor
