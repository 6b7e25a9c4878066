import Derived.Test.YtnahjngbneicaaaGreatDoorRecEq
namespace Go.Proofs.YtnahjngbneicaaaGreatDoor
open _root_.Go.Proofs.Tryz
set_option maxRecDepth 100000
open Go.RowKit
theorem Zlb {l:List Rec} {q:Nat} (h:q<l.length):l.take (q+1)=l.take q++[l.getD q Qi]:=by
 rw[zb4];simp[List.getD,h]
set_option maxHeartbeats 2000000 in
theorem ZoF (z:Value) (a:List Rec) (B:Value) (b:List Rec) (w:World) (T:RdR w z a) (S:RdR w B b):
 Calls prog 19 #[z,B] w fun e w'=>e=.returned (.bool (decide (a=b)))∧Below w.heap.size w w':=by
 obtain⟨aa,Z,rfl,P,y,-,-,E⟩:=T;obtain⟨ab,cb,rfl,U,v,-,-,G⟩:=S;have af:(a.length:Int)<=9223372036854775807:=by unfold maxLen at y;omega
 have ac:(b.length:Int)<=9223372036854775807:=by unfold maxLen at v;omega
 have I:=ZZ E;have N:=ZZ G;clear E G P y U v;have Y:=Zwu;by_cases f:a.length=b.length
 case neg=>
  have J:Hid (decide (a=b)=false):=zae (fun h=>f (by rw[h]))
  have Q:((a.length:Int) != (b.length:Int))=true:=by rw[zbf];omega
  rw[J.o]
  go_enter func19,ntmps19
  go_wp2;go_ret;exact⟨rfl,zac _ _⟩
 have Q:((a.length:Int) != (b.length:Int))=false:=by rw[zbj];omega
 obtain⟨D,i⟩:=zgy (decide (a=b));rw[<-i]
 have F:Hid (a.take a.length=b.take a.length->D=true):=fun h=>by
  rw[i];refine zah ?_;rw[zb1,f,zb1] at h;exact h
 have C:Hid (∀ k,k<a.length->a.getD k Qi≠b.getD k Qi->D=false):=fun k M h=>by
  rw[i];exact zae (fun e=>h (by rw[e]))
 clear i
 go_enter func19,ntmps19
 go_wp2
 go_loopw[5] (fun q wr=>∃ k:Nat,q=.int .i64 (k:Int)∧k<=a.length∧Hid (a.take k=b.take k)∧Hid (Below w.heap.size w wr)) (fun q _=>a.length-(intOf q).toNat)
 case atStart=>exact⟨0,rfl,zai _,rfl,zac _ _⟩
 case round=>
  obtain⟨k,rfl,M,x,g⟩:=hrel;by_cases d:k<a.length
  case neg=>
   obtain rfl:k=a.length:=by omega
   have K:=ZZ (F.o x.out);go_wp2;go_ret;rw[K.o];exact⟨rfl,g.out⟩
  rcases I.o with l | ⟨c,ae,rfl,H⟩
  ·rw[l] at d;simp at d
  rcases N.o with l | ⟨c',V,rfl,A⟩
  ·rw[l] at f;simp at f;rw[f] at d;simp at d
  have m:=H k d;have t:=A k (by omega)
  obtain⟨p0,p1,p2,p3,p4,p5,p6⟩:=m.keep (g.out.block c m.lt);obtain⟨q0,q1,q2,q3,q4,q5,q6⟩:=t.keep (g.out.block c' t.lt);have X:(k:Int)<(a.length:Int):=by omega
  have ad:(k:Int)<(b.length:Int):=by omega
  have u:=ZZ (C.o k d);have n:Hid (a.getD k Qi=b.getD k Qi->a.take (k+1)=b.take (k+1)):=fun h=>by rw[Zlb d,Zlb (by omega),x.out,h]
  clear H A m t F C;generalize a.getD k Qi=r at *;generalize b.getD k Qi=s at *;by_cases j:r=s
  ·subst j
   have R:=ZZ (n.o rfl);have p:=fun W=>Zwt W r r
   rw[ZtM] at p;clear u n
   go_upto_region 6 with fail
   go_quiet(fail)
   go_wp2;go_roundw
   case rel=>exact⟨k+1,by go_num,by omega,R,Xo g.out _⟩
   case measure=>simp[intOf];omega
  ·have L:=ZZ (u.o j)
   have p:=fun W=>Zwt W r s
   have O:ZoE r s=false:=by
    cases hq:ZoE r s
    ·rfl
    ·exact absurd ((Zjy _ _).1 hq) j
   rw[O] at p;clear u n j
   go_upto_region 6 with fail
   go_quiet(fail)
   go_wp2;go_ret;rw[L.o];exact⟨rfl,Xo g.out _⟩
end Go.Proofs.YtnahjngbneicaaaGreatDoor
