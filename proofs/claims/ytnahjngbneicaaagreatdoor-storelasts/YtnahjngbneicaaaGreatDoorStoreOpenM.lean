import Derived.Test.YtnahjngbneicaaaGreatDoorPack15
namespace Go.Proofs.YtnahjngbneicaaaGreatDoor
open _root_.Go.Proofs.Tryz
open List (length_append take_of_length_le)
set_option maxRecDepth 100000
variable {d:Dk} {l:List Rec} {kind:Int} {B F:Nat}
theorem ZzU (n:Nat):1<=(Lib.uvarint n).length:=by
 rw[Lib.uvarint];split <;> simp
theorem Zto (a:List Rec) (r:Rec):1<=(Zf a r).length:=by
 unfold Zf;rw[length_append];have:=ZzU r.proc.toNat;omega
theorem Zoe:∀ (l a:List Rec),l.length<=(Yg a l).length
 | [],a=>by simp
 | r::t,a=>by
  rw[Yg,length_append,List.length_cons];have:=Zoe t (a++[r]);have:=Zto a r;omega
theorem ZvU {d:List UInt8} (h:ZdK d=some l):l.length<=d.length:=by
 obtain⟨-,a⟩:=ZfA h;rw[<-a];unfold X9;rw[length_append,length_append];have:=Zoe l [];omega
def Zzv (B:List (List UInt8)):Nat:=(B.map List.length).sum
theorem Zjd (d:List UInt8) (t:List (List UInt8)):Zzv (d::t)=d.length+Zzv t:=by simp[Zzv]
theorem Zje:∀ L:List (List UInt8),Zzv L<=(Qf L).length
 | []=>Nat.zero_le _
 | x::t=>by
  have a:=Zje t;have e:Qf (x::t)=Qd x++Qf t:=by simp[Qf]
  rw[Zjd,e,length_append,Q9];omega
theorem Ztp (b:List UInt8):Zzv (Qp b).1<=b.length:=by
 obtain⟨a,-⟩:=Zcm b.length b zL;have c:=Zje (Qp b).1;rw[a,List.length_take] at c;omega
theorem Zjf (first:Int):∀ (B:List (List UInt8)) (a:List Rec),(Ys first B a).length<=a.length+Zzv B
 | [],a=>by
  rw[Ys];omega
 | d::t,a=>by
  rw[ZaC,Zjd]
  cases hd:ZdK d with
  | none=>dsimp only;omega
  | some l=>
   dsimp only
   split
   ·have b:=Zjf first t (a++l)
    have:=ZvU hd;rw[length_append] at b;omega
   ·omega
theorem Zfc (first:Int):∀ (B:List (List UInt8)) (a:List Rec),Xl first a->Xl first (Ys first B a)
 | [],a,h=>by
  rw[Ys];exact h
 | d::t,a,h=>by
  rw[ZaC]
  cases hd:ZdK d with
  | none=>exact h
  | some l=>
   dsimp only
   split
   ·rename_i b
    refine Zfc first t (a++l) (Gx.2 ⟨h,?_⟩);rw[<-b];exact(ZfA hd).1.2.2.2
   ·exact h
theorem Zof {b:List UInt8} {f:Nat} (h:ZoH b kind=some (f,l)):Xl f l∧l.length<=b.length:=by
 have a:=Ztp b;rw[Zmh] at h;unfold Zqb at h
 cases hL:(Qp b).1 with
 | nil=>rw[hL] at h;cases h
 | cons H B=>
  rw[hL] at h a
  dsimp only at h
  cases hh:ZbB H kind with
  | none=>rw[hh] at h;cases h
  | some c=>
   rw[hh] at h;have d:=Option.some.inj h
   injection d with e1 e2
   subst e1;rw[<-e2];refine⟨Zfc _ B [] trivial,?_⟩;have:=Zjf c B [];rw[Zjd] at a;simp only [List.length_nil] at this;omega
theorem Zog:∀ (m:Nat) (l:List Nat),l.Nodup->(∀ x ∈ l,x<m)->l.length<=m
 | 0,l,_,h=>by
  cases l with
  | nil=>exact Nat.le_refl _
  | cons x t=>exact absurd (h x List.mem_cons_self) (Nat.not_lt_zero _)
 | m+1,l,hd,h=>by
  have c:=Zog m (l.erase m) (hd.erase m) (fun x a=>by
   have f:=h x (List.mem_of_mem_erase a)
   have d:x≠m:=fun e=>by
    rw[e] at a;exact(List.Nodup.mem_erase_iff hd).1 a |>.1 rfl
   omega)
  have b:l.length<=(l.erase m).length+1:=by
   rw[List.length_erase];split <;> omega
  omega
theorem OkL.few {m:Nat} {l:Dir} (h:OkL m l):l.length<=m:=by
 have a:(l.map Prod.snd).Nodup:=by
  unfold List.Nodup;rw[List.pairwise_map];exact h.apart
 have b:=Zog m (l.map Prod.snd) a (fun x d=>by
  obtain⟨p,c,rfl⟩:=List.mem_map.1 d
  exact(h.may p c).2)
 rwa [List.length_map] at b
structure SzD (d:Dk) (F B:Nat):Prop where
 files:d.files.length<=F
 bytes:∀ x ∈ d.files,x.b.length<=B
theorem SzD.fl {d:Dk} {F B:Nat} (h:SzD d F B) (f:Nat):(fl d.files f).b.length<=B:=by
 by_cases a:f<d.files.length
 ·exact h.bytes _ (ZbH a)
 ·unfold Go.Proofs.YtnahjngbneicaaaGreatDoor.fl
  rw[List.getD,List.getElem?_eq_none (by omega)]
  exact Nat.zero_le _
theorem SzD.read (h:SzD d F B) (n:Int):(Zp d n).1.length<=B:=by
 unfold Zp;split
 ·exact Nat.zero_le _
 ·split
  ·exact h.fl _
  ·exact Nat.zero_le _
theorem SzD.names (h:SzD d F B) (a:OkD d) (first:Int):(Xk (Qk d) first).length<=F:=by
 refine Nat.le_trans (List.length_filter_le _ _) ?_;unfold Qk;rw[List.length_map];exact Nat.le_trans a.dir.few h.files
theorem OkG.logOne {d:Dk} {kind:Int} {b:Lgb} (h:OkG b) (n:Int):OkG (logOne d kind b n):=by
 unfold Go.Proofs.YtnahjngbneicaaaGreatDoor.logOne
 cases hs:ZoH (Zp d n).1 kind with
 | none=>exact h
 | some x=>
  obtain⟨f,l⟩:=x
  dsimp only
  obtain⟨k,e⟩:=ZvT hs;obtain⟨g,-⟩:=Zof hs;split
  ·rename_i i
   have j:=h.start n f (by omega) (by omega) i
   have c:=b.start_next n f h.empty i;refine j.add l ?_ e (by rw[c];exact g) ?_
   ·show(b.pcs++[_]).length≠0
    simp
   ·rw[c]
    by_cases a:l=[]
    ·rw[a]
     simp only [List.length_nil];omega
    ·exact Zde g e a
  ·exact h
theorem Zoh (a:SzD d F B) (b:Lgb) (n:Int):(logOne d kind b n).recs.length<=b.recs.length+B∧(logOne d kind b n).pcs.length<=b.pcs.length+1:=by
 unfold logOne
 cases hs:ZoH (Zp d n).1 kind with
 | none=>exact⟨Nat.le_add_right _ _,Nat.le_add_right _ _⟩
 | some x=>
  obtain⟨f,l⟩:=x
  dsimp only
  obtain⟨-,c⟩:=Zof hs;have e:=a.read n;split
  ·refine⟨?_,?_⟩
   ·show(b.recs++l).length<=_
    rw[length_append];omega
   ·show(Zc (b.pcs++[_]) l.length).length<=_
    rw[Gc];simp
  ·exact⟨Nat.le_add_right _ _,Nat.le_add_right _ _⟩
theorem Zfd (d:Dk) (kind:Int) (l:List Int):∀ q,OkG (Jk d kind l q)
 | 0=>ZqK 0 (by decide) (by decide)
 | q+1=>by
  by_cases a:q<l.length
  ·rw[ZfV d kind l q a]
   exact(Zfd d kind l q).logOne _
  ·have e:Jk d kind l (q+1)=Jk d kind l q:=by
    unfold Jk;rw[take_of_length_le (by omega),take_of_length_le (by omega)]
   rw[e];exact Zfd d kind l q
theorem Zea {d:Dk} {kind:Int} {F B:Nat} (c:SzD d F B) (l:List Int):∀ q,(Jk d kind l q).recs.length<=min q l.length*B∧(Jk d kind l q).pcs.length<=min q l.length
 | 0=>⟨Nat.zero_le _,Nat.zero_le _⟩
 | q+1=>by
  have b:=Zea (kind:=kind) c l q;by_cases g:q<l.length
  ·rw[ZfV d kind l q g]
   have i:=Zoh (kind:=kind) c (Jk d kind l q) (l.getD q 0);have a:min q l.length=q:=by omega
   have f:min (q+1) l.length=q+1:=by omega
   rw[a] at b;rw[f,Nat.succ_mul];omega
  ·have e:Jk d kind l (q+1)=Jk d kind l q:=by
    unfold Jk;rw[take_of_length_le (by omega),take_of_length_le (by omega)]
   have a:min (q+1) l.length=min q l.length:=by omega
   rw[e,a];exact b
theorem OkG.logOk {g:Lgb} (h:OkG g) (b:g.recs.length<=9000000) (c:g.pcs.length<=900000):Zzf g:=by
 have a:=h.top;have e:=h.f0;refine⟨e,?_,b,c,fun p d=>?_⟩
 ·unfold Lgb.next at a
  omega
 ·have:=ZaY h.ch p d
  omega
theorem ZxM (kind:Int) {F B:Nat} (a:SzD d F B) (b:OkD d) (j:F<=900) (i:F*B<=9000000) (q:Nat):Zzf (Jk d kind (Xk (Qk d) 2) q):=by
 have f:=Zea (kind:=kind) a (Xk (Qk d) 2) q;have g:=a.names b 2;have c:min q (Xk (Qk d) 2).length<=F:=by omega
 refine(Zfd d kind _ q).logOk ?_ (by omega)
 have e:min q (Xk (Qk d) 2).length*B<=F*B:=Nat.mul_le_mul_right B c;omega
theorem Zrh (d:Dk) (kind:Int):OkG (Jm d kind):=by
 have:=Zfd d kind (Xk (Qk d) 2) (Xk (Qk d) 2).length
 rwa [ZiY d kind _ _ rfl] at this
theorem ZkP (kind:Int) {F B:Nat} (a:SzD d F B) (b:OkD d):(Jm d kind).recs.length<=F*B∧(Jm d kind).pcs.length<=F:=by
 have c:=Zea (kind:=kind) a (Xk (Qk d) 2) (Xk (Qk d) 2).length;rw[ZiY d kind _ _ rfl,Nat.min_self] at c;have e:=a.names b 2;have f:=Nat.mul_le_mul_right B e;unfold Jm;omega
theorem Ztq (c:0<=kind) (b:kind<6):Yl (J9 kind):=by
 have a:kind=0∨kind=1∨kind=2∨kind=3∨kind=4∨kind=5:=by omega
 rcases a with rfl | rfl | rfl | rfl | rfl | rfl <;> decide
theorem ZfX (b:0<=kind) (a:kind<6):Z6 (Zn kind):=⟨⟨by show(0:Int)<=0;decide,by show(0:Int)<4611686018427387904;decide⟩,Ztq b a,Gf.zero _⟩
theorem Zjg (c:0<=kind) (b:kind<6):(Zn kind).st.kind=kind:=by
 have a:kind=0∨kind=1∨kind=2∨kind=3∨kind=4∨kind=5:=by omega
 rcases a with rfl | rfl | rfl | rfl | rfl | rfl <;> rfl
theorem Z6.snS {s:Q0} (h:Z6 s):SnS s:=⟨h.2.1,h.2.2.tabR⟩
theorem Zgz {d:Dk} {kind:Int}:∀ (l:List Int) (b:List Q0),(∀ x ∈ b,Z6 x∧x.st.kind=kind)->b≠[]->(∀ x ∈ l.foldl (Js d kind) b,Z6 x∧x.st.kind=kind)∧l.foldl (Js d kind) b≠[]
 | [],b,h,h0=>⟨h,h0⟩
 | n::l,b,h,h0=>by
  rw[List.foldl_cons];refine Zgz l _ ?_ ?_
  ·unfold Js
   split
   ·rename_i a
    intro x hx;rcases List.mem_append.1 hx with hx | hx
    ·exact h x hx
    ·rw[List.mem_singleton.1 hx]
     exact⟨(ZrP a.1).1,a.2⟩
   ·exact h
  ·unfold Js
   split
   ·simp
   ·exact h0
theorem ZfY (b:0<=kind) (a:kind<6):(∀ x ∈ Yi d kind,Z6 x∧x.st.kind=kind)∧Yi d kind≠[]:=
 Zgz _ _ (fun x c=>by rw[List.mem_singleton.1 c];exact⟨ZfX b a,Zjg b a⟩) (by simp)
theorem Ztr {l:List Q0} (h:l≠[]):Gp l ∈ l:=by
 unfold Gp;have a:l.length-1<l.length:=by have:=List.length_pos_iff.2 h;omega
 rw[List.getD,List.getElem?_eq_getElem a];exact List.getElem_mem _
theorem Zqj (e:0<=kind) (a:kind<6):Z6 (Gp (Yi d kind))∧(Gp (Yi d kind)).st.kind=kind:=by
 obtain⟨b,c⟩:=ZfY (d:=d) e a;exact b _ (Ztr c)
theorem Zts (c:SzD d F B) (a:OkD d):(Yi d kind).length<=F+1:=by
 have b:=Zjc d kind (Xk (Qk d) 3) (Xk (Qk d) 3).length zL;rw[Zoc d kind _ _ rfl] at b;have e:=c.names a 3;unfold Yi;omega
theorem Zfe (k:0<=kind) (n:kind<6):OkS (Zew d kind):=by
 obtain⟨a,-⟩:=Zqj (d:=d) k n;have g:=Zrh d kind;unfold Zew;generalize Gp (Yi d kind)=b at a ⊢;unfold Lgb.behind;have t:=a.1;by_cases c:(Jm d kind).leads b
 ·rw[if_pos c]
  obtain⟨w,x,m,i⟩:=c;have l:=(Zcb _ _ i).2
  have p:(Q3 b ((Jm d kind).recs.drop (b.idx-(Jm d kind).first).toNat)).1.idx=(Jm d kind).next:=by
   rw[l,List.length_drop];unfold Lgb.next at m ⊢;omega
  have q:=g.top;have v:=g.f0;have u:0<=(Jm d kind).next:=by unfold Lgb.next;omega
  have j:I64 (Jm d kind).next:=⟨by omega,by omega⟩
  exact⟨g,p,a.snS.take i,fun f=>absurd rfl f,j,(Qo (by decide) (by decide):I64 0)⟩
 ·rw[if_neg c]
  have e:(⟨b.idx,[],[]⟩:Lgb).next=b.idx:=by simp[Lgb.next]
  refine⟨ZqK _ (by omega) (by omega),?_,a.snS,fun f=>absurd rfl f,?_,(Qo (by decide) (by decide):I64 0)⟩
  ·exact e.symm
  ·show I64 (⟨b.idx,[],[]⟩:Lgb).next
   rw[e];exact⟨by omega,by omega⟩
end Go.Proofs.YtnahjngbneicaaaGreatDoor
