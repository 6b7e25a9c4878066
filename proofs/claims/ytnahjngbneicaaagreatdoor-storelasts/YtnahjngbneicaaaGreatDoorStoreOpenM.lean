import Derived.Test.YtnahjngbneicaaaGreatDoorPack15
namespace Go.Proofs.YtnahjngbneicaaaGreatDoor
open _root_.Go.Proofs.Tryz
open List (length_append take_of_length_le)
set_option maxRecDepth 100000
variable {d:Dk} {l:List Rec} {kind:Int} {B F:Nat}
abbrev zfq:=@Nat.le_add_right
theorem ZzU (n:Nat):1<=(Lib.uvarint n).length:=by
 rw[Lib.uvarint];split <;> simp
theorem Zto (a:List Rec) (r:Rec):1<=(Zf a r).length:=by
 unfold Zf;rw[length_append];have:=ZzU r.proc.toNat;omega
theorem Zoe:∀ (l a:List Rec),l.length<=(Yg a l).length
 | [],a=>by simp
 | r::t,a=>by
  rw[Yg,length_append,zb9];have:=Zoe t (a++[r]);have:=Zto a r;omega
theorem ZvU {d:List UInt8} (h:ZdK d=some l):l.length<=d.length:=by
 obtain⟨-,a⟩:=ZfA h;rw[<-a];unfold X9;rw[length_append,length_append];have:=Zoe l [];omega
def Zzv (B:List (List UInt8)):Nat:=(B.map List.length).sum
theorem Zjd (d:List UInt8) (t:List (List UInt8)):Zzv (d::t)=d.length+Zzv t:=by simp[Zzv]
theorem Zje:∀ L:List (List UInt8),Zzv L<=(Qf L).length
 | []=>zai _
 | x::t=>by
  have a:=Zje t;have e:Qf (x::t)=Qd x++Qf t:=by simp[Qf]
  rw[Zjd,e,length_append,Q9];omega
theorem Ztp (b:List UInt8):Zzv (Qp b).1<=b.length:=by
 obtain⟨a,-⟩:=Zcm b.length b zL;have c:=Zje (Qp b).1;rw[a,zbt] at c;omega
theorem Zjf (first:Int):∀ (B:List (List UInt8)) (a:List Rec),(Ys first B a).length<=a.length+Zzv B
 | [],a=>by
  rw[Ys];omega
 | d::t,a=>by
  rw[ZaC,Zjd]
  cases hd:ZdK d with
  | none=>dsimp only;omega
  | some l=>
   dsimp only
   split
   ·have b:=Zjf first t (a++l)
    have:=ZvU hd;rw[length_append] at b;omega
   ·omega
theorem Zfc (first:Int):∀ (B:List (List UInt8)) (a:List Rec),Xl first a->Xl first (Ys first B a)
 | [],a,h=>by
  rw[Ys];exact h
 | d::t,a,h=>by
  rw[ZaC]
  cases hd:ZdK d with
  | none=>exact h
  | some l=>
   dsimp only
   split
   ·rename_i b
    refine Zfc first t (a++l) (Gx.2 ⟨h,?_⟩);rw[<-b];exact(ZfA hd).1.2.2.2
   ·exact h
theorem Zof {b:List UInt8} {f:Nat} (h:ZoH b kind=some (f,l)):Xl f l∧l.length<=b.length:=by
 have a:=Ztp b;rw[Zmh] at h;unfold Zqb at h
 cases hL:(Qp b).1 with
 | nil=>rw[hL] at h;cases h
 | cons H B=>
  rw[hL] at h a
  dsimp only at h
  cases hh:ZbB H kind with
  | none=>rw[hh] at h;cases h
  | some c=>
   rw[hh] at h;have d:=zak h
   injection d with e1 e2
   subst e1;rw[<-e2];refine⟨Zfc _ B [] trivial,?_⟩;have:=Zjf c B [];rw[Zjd] at a;simp only [zcr] at this;omega
theorem Zog:∀ (m:Nat) (l:List Nat),l.Nodup->(∀ x ∈ l,x<m)->l.length<=m
 | 0,l,_,h=>by
  cases l with
  | nil=>exact zat _
  | cons x t=>exact absurd (h x zbi) (zcj _)
 | m+1,l,hd,h=>by
  have d:=Zog m (l.erase m) (hd.erase m) (fun x a=>by
   have f:=h x (List.mem_of_mem_erase a)
   have b:x≠m:=fun e=>by
    rw[e] at a;exact(List.Nodup.mem_erase_iff hd).1 a |>.1 rfl
   omega)
  have c:l.length<=(l.erase m).length+1:=by
   rw[List.length_erase];split <;> omega
  omega
theorem OkL.few {m:Nat} {l:Dir} (h:OkL m l):l.length<=m:=by
 have c:(l.map Prod.snd).Nodup:=by
  unfold List.Nodup;rw[zea];exact h.apart
 have d:=Zog m (l.map Prod.snd) c (fun x b=>by
  obtain⟨p,a,rfl⟩:=zbd.1 b
  exact(h.may p a).2)
 rwa [zcz] at d
structure SzD (d:Dk) (F B:Nat):Prop where
 files:d.files.length<=F
 bytes:∀ x ∈ d.files,x.b.length<=B
theorem SzD.fl (h:SzD d F B) (f:Nat):(fl d.files f).b.length<=B:=by
 by_cases a:f<d.files.length
 ·exact h.bytes _ (ZbH a)
 ·unfold Go.Proofs.YtnahjngbneicaaaGreatDoor.fl
  rw[List.getD,zbw (by omega)]
  exact zai _
theorem SzD.read (h:SzD d F B) (n:Int):(Zp d n).1.length<=B:=by
 unfold Zp;split
 ·exact zai _
 ·split
  ·exact h.fl _
  ·exact zai _
theorem SzD.names (h:SzD d F B) (a:OkD d) (first:Int):(Xk (Qk d) first).length<=F:=by
 refine zas (zdn _ _) ?_;unfold Qk;rw[zcz];exact zas a.dir.few h.files
theorem OkG.logOne {b:Lgb} (h:OkG b) (n:Int):OkG (logOne d kind b n):=by
 unfold Go.Proofs.YtnahjngbneicaaaGreatDoor.logOne
 cases hs:ZoH (Zp d n).1 kind with
 | none=>exact h
 | some x=>
  obtain⟨f,l⟩:=x
  dsimp only
  obtain⟨k,i⟩:=ZvT hs;obtain⟨a,-⟩:=Zof hs;split
  ·rename_i c
   have j:=h.start n f (by omega) (by omega) c
   have g:=b.start_next n f h.empty c;refine j.add l ?_ i (by rw[g];exact a) ?_
   ·show(b.pcs++[_]).length≠0
    simp
   ·rw[g]
    by_cases e:l=[]
    ·rw[e]
     simp only [zcr];omega
    ·exact Zde a i e
  ·exact h
theorem Zoh (a:SzD d F B) (b:Lgb) (n:Int):(logOne d kind b n).recs.length<=b.recs.length+B∧(logOne d kind b n).pcs.length<=b.pcs.length+1:=by
 unfold logOne
 cases hs:ZoH (Zp d n).1 kind with
 | none=>exact⟨zfq _ _,zfq _ _⟩
 | some x=>
  obtain⟨f,l⟩:=x
  dsimp only
  obtain⟨-,c⟩:=Zof hs;have e:=a.read n;split
  ·refine⟨?_,?_⟩
   ·show(b.recs++l).length<=_
    rw[length_append];omega
   ·show(Zc (b.pcs++[_]) l.length).length<=_
    rw[Gc];simp
  ·exact⟨zfq _ _,zfq _ _⟩
theorem Zfd (d:Dk) (kind:Int) (l:List Int):∀ q,OkG (Jk d kind l q)
 | 0=>ZqK 0 (by decide) (by decide)
 | q+1=>by
  by_cases a:q<l.length
  ·rw[ZfV d kind l q a]
   exact(Zfd d kind l q).logOne _
  ·have e:Jk d kind l (q+1)=Jk d kind l q:=by
    unfold Jk;rw[take_of_length_le (by omega),take_of_length_le (by omega)]
   rw[e];exact Zfd d kind l q
theorem Zea (c:SzD d F B) (l:List Int):∀ q,(Jk d kind l q).recs.length<=min q l.length*B∧(Jk d kind l q).pcs.length<=min q l.length
 | 0=>⟨zai _,zai _⟩
 | q+1=>by
  have b:=Zea (kind:=kind) c l q;by_cases g:q<l.length
  ·rw[ZfV d kind l q g]
   have i:=Zoh (kind:=kind) c (Jk d kind l q) (l.getD q 0);have a:min q l.length=q:=by omega
   have f:min (q+1) l.length=q+1:=by omega
   rw[a] at b;rw[f,Nat.succ_mul];omega
  ·have e:Jk d kind l (q+1)=Jk d kind l q:=by
    unfold Jk;rw[take_of_length_le (by omega),take_of_length_le (by omega)]
   have a:min (q+1) l.length=min q l.length:=by omega
   rw[e,a];exact b
theorem OkG.logOk {g:Lgb} (h:OkG g) (d:g.recs.length<=9000000) (e:g.pcs.length<=900000):Zzf g:=by
 have c:=h.top;have a:=h.f0;refine⟨a,?_,d,e,fun p b=>?_⟩
 ·unfold Lgb.next at c
  omega
 ·have:=ZaY h.ch p b
  omega
theorem ZxM (kind:Int) {F B:Nat} (a:SzD d F B) (c:OkD d) (i:F<=900) (f:F*B<=9000000) (q:Nat):Zzf (Jk d kind (Xk (Qk d) 2) q):=by
 have g:=Zea (kind:=kind) a (Xk (Qk d) 2) q;have j:=a.names c 2;have b:min q (Xk (Qk d) 2).length<=F:=by omega
 refine(Zfd d kind _ q).logOk ?_ (by omega)
 have e:min q (Xk (Qk d) 2).length*B<=F*B:=zfv B b;omega
theorem Zrh (d:Dk) (kind:Int):OkG (Jm d kind):=by
 have:=Zfd d kind (Xk (Qk d) 2) (Xk (Qk d) 2).length
 rwa [ZiY d kind _ _ rfl] at this
theorem ZkP (kind:Int) {F B:Nat} (a:SzD d F B) (e:OkD d):(Jm d kind).recs.length<=F*B∧(Jm d kind).pcs.length<=F:=by
 have b:=Zea (kind:=kind) a (Xk (Qk d) 2) (Xk (Qk d) 2).length;rw[ZiY d kind _ _ rfl,Nat.min_self] at b;have c:=a.names e 2;have f:=zfv B c;unfold Jm;omega
theorem Ztq (b:0<=kind) (c:kind<6):Yl (J9 kind):=by
 have a:kind=0∨kind=1∨kind=2∨kind=3∨kind=4∨kind=5:=by omega
 rcases a with rfl | rfl | rfl | rfl | rfl | rfl <;> decide
theorem ZfX (b:0<=kind) (a:kind<6):Z6 (Zn kind):=⟨⟨by show(0:Int)<=0;decide,by show(0:Int)<4611686018427387904;decide⟩,Ztq b a,Gf.zero _⟩
theorem Zjg (b:0<=kind) (c:kind<6):(Zn kind).st.kind=kind:=by
 have a:kind=0∨kind=1∨kind=2∨kind=3∨kind=4∨kind=5:=by omega
 rcases a with rfl | rfl | rfl | rfl | rfl | rfl <;> rfl
theorem Z6.snS {s:Q0} (h:Z6 s):SnS s:=⟨h.2.1,h.2.2.tabR⟩
theorem Zgz:∀ (l:List Int) (b:List Q0),(∀ x ∈ b,Z6 x∧x.st.kind=kind)->b≠[]->(∀ x ∈ l.foldl (Js d kind) b,Z6 x∧x.st.kind=kind)∧l.foldl (Js d kind) b≠[]
 | [],b,h,h0=>⟨h,h0⟩
 | n::l,b,h,h0=>by
  rw[zd5];refine Zgz l _ ?_ ?_
  ·unfold Js
   split
   ·rename_i a
    intro x hx;rcases zaw.1 hx with hx | hx
    ·exact h x hx
    ·rw[zaq.1 hx]
     exact⟨(ZrP a.1).1,a.2⟩
   ·exact h
  ·unfold Js
   split
   ·simp
   ·exact h0
theorem ZfY (a:0<=kind) (b:kind<6):(∀ x ∈ Yi d kind,Z6 x∧x.st.kind=kind)∧Yi d kind≠[]:=
 Zgz _ _ (fun x c=>by rw[zaq.1 c];exact⟨ZfX a b,Zjg a b⟩) (by simp)
theorem Ztr {l:List Q0} (h:l≠[]):Gp l ∈ l:=by
 unfold Gp;have a:l.length-1<l.length:=by have:=zeh.2 h;omega
 rw[List.getD,za3 a];exact zcs _
theorem Zqj (b:0<=kind) (c:kind<6):Z6 (Gp (Yi d kind))∧(Gp (Yi d kind)).st.kind=kind:=by
 obtain⟨e,a⟩:=ZfY (d:=d) b c;exact e _ (Ztr a)
theorem Zts (a:SzD d F B) (c:OkD d):(Yi d kind).length<=F+1:=by
 have b:=Zjc d kind (Xk (Qk d) 3) (Xk (Qk d) 3).length zL;rw[Zoc d kind _ _ rfl] at b;have e:=a.names c 3;unfold Yi;omega
theorem Zfe (l:0<=kind) (p:kind<6):OkS (Zew d kind):=by
 obtain⟨a,-⟩:=Zqj (d:=d) l p;have c:=Zrh d kind;unfold Zew;generalize Gp (Yi d kind)=b at a ⊢;unfold Lgb.behind;have x:=a.1;by_cases f:(Jm d kind).leads b
 ·rw[zab f]
  obtain⟨q,w,j,i⟩:=f;have m:=(Zcb _ _ i).2
  have n:(Q3 b ((Jm d kind).recs.drop (b.idx-(Jm d kind).first).toNat)).1.idx=(Jm d kind).next:=by
   rw[m,zce];unfold Lgb.next at j ⊢;omega
  have t:=c.top;have u:=c.f0;have v:0<=(Jm d kind).next:=by unfold Lgb.next;omega
  have k:I64 (Jm d kind).next:=⟨by omega,by omega⟩
  exact⟨c,n,a.snS.take i,fun g=>absurd rfl g,k,(Qo (by decide) (by decide):I64 0)⟩
 ·rw[zaa f]
  have e:(⟨b.idx,[],[]⟩:Lgb).next=b.idx:=by simp[Lgb.next]
  refine⟨ZqK _ (by omega) (by omega),?_,a.snS,fun g=>absurd rfl g,?_,(Qo (by decide) (by decide):I64 0)⟩
  ·exact e.symm
  ·show I64 (⟨b.idx,[],[]⟩:Lgb).next
   rw[e];exact⟨by omega,by omega⟩
end Go.Proofs.YtnahjngbneicaaaGreatDoor
