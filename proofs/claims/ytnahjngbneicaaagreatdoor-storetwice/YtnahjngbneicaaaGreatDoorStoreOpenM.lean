import Derived.Test.YtnahjngbneicaaaGreatDoorStoreW
namespace Go.Proofs.YtnahjngbneicaaaGreatDoor
open _root_.Go.Proofs.Tryz
open List (length_append take_of_length_le)
set_option maxRecDepth 100000
variable {d:Dk} {l:List Rec} {kind:Int} {B F:Nat}
theorem ZBW (n:Nat):1<=(Lib.uvarint n).length:=by
 rw[Lib.uvarint];split <;> simp
theorem ZvI (a:List Rec) (r:Rec):1<=(ZbJ a r).length:=by
 unfold ZbJ;rw[length_append];have:=ZBW r.proc.toNat;omega
theorem ZqH:∀ (l a:List Rec),l.length<=(Zbs a l).length
 | [],a=>by simp
 | r::t,a=>by
  rw[Zbs,length_append,List.length_cons];have:=ZqH t (a++[r]);have:=ZvI a r;omega
theorem Zyh {d:List UInt8} (h:ZgU d=some l):l.length<=d.length:=by
 obtain⟨-,a⟩:=Ziz h;rw[<-a];unfold ZdF;rw[length_append,length_append];have:=ZqH l [];omega
def ZBv (B:List (List UInt8)):Nat:=(B.map List.length).sum
theorem ZlU (d:List UInt8) (t:List (List UInt8)):ZBv (d::t)=d.length+ZBv t:=by simp[ZBv]
theorem ZlV:∀ L:List (List UInt8),ZBv L<=(Zaf L).length
 | []=>Nat.zero_le _
 | x::t=>by
  have a:=ZlV t;have e:Zaf (x::t)=Zad x++Zaf t:=by simp[Zaf]
  rw[ZlU,e,length_append,Zas];omega
theorem ZvJ (b:List UInt8):ZBv (Zao b).1<=b.length:=by
 obtain⟨c,-⟩:=ZfB b.length b zL;have a:=ZlV (Zao b).1;rw[c,List.length_take] at a;omega
theorem ZlW (first:Int):∀ (B:List (List UInt8)) (a:List Rec),(Zby first B a).length<=a.length+ZBv B
 | [],a=>by
  rw[Zby];omega
 | d::t,a=>by
  rw[ZeE,ZlU]
  cases hd:ZgU d with
  | none=>dsimp only;omega
  | some l=>
   dsimp only
   split
   ·have b:=ZlW first t (a++l)
    have:=Zyh hd;rw[length_append] at b;omega
   ·omega
theorem Zih (first:Int):∀ (B:List (List UInt8)) (a:List Rec),Zbb first a->Zbb first (Zby first B a)
 | [],a,h=>by
  rw[Zby];exact h
 | d::t,a,h=>by
  rw[ZeE]
  cases hd:ZgU d with
  | none=>exact h
  | some l=>
   dsimp only
   split
   ·rename_i b
    refine Zih first t (a++l) (Zgq.2 ⟨h,?_⟩);rw[<-b];exact(Ziz hd).1.2.2.2
   ·exact h
theorem ZqI {b:List UInt8} {f:Nat} (h:ZyF b kind=some (f,l)):Zbb f l∧l.length<=b.length:=by
 have a:=ZvJ b;rw[Zsw] at h;unfold ZxX at h
 cases hL:(Zao b).1 with
 | nil=>rw[hL] at h;cases h
 | cons H B=>
  rw[hL] at h a
  dsimp only at h
  cases hh:Zfp H kind with
  | none=>rw[hh] at h;cases h
  | some d=>
   rw[hh] at h;have c:=Option.some.inj h
   injection c with e1 e2
   subst e1;rw[<-e2];refine⟨Zih _ B [] trivial,?_⟩;have:=ZlW d B [];rw[ZlU] at a;simp only [List.length_nil] at this;omega
theorem ZqJ:∀ (m:Nat) (l:List Nat),l.Nodup->(∀ x ∈ l,x<m)->l.length<=m
 | 0,l,_,h=>by
  cases l with
  | nil=>exact Nat.le_refl _
  | cons x t=>exact absurd (h x List.mem_cons_self) (Nat.not_lt_zero _)
 | m+1,l,hd,h=>by
  have f:=ZqJ m (l.erase m) (hd.erase m) (fun x a=>by
   have c:=h x (List.mem_of_mem_erase a)
   have b:x≠m:=fun e=>by
    rw[e] at a;exact(List.Nodup.mem_erase_iff hd).1 a |>.1 rfl
   omega)
  have d:l.length<=(l.erase m).length+1:=by
   rw[List.length_erase];split <;> omega
  omega
theorem OkL.few {m:Nat} {l:Dir} (h:OkL m l):l.length<=m:=by
 have d:(l.map Prod.snd).Nodup:=by
  unfold List.Nodup;rw[List.pairwise_map];exact h.apart
 have a:=ZqJ m (l.map Prod.snd) d (fun x c=>by
  obtain⟨p,b,rfl⟩:=List.mem_map.1 c
  exact(h.may p b).2)
 rwa [List.length_map] at a
structure SzD (d:Dk) (F B:Nat):Prop where
 files:d.files.length<=F
 bytes:∀ x ∈ d.files,x.b.length<=B
theorem SzD.fl (h:SzD d F B) (f:Nat):(fl d.files f).b.length<=B:=by
 by_cases a:f<d.files.length
 ·exact h.bytes _ (ZeS a)
 ·unfold Go.Proofs.YtnahjngbneicaaaGreatDoor.fl
  rw[List.getD,List.getElem?_eq_none (by omega)]
  exact Nat.zero_le _
theorem SzD.read (h:SzD d F B) (n:Int):(Zdc d n).1.length<=B:=by
 unfold Zdc;split
 ·exact Nat.zero_le _
 ·split
  ·exact h.fl _
  ·exact Nat.zero_le _
theorem SzD.names (h:SzD d F B) (a:OkD d) (first:Int):(ZaY (Zak d) first).length<=F:=by
 refine Nat.le_trans (List.length_filter_le _ _) ?_;unfold Zak;rw[List.length_map];exact Nat.le_trans a.dir.few h.files
theorem OkG.logOne {b:Lgb} (h:OkG b) (n:Int):OkG (logOne d kind b n):=by
 unfold Go.Proofs.YtnahjngbneicaaaGreatDoor.logOne
 cases hs:ZyF (Zdc d n).1 kind with
 | none=>exact h
 | some x=>
  obtain⟨f,l⟩:=x
  dsimp only
  obtain⟨k,c⟩:=Zyg hs;obtain⟨a,-⟩:=ZqI hs;split
  ·rename_i e
   have j:=h.start n f (by omega) (by omega) e
   have i:=b.start_next n f h.empty e;refine j.add l ?_ c (by rw[i];exact a) ?_
   ·show(b.pcs++[_]).length≠0
    simp
   ·rw[i]
    by_cases g:l=[]
    ·rw[g]
     simp only [List.length_nil];omega
    ·exact ZiB a c g
  ·exact h
theorem ZqK (a:SzD d F B) (b:Lgb) (n:Int):(logOne d kind b n).recs.length<=b.recs.length+B∧(logOne d kind b n).pcs.length<=b.pcs.length+1:=by
 unfold logOne
 cases hs:ZyF (Zdc d n).1 kind with
 | none=>exact⟨Nat.le_add_right _ _,Nat.le_add_right _ _⟩
 | some x=>
  obtain⟨f,l⟩:=x
  dsimp only
  obtain⟨-,c⟩:=ZqI hs;have e:=a.read n;split
  ·refine⟨?_,?_⟩
   ·show(b.recs++l).length<=_
    rw[length_append];omega
   ·show(ZbY (b.pcs++[_]) l.length).length<=_
    rw[ZcT];simp
  ·exact⟨Nat.le_add_right _ _,Nat.le_add_right _ _⟩
theorem Zii (d:Dk) (kind:Int) (l:List Int):∀ q,OkG (ZcZ d kind l q)
 | 0=>Ztj 0 (by decide) (by decide)
 | q+1=>by
  by_cases a:q<l.length
  ·rw[ZiT d kind l q a]
   exact(Zii d kind l q).logOne _
  ·have e:ZcZ d kind l (q+1)=ZcZ d kind l q:=by
    unfold ZcZ;rw[take_of_length_le (by omega),take_of_length_le (by omega)]
   rw[e];exact Zii d kind l q
theorem Zhl (c:SzD d F B) (l:List Int):∀ q,(ZcZ d kind l q).recs.length<=min q l.length*B∧(ZcZ d kind l q).pcs.length<=min q l.length
 | 0=>⟨Nat.zero_le _,Nat.zero_le _⟩
 | q+1=>by
  have b:=Zhl (kind:=kind) c l q;by_cases g:q<l.length
  ·rw[ZiT d kind l q g]
   have h:=ZqK (kind:=kind) c (ZcZ d kind l q) (l.getD q 0);have a:min q l.length=q:=by omega
   have f:min (q+1) l.length=q+1:=by omega
   rw[a] at b;rw[f,Nat.succ_mul];omega
  ·have e:ZcZ d kind l (q+1)=ZcZ d kind l q:=by
    unfold ZcZ;rw[take_of_length_le (by omega),take_of_length_le (by omega)]
   have a:min (q+1) l.length=min q l.length:=by omega
   rw[e,a];exact b
theorem OkG.logOk {g:Lgb} (h:OkG g) (e:g.recs.length<=9000000) (b:g.pcs.length<=900000):ZBf g:=by
 have d:=h.top;have a:=h.f0;refine⟨a,?_,e,b,fun p c=>?_⟩
 ·unfold Lgb.next at d
  omega
 ·have:=Zfb h.ch p c
  omega
theorem ZzW (kind:Int) {F B:Nat} (a:SzD d F B) (c:OkD d) (g:F<=900) (h:F*B<=9000000) (q:Nat):ZBf (ZcZ d kind (ZaY (Zak d) 2) q):=by
 have i:=Zhl (kind:=kind) a (ZaY (Zak d) 2) q;have e:=a.names c 2;have b:min q (ZaY (Zak d) 2).length<=F:=by omega
 refine(Zii d kind _ q).logOk ?_ (by omega)
 have f:min q (ZaY (Zak d) 2).length*B<=F*B:=Nat.mul_le_mul_right B b;omega
theorem ZtH (d:Dk) (kind:Int):OkG (Zji d kind):=by
 have:=Zii d kind (ZaY (Zak d) 2) (ZaY (Zak d) 2).length
 rwa [ZlO d kind _ _ rfl] at this
theorem Zny (kind:Int) {F B:Nat} (a:SzD d F B) (c:OkD d):(Zji d kind).recs.length<=F*B∧(Zji d kind).pcs.length<=F:=by
 have e:=Zhl (kind:=kind) a (ZaY (Zak d) 2) (ZaY (Zak d) 2).length;rw[ZlO d kind _ _ rfl,Nat.min_self] at e;have b:=a.names c 2;have f:=Nat.mul_le_mul_right B b;unfold Zji;omega
theorem ZvK (b:0<=kind) (c:kind<6):ZcD (Zdd kind):=by
 have a:kind=0∨kind=1∨kind=2∨kind=3∨kind=4∨kind=5:=by omega
 rcases a with rfl | rfl | rfl | rfl | rfl | rfl <;> decide
theorem ZvL (b:0<=kind) (a:kind<6):ZgA (ZdG kind):=⟨⟨by show(0:Int)<=0;decide,by show(0:Int)<4611686018427387904;decide⟩,ZvK b a,Zdz.zero _⟩
theorem ZsE (b:0<=kind) (c:kind<6):(ZdG kind).st.kind=kind:=by
 have a:kind=0∨kind=1∨kind=2∨kind=3∨kind=4∨kind=5:=by omega
 rcases a with rfl | rfl | rfl | rfl | rfl | rfl <;> rfl
theorem ZgA.snS {s:ZaW} (h:ZgA s):SnS s:=⟨h.2.1,h.2.2.tabR⟩
theorem Zjy:∀ (l:List Int) (b:List ZaW),(∀ x ∈ b,ZgA x∧x.st.kind=kind)->b≠[]->(∀ x ∈ l.foldl (Zdi d kind) b,ZgA x∧x.st.kind=kind)∧l.foldl (Zdi d kind) b≠[]
 | [],b,h,h0=>⟨h,h0⟩
 | n::l,b,h,h0=>by
  rw[List.foldl_cons];refine Zjy l _ ?_ ?_
  ·unfold Zdi
   split
   ·rename_i a
    intro x hx;rcases List.mem_append.1 hx with hx | hx
    ·exact h x hx
    ·rw[List.mem_singleton.1 hx]
     exact⟨(Zui a.1).1,a.2⟩
   ·exact h
  ·unfold Zdi
   split
   ·simp
   ·exact h0
theorem ZiV (a:0<=kind) (b:kind<6):(∀ x ∈ Zbr d kind,ZgA x∧x.st.kind=kind)∧Zbr d kind≠[]:=
 Zjy _ _ (fun x c=>by rw[List.mem_singleton.1 c];exact⟨ZvL a b,ZsE a b⟩) (by simp)
theorem ZvM {l:List ZaW} (h:l≠[]):Zef l ∈ l:=by
 unfold Zef;have a:l.length-1<l.length:=by have:=List.length_pos_iff.2 h;omega
 rw[List.getD,List.getElem?_eq_getElem a];exact List.getElem_mem _
theorem ZsF (c:0<=kind) (e:kind<6):ZgA (Zef (Zbr d kind))∧(Zef (Zbr d kind)).st.kind=kind:=by
 obtain⟨b,a⟩:=ZiV (d:=d) c e;exact b _ (ZvM a)
theorem ZvN (b:SzD d F B) (a:OkD d):(Zbr d kind).length<=F+1:=by
 have c:=ZlT d kind (ZaY (Zak d) 3) (ZaY (Zak d) 3).length zL;rw[ZqF d kind _ _ rfl] at c;have e:=b.names a 3;unfold Zbr;omega
theorem Zij (i:0<=kind) (n:kind<6):OkS (ZjD d kind):=by
 obtain⟨a,-⟩:=ZsF (d:=d) i n;have c:=ZtH d kind;unfold ZjD;generalize Zef (Zbr d kind)=b at a ⊢;unfold Lgb.behind;have w:=a.1;by_cases f:(Zji d kind).leads b
 ·rw[if_pos f]
  obtain⟨p,q,j,h⟩:=f;have m:=(ZgT _ _ h).2
  have l:(ZaQ b ((Zji d kind).recs.drop (b.idx-(Zji d kind).first).toNat)).1.idx=(Zji d kind).next:=by
   rw[m,List.length_drop];unfold Lgb.next at j ⊢;omega
  have t:=c.top;have u:=c.f0;have v:0<=(Zji d kind).next:=by unfold Lgb.next;omega
  have k:I64 (Zji d kind).next:=⟨by omega,by omega⟩
  exact⟨c,l,a.snS.take h,fun g=>absurd rfl g,k,(Zai (by decide) (by decide):I64 0)⟩
 ·rw[if_neg f]
  have e:(⟨b.idx,[],[]⟩:Lgb).next=b.idx:=by simp[Lgb.next]
  refine⟨Ztj _ (by omega) (by omega),?_,a.snS,fun g=>absurd rfl g,?_,(Zai (by decide) (by decide):I64 0)⟩
  ·exact e.symm
  ·show I64 (⟨b.idx,[],[]⟩:Lgb).next
   rw[e];exact⟨by omega,by omega⟩
end Go.Proofs.YtnahjngbneicaaaGreatDoor
