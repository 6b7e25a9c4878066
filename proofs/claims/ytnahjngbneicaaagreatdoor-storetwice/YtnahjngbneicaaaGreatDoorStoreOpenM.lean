import Derived.Test.YtnahjngbneicaaaGreatDoorStoreW
namespace Go.Proofs.YtnahjngbneicaaaGreatDoor
open _root_.Go.Proofs.Tryz
open List (length_append take_of_length_le)
set_option maxRecDepth 100000
variable {d:Dk} {l:List Rec} {kind:Int} {B F:Nat}
theorem ZyG (n:Nat):1<=(Lib.uvarint n).length:=by
 rw[Lib.uvarint];split <;> simp
theorem Zss (a:List Rec) (r:Rec):1<=(Ys a r).length:=by
 unfold Ys;rw[length_append];have:=ZyG r.proc.toNat;omega
theorem Znr:∀ (l a:List Rec),l.length<=(Xw a l).length
 | [],a=>by simp
 | r::t,a=>by
  rw[Xw,length_append,List.length_cons];have:=Znr t (a++[r]);have:=Zss a r;omega
theorem ZuR {d:List UInt8} (h:ZdE d=some l):l.length<=d.length:=by
 obtain⟨-,a⟩:=Zfj h;rw[<-a];unfold Y2;rw[length_append,length_append];have:=Znr l [];omega
def Zyf (B:List (List UInt8)):Nat:=(B.map List.length).sum
theorem ZiE (d:List UInt8) (t:List (List UInt8)):Zyf (d::t)=d.length+Zyf t:=by simp[Zyf]
theorem ZiF:∀ L:List (List UInt8),Zyf L<=(Qf L).length
 | []=>Nat.zero_le _
 | x::t=>by
  have a:=ZiF t;have e:Qf (x::t)=Qe x++Qf t:=by simp[Qf]
  rw[ZiE,e,length_append,Qz];omega
theorem Zst (b:List UInt8):Zyf (Qm b).1<=b.length:=by
 obtain⟨c,-⟩:=Zcm b.length b zL;have a:=ZiF (Qm b).1;rw[c,List.length_take] at a;omega
theorem ZiG (first:Int):∀ (B:List (List UInt8)) (a:List Rec),(Ym first B a).length<=a.length+Zyf B
 | [],a=>by
  rw[Ym];omega
 | d::t,a=>by
  rw[Zbt,ZiE]
  cases hd:ZdE d with
  | none=>dsimp only;omega
  | some l=>
   dsimp only
   split
   ·have b:=ZiG first t (a++l)
    have:=ZuR hd;rw[length_append] at b;omega
   ·omega
theorem ZeR (first:Int):∀ (B:List (List UInt8)) (a:List Rec),Xq first a->Xq first (Ym first B a)
 | [],a,h=>by
  rw[Ym];exact h
 | d::t,a,h=>by
  rw[Zbt]
  cases hd:ZdE d with
  | none=>exact h
  | some l=>
   dsimp only
   split
   ·rename_i b
    refine ZeR first t (a++l) (Zda.2 ⟨h,?_⟩);rw[<-b];exact(Zfj hd).1.2.2.2
   ·exact h
theorem Zns {b:List UInt8} {f:Nat} (h:Zvp b kind=some (f,l)):Xq f l∧l.length<=b.length:=by
 have a:=Zst b;rw[Zpg] at h;unfold ZuH at h
 cases hL:(Qm b).1 with
 | nil=>rw[hL] at h;cases h
 | cons H B=>
  rw[hL] at h a
  dsimp only at h
  cases hh:Zca H kind with
  | none=>rw[hh] at h;cases h
  | some d=>
   rw[hh] at h;have c:=Option.some.inj h
   injection c with e1 e2
   subst e1;rw[<-e2];refine⟨ZeR _ B [] trivial,?_⟩;have:=ZiG d B [];rw[ZiE] at a;simp only [List.length_nil] at this;omega
theorem Znt:∀ (m:Nat) (l:List Nat),l.Nodup->(∀ x ∈ l,x<m)->l.length<=m
 | 0,l,_,h=>by
  cases l with
  | nil=>exact Nat.le_refl _
  | cons x t=>exact absurd (h x List.mem_cons_self) (Nat.not_lt_zero _)
 | m+1,l,hd,h=>by
  have c:=Znt m (l.erase m) (hd.erase m) (fun x a=>by
   have d:=h x (List.mem_of_mem_erase a)
   have f:x≠m:=fun e=>by
    rw[e] at a;exact(List.Nodup.mem_erase_iff hd).1 a |>.1 rfl
   omega)
  have b:l.length<=(l.erase m).length+1:=by
   rw[List.length_erase];split <;> omega
  omega
theorem OkL.few {m:Nat} {l:Dir} (h:OkL m l):l.length<=m:=by
 have b:(l.map Prod.snd).Nodup:=by
  unfold List.Nodup;rw[List.pairwise_map];exact h.apart
 have c:=Znt m (l.map Prod.snd) b (fun x a=>by
  obtain⟨p,d,rfl⟩:=List.mem_map.1 a
  exact(h.may p d).2)
 rwa [List.length_map] at c
structure SzD (d:Dk) (F B:Nat):Prop where
 files:d.files.length<=F
 bytes:∀ x ∈ d.files,x.b.length<=B
theorem SzD.fl (h:SzD d F B) (f:Nat):(fl d.files f).b.length<=B:=by
 by_cases a:f<d.files.length
 ·exact h.bytes _ (ZbE a)
 ·unfold Go.Proofs.YtnahjngbneicaaaGreatDoor.fl
  rw[List.getD,List.getElem?_eq_none (by omega)]
  exact Nat.zero_le _
theorem SzD.read (h:SzD d F B) (n:Int):(Z1 d n).1.length<=B:=by
 unfold Z1;split
 ·exact Nat.zero_le _
 ·split
  ·exact h.fl _
  ·exact Nat.zero_le _
theorem SzD.names (h:SzD d F B) (a:OkD d) (first:Int):(Xg (Ql d) first).length<=F:=by
 refine Nat.le_trans (List.length_filter_le _ _) ?_;unfold Ql;rw[List.length_map];exact Nat.le_trans a.dir.few h.files
theorem OkG.logOne {b:Lgb} (h:OkG b) (n:Int):OkG (logOne d kind b n):=by
 unfold Go.Proofs.YtnahjngbneicaaaGreatDoor.logOne
 cases hs:Zvp (Z1 d n).1 kind with
 | none=>exact h
 | some x=>
  obtain⟨f,l⟩:=x
  dsimp only
  obtain⟨k,a⟩:=ZuQ hs;obtain⟨c,-⟩:=Zns hs;split
  ·rename_i i
   have j:=h.start n f (by omega) (by omega) i
   have e:=b.start_next n f h.empty i;refine j.add l ?_ a (by rw[e];exact c) ?_
   ·show(b.pcs++[_]).length≠0
    simp
   ·rw[e]
    by_cases g:l=[]
    ·rw[g]
     simp only [List.length_nil];omega
    ·exact Zfl c a g
  ·exact h
theorem Znu (a:SzD d F B) (b:Lgb) (n:Int):(logOne d kind b n).recs.length<=b.recs.length+B∧(logOne d kind b n).pcs.length<=b.pcs.length+1:=by
 unfold logOne
 cases hs:Zvp (Z1 d n).1 kind with
 | none=>exact⟨Nat.le_add_right _ _,Nat.le_add_right _ _⟩
 | some x=>
  obtain⟨f,l⟩:=x
  dsimp only
  obtain⟨-,c⟩:=Zns hs;have e:=a.read n;split
  ·refine⟨?_,?_⟩
   ·show(b.recs++l).length<=_
    rw[length_append];omega
   ·show(Zq (b.pcs++[_]) l.length).length<=_
    rw[Zah];simp
  ·exact⟨Nat.le_add_right _ _,Nat.le_add_right _ _⟩
theorem ZeS (d:Dk) (kind:Int) (l:List Int):∀ q,OkG (Zt d kind l q)
 | 0=>ZpT 0 (by decide) (by decide)
 | q+1=>by
  by_cases a:q<l.length
  ·rw[ZfD d kind l q a]
   exact(ZeS d kind l q).logOne _
  ·have e:Zt d kind l (q+1)=Zt d kind l q:=by
    unfold Zt;rw[take_of_length_le (by omega),take_of_length_le (by omega)]
   rw[e];exact ZeS d kind l q
theorem ZdV {kind:Int} (c:SzD d F B) (l:List Int):∀ q,(Zt d kind l q).recs.length<=min q l.length*B∧(Zt d kind l q).pcs.length<=min q l.length
 | 0=>⟨Nat.zero_le _,Nat.zero_le _⟩
 | q+1=>by
  have b:=ZdV (kind:=kind) c l q;by_cases g:q<l.length
  ·rw[ZfD d kind l q g]
   have i:=Znu (kind:=kind) c (Zt d kind l q) (l.getD q 0);have a:min q l.length=q:=by omega
   have f:min (q+1) l.length=q+1:=by omega
   rw[a] at b;rw[f,Nat.succ_mul];omega
  ·have e:Zt d kind l (q+1)=Zt d kind l q:=by
    unfold Zt;rw[take_of_length_le (by omega),take_of_length_le (by omega)]
   have a:min (q+1) l.length=min q l.length:=by omega
   rw[e,a];exact b
theorem OkG.logOk {g:Lgb} (h:OkG g) (a:g.recs.length<=9000000) (b:g.pcs.length<=900000):ZxP g:=by
 have d:=h.top;have c:=h.f0;refine⟨c,?_,a,b,fun p e=>?_⟩
 ·unfold Lgb.next at d
  omega
 ·have:=ZbN h.ch p e
  omega
theorem ZwG (kind:Int) {F B:Nat} (a:SzD d F B) (b:OkD d) (i:F<=900) (j:F*B<=9000000) (q:Nat):ZxP (Zt d kind (Xg (Ql d) 2) q):=by
 have f:=ZdV (kind:=kind) a (Xg (Ql d) 2) q;have g:=a.names b 2;have c:min q (Xg (Ql d) 2).length<=F:=by omega
 refine(ZeS d kind _ q).logOk ?_ (by omega)
 have e:min q (Xg (Ql d) 2).length*B<=F*B:=Nat.mul_le_mul_right B c;omega
theorem Zqr (d:Dk) (kind:Int):OkG (ZfS d kind):=by
 have:=ZeS d kind (Xg (Ql d) 2) (Xg (Ql d) 2).length
 rwa [Ziy d kind _ _ rfl] at this
theorem Zki (kind:Int) {F B:Nat} (a:SzD d F B) (b:OkD d):(ZfS d kind).recs.length<=F*B∧(ZfS d kind).pcs.length<=F:=by
 have c:=ZdV (kind:=kind) a (Xg (Ql d) 2) (Xg (Ql d) 2).length;rw[Ziy d kind _ _ rfl,Nat.min_self] at c;have e:=a.names b 2;have f:=Nat.mul_le_mul_right B e;unfold ZfS;omega
theorem Zsu (c:0<=kind) (b:kind<6):X8 (Jo kind):=by
 have a:kind=0∨kind=1∨kind=2∨kind=3∨kind=4∨kind=5:=by omega
 rcases a with rfl | rfl | rfl | rfl | rfl | rfl <;> decide
theorem Zsv (a:0<=kind) (b:kind<6):Zdk (ZaC kind):=⟨⟨by show(0:Int)<=0;decide,by show(0:Int)<4611686018427387904;decide⟩,Zsu a b,Jh.zero _⟩
theorem Zpo (c:0<=kind) (b:kind<6):(ZaC kind).st.kind=kind:=by
 have a:kind=0∨kind=1∨kind=2∨kind=3∨kind=4∨kind=5:=by omega
 rcases a with rfl | rfl | rfl | rfl | rfl | rfl <;> rfl
theorem Zdk.snS {s:Qv} (h:Zdk s):SnS s:=⟨h.2.1,h.2.2.tabR⟩
theorem Zgi:∀ (l:List Int) (b:List Qv),(∀ x ∈ b,Zdk x∧x.st.kind=kind)->b≠[]->(∀ x ∈ l.foldl (Zao d kind) b,Zdk x∧x.st.kind=kind)∧l.foldl (Zao d kind) b≠[]
 | [],b,h,h0=>⟨h,h0⟩
 | n::l,b,h,h0=>by
  rw[List.foldl_cons];refine Zgi l _ ?_ ?_
  ·unfold Zao
   split
   ·rename_i a
    intro x hx;rcases List.mem_append.1 hx with hx | hx
    ·exact h x hx
    ·rw[List.mem_singleton.1 hx]
     exact⟨(ZqS a.1).1,a.2⟩
   ·exact h
  ·unfold Zao
   split
   ·simp
   ·exact h0
theorem ZfF (b:0<=kind) (a:kind<6):(∀ x ∈ Yd d kind,Zdk x∧x.st.kind=kind)∧Yd d kind≠[]:=
 Zgi _ _ (fun x c=>by rw[List.mem_singleton.1 c];exact⟨Zsv b a,Zpo b a⟩) (by simp)
theorem Zsw {l:List Qv} (h:l≠[]):ZaW l ∈ l:=by
 unfold ZaW;have a:l.length-1<l.length:=by have:=List.length_pos_iff.2 h;omega
 rw[List.getD,List.getElem?_eq_getElem a];exact List.getElem_mem _
theorem Zpp (e:0<=kind) (a:kind<6):Zdk (ZaW (Yd d kind))∧(ZaW (Yd d kind)).st.kind=kind:=by
 obtain⟨b,c⟩:=ZfF (d:=d) e a;exact b _ (Zsw c)
theorem Zsx (c:SzD d F B) (a:OkD d):(Yd d kind).length<=F+1:=by
 have b:=ZiD d kind (Xg (Ql d) 3) (Xg (Ql d) 3).length zL;rw[Znp d kind _ _ rfl] at b;have e:=c.names a 3;unfold Yd;omega
theorem ZeT (l:0<=kind) (k:kind<6):OkS (Zgn d kind):=by
 obtain⟨a,-⟩:=Zpp (d:=d) l k;have g:=Zqr d kind;unfold Zgn;generalize ZaW (Yd d kind)=b at a ⊢;unfold Lgb.behind;have u:=a.1;by_cases f:(ZfS d kind).leads b
 ·rw[if_pos f]
  obtain⟨q,t,j,i⟩:=f;have m:=(ZdD _ _ i).2
  have p:(Xa b ((ZfS d kind).recs.drop (b.idx-(ZfS d kind).first).toNat)).1.idx=(ZfS d kind).next:=by
   rw[m,List.length_drop];unfold Lgb.next at j ⊢;omega
  have v:=g.top;have x:=g.f0;have w:0<=(ZfS d kind).next:=by unfold Lgb.next;omega
  have n:I64 (ZfS d kind).next:=⟨by omega,by omega⟩
  exact⟨g,p,a.snS.take i,fun c=>absurd rfl c,n,(Qk (by decide) (by decide):I64 0)⟩
 ·rw[if_neg f]
  have e:(⟨b.idx,[],[]⟩:Lgb).next=b.idx:=by simp[Lgb.next]
  refine⟨ZpT _ (by omega) (by omega),?_,a.snS,fun c=>absurd rfl c,?_,(Qk (by decide) (by decide):I64 0)⟩
  ·exact e.symm
  ·show I64 (⟨b.idx,[],[]⟩:Lgb).next
   rw[e];exact⟨by omega,by omega⟩
end Go.Proofs.YtnahjngbneicaaaGreatDoor
