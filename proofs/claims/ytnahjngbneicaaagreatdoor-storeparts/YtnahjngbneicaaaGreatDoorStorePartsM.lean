import Derived.Test.YtnahjngbneicaaaGreatDoorStoreRunQ
import Derived.Test.YtnahjngbneicaaaGreatDoorPack3
namespace Go.Proofs.YtnahjngbneicaaaGreatDoor
set_option maxRecDepth 100000
structure ZkM (d:Dk) (c:Nat):Prop where
 pw:d.power=-1
 rm:d.room=1000000
 us:ZcB d<=200*c
 nm:∀ n ∈ Zan d,n<=2*c
theorem Zvq:ZkM (ZfL 1000000) 0:=⟨rfl,rfl,Nat.le_refl _,(fun n hn=>by cases hn)⟩
theorem Zqv {d:Dk} {c:Nat} (h:∀ n ∈ Zan d,n<=2*(c:Int)):Zbz d 2<=2*c+2:=by
 unfold Zbz
 have hb:∀ n ∈ ZaR (Zan d) 2,n<=2*(c:Int):=fun n hn=>h n (List.mem_filter.1 hn).1
 generalize ZaR (Zan d) 2=l at hb
 by_cases h1:l.length=0
 ·rw[List.eq_nil_of_length_eq_zero h1]
  show(2:Int)-2+2<=_
  omega
 ·have e:l.getD (l.length-1) (2-2)=l[l.length-1]'(by omega):=by simp[List.getD,show l.length-1<l.length by omega]
  have:=hb _ (List.getElem_mem (show l.length-1<l.length by omega))
  rw[e]
  omega
theorem ZoG {d:Dk} {c:Nat} (hok:OkD d) (h:ZkM d c) {n:Int} {b:List UInt8} {m:Nat} (hb:b.length<=200*m) (hn:Zgj n=true) (hn2:n<=2*((c+m:Nat):Int)) (hc:c+m<=4000):(Zaw d n b).2=0∧ZkM (Zaw d n b).1 (c+m):=by
 have hr:=Zqo hok n b
 have h0:(Zaw d n b).2=0:=by
  unfold Zaw
  rw[if_neg (by rw[h.pw];decide),if_neg (by rw[hn];decide),if_neg (by rw[h.rm];have:=h.us;omega)]
  split <;> rfl
 refine⟨h0,ZsO h.pw n b,hr.1.trans h.rm,?_,fun k hk=>?_⟩
 ·rcases hr.2 with ⟨-,hu,-⟩ | ⟨hx,-⟩
  ·have:=h.us
   omega
  ·exact absurd h0 hx
 ·rcases(Zif hok h0 k).1 hk with e | e
  ·rw[e];exact hn2
  ·have:=h.nm k e
   omega
structure Zqw (x:SDk) (all:List Rec) (n c:Nat):Prop where
 run:Zlz x all n
 dk:ZkM x.2 c
 al:all.length<=c
 wt:x.1.nw=true->x.1.cur≠0
theorem Zqx {s:Sto} {l:List Rec} (h:ZaY l) (hk:0<=s.now.st.kind∧s.now.st.kind<6) (hx:s.next<4611686018427387904):(ZcM s l).length<=200*l.length:=by
 have h1:=ZmH h
 have h0:=h.1
 have h9:=h.2.1
 have h2:=ZdN (d:=ZcU l) (by omega)
 unfold ZcM
 split
 ·rw[List.length_append]
  have h3:=Zff (v:=3) (k:=s.now.st.kind.toNat) (f:=s.next.toNat) (by decide) (by omega) (by omega)
  have h4:=ZdN (d:=Zbk 3 s.now.st.kind.toNat s.next.toNat) (by omega)
  omega
 ·omega
theorem Zqw.append {x:SDk} {all:List Rec} {n c:Nat} (h:Zqw x all n c) {l:List Rec} (hf:ZaY l) (hi:(l.headD Zai).idx=x.1.next) (hl:l.length<=20) (hc:c+l.length<=4000):(ZaT l x).2=0∧Zqw (ZaT l x).1 (all++l) (n+1) (c+l.length):=by
 obtain⟨s,d⟩:=x
 have hr:=h.run.append l hl
 have hok:OkS s:=h.run.ok
 have hokd:OkD d:=h.run.okd
 have hch:ZaO s.next l:=by rw[<-hi];exact hf.2.2.2
 have hne:l≠[]:=fun e=>by rw[e] at hf;exact absurd hf.1 (by decide)
 have htl:=Zfo hch hf.2.2.1 hne
 have h1l:1<=l.length:=hf.1
 have hb:=Zqx (s:=s) hf ⟨hok.now.1.2.2.2.1,hok.now.1.2.2.2.2.1⟩ (by omega)
 have hon:d.power≠0:=by rw[h.dk.pw];decide
 have hnm:Zgj (ZdJ s d)=true∧ZdJ s d<=2*((c+l.length:Nat):Int):=by
  unfold ZdJ
  by_cases h0:s.cur=0
  ·rw[if_pos h0]
   have h1:Zbz d 2<=2*c+2:=Zqv h.dk.nm
   have h2:=ZeH (d:=d) 2
   refine⟨(ZqY _).2 ⟨by omega,by omega⟩,by omega⟩
  ·rw[if_neg h0]
   obtain⟨a,p,hp1,hp2⟩:=h.run.curL h0
   have hp1':s.log.pcs=a++[p]:=hp1
   have hp3:p ∈ s.log.pcs:=by rw[hp1'];simp
   have h1:=h.run.on hon p hp3
   have h2:=h.dk.nm _ h1
   have h3:=h.run.two p hp3
   have hp2':p.name=s.cur:=hp2
   rw[hp2'] at h2 h3
   exact⟨(ZqY _).2 ⟨by omega,by omega⟩,by omega⟩
 obtain⟨k1,k2⟩:=ZoG hokd h.dk hb hnm.1 hnm.2 hc
 have e:ZaT l (s,d)=((ZbE s (ZdJ s d) l,(Zaw d (ZdJ s d) (ZcM s l)).1),0):=by
  unfold ZaT
  rw[if_neg (fun hh=>hh hf),if_neg (fun hh=>hh hi),if_pos k1]
 rw[e] at hr ⊢
 rw[if_pos rfl] at hr
 refine⟨rfl,hr,k2,by rw[List.length_append];have:=h.al;omega,fun _=>?_⟩
 show ZdJ s d≠0
 unfold ZdJ
 split
 ·have h2:=ZeH (d:=d) 2
  omega
 ·assumption
theorem ZsY {d:Dk} {c:Nat} (h:ZkM d c) {n:Int} (hok:OkD d) (hn:n ∈ Zan d):(ZdX d n).2=0∧ZkM (ZdX d n).1 c:=by
 obtain⟨f,hf⟩:=(ZhI hok n).1 hn
 have hp:d.power≠0:=by rw[h.pw];decide
 have e:ZdX d n=({ d with files:=Zfu d.files f,power:=ZdW d.power },0):=by
  unfold ZdX
  rw[if_neg hp,hf]
 rw[e]
 refine⟨rfl,?_,h.rm,?_,h.nm⟩
 ·show ZdW d.power=-1
  rw[h.pw];rfl
 ·show ZcB { d with files:=Zfu d.files f,power:=ZdW d.power }<=_
  rw[ZkW hok hf]
  exact h.us
theorem ZmI {d:Dk} {c:Nat} (h:ZkM d c):(Zbd d).2=0∧ZkM (Zbd d).1 c:=by
 have hp:d.power≠0:=by rw[h.pw];decide
 unfold Zbd
 rw[if_neg hp]
 refine⟨rfl,?_,h.rm,h.us,h.nm⟩
 show ZdW d.power=-1
 rw[h.pw];rfl
theorem Zqw.rotate {x:SDk} {all:List Rec} {n c:Nat} (h:Zqw x all n c):(Zcc x).2=0∧Zqw (Zcc x).1 all n c:=by
 have hrr:=h.run.rotate
 obtain⟨s,d⟩:=x
 have hokd:OkD d:=h.run.okd
 have key:(Zch (s,d)).2=0∧ZkM (Zch (s,d)).1.2 c∧(Zch (s,d)).1.1.nw=false:=by
  by_cases h0:s.cur=0
  ·have e:Zch (s,d)=((Zdy s,d),0):=by unfold Zch;rw[if_pos h0]
   rw[e]
   refine⟨rfl,h.dk,?_⟩
   show s.nw=false
   cases hw:s.nw with
   | false=>rfl
   | true=>exact absurd h0 (h.wt hw)
  ·obtain⟨a,p,hp1,hp2⟩:=h.run.curL h0
   have hp1':s.log.pcs=a++[p]:=hp1
   have hp2':p.name=s.cur:=hp2
   have hon:d.power≠0:=by rw[h.dk.pw];decide
   have h1:=h.run.on hon p (by show p ∈ s.log.pcs;rw[hp1'];simp)
   rw[hp2'] at h1
   obtain⟨k1,k2⟩:=ZsY h.dk hokd h1
   obtain⟨k3,k4⟩:=ZmI k2
   have e1:Zas (s,d)=((s,(ZdX d s.cur).1),(ZdX d s.cur).2):=rfl
   have e2:(ZgX [Zas,Zav] (s,d)).2=0∧ZkM (ZgX [Zas,Zav] (s,d)).1.2 c∧(ZgX [Zas,Zav] (s,d)).1.1.nw=false:=by
    rw[ZgX,e1,if_pos k1]
    have h5:=ZwE Zav (s,(ZdX d s.cur).1)
    rw[h5.1,h5.2]
    unfold Zav
    split
    ·refine⟨k3,k4,?_⟩
     unfold Zco
     dsimp only
     rw[if_pos k3]
    ·rename_i hw
     refine⟨rfl,k2,?_⟩
     cases hx:s.nw with
     | false=>rfl
     | true=>exact absurd hx hw
   unfold Zch
   rw[if_neg h0,if_pos e2.1]
   exact⟨rfl,e2.2.1,e2.2.2⟩
 obtain⟨k1,k2,k3⟩:=key
 unfold Zcc at hrr ⊢
 rw[if_pos k1] at hrr ⊢
 refine⟨rfl,hrr,k2,h.al,fun hw=>?_⟩
 have hw':(Zch (s,d)).1.1.nw=true:=hw
 rw[k3] at hw'
 cases hw'
end Go.Proofs.YtnahjngbneicaaaGreatDoor
