import Derived.Test.YtnahjngbneicaaaGreatDoorOpenBlock
namespace Go.Proofs.YtnahjngbneicaaaGreatDoor
set_option maxRecDepth 100000
open Go.RowKit Go.ChangeShapes
structure SOp where
 kind:Int
 many:Int
 n:Int
 op:Opn
 keep:List Int
 recs:List Rec
 b:List UInt8
structure Zqk (w:World) (b o:Nat) (x:SOp) (vk vr vb:Value):Prop where
 c0:w.cell? ⟨b,o,none⟩=some (.int .i64 x.kind)
 c1:w.cell? ⟨b,o+1,none⟩=some (.int .i64 x.many)
 c2:w.cell? ⟨b,o+2,none⟩=some (.int .i64 x.n)
 c3:w.cell? ⟨b,o+3,none⟩=some (.int .i64 x.op.code)
 c4:w.cell? ⟨b,o+4,none⟩=some (.int .i64 x.op.a)
 c5:w.cell? ⟨b,o+5,none⟩=some (.int .i64 x.op.b)
 c6:w.cell? ⟨b,o+6,none⟩=some vk
 c7:w.cell? ⟨b,o+7,none⟩=some vr
 c8:w.cell? ⟨b,o+8,none⟩=some vb
 rk:RdI w vk x.keep
 rr:RdR w vr x.recs
 rb:Rd w vb x.b
 i0:I64 x.kind
 i1:I64 x.many
 i2:I64 x.n
 io:Zxo x.op
theorem ZbB {w w':World} {B:Nat} {a:Addr} {v:Value} (h:w.cell? a=some v) (hb:Below B w w') (hB:w.heap.size<=B):w'.cell? a=some v:=by
 have hlt:a.block<w.heap.size:=World.block_lt_of_cell? w a h
 rw[hb.cell (p:=a) (by exact Nat.lt_of_lt_of_le hlt hB)]
 exact h
theorem Zqk.below {w w':World} {b o B:Nat} {x:SOp} {vk vr vb:Value} (h:Zqk w b o x vk vr vb) (hb:Below B w w') (hB:w.heap.size<=B):Zqk w' b o x vk vr vb:=
 ⟨ZbB h.c0 hb hB,ZbB h.c1 hb hB,ZbB h.c2 hb hB,ZbB h.c3 hb hB,ZbB h.c4 hb hB,ZbB h.c5 hb hB,ZbB h.c6 hb hB,ZbB h.c7 hb hB,ZbB h.c8 hb hB,h.rk.below hb hB,h.rr.below hb hB,h.rb.below hb hB,h.i0,h.i1,h.i2,h.io⟩
def RdS (w:World) (v:Value) (l:List SOp):Prop:=
 ∃ ao cap,v=.slice ao l.length cap∧l.length<=cap∧cap<=maxLen∧(ao=none->cap=0)∧
  ∀ j x,l[j]?=some x->∃ b off vk vr vb,ao=some ⟨b,off,none⟩∧Zqk w b (off+j*9) x vk vr vb
theorem RdS.below {w w':World} {v:Value} {l:List SOp} (h:RdS w v l) {B:Nat} (hb:Below B w w') (hB:w.heap.size<=B):RdS w' v l:=by
 obtain⟨ao,cap,h1,h2,h3,h4,h5⟩:=h
 refine⟨ao,cap,h1,h2,h3,h4,fun j x hj=>?_⟩
 obtain⟨b,off,vk,vr,vb,e,ho⟩:=h5 j x hj
 exact⟨b,off,vk,vr,vb,e,ho.below hb hB⟩
theorem RdS.at {w:World} {ao:Option Addr} {n cap:Nat} {l:List SOp} (h:RdS w (.slice ao n cap) l) {i:Nat} (hi:i<l.length):
 ∃ x b off ka kc ra rc ba bc,l[i]?=some x∧ao=some ⟨b,off,none⟩∧Zqk w b (off+i*9) x (.slice ka x.keep.length kc) (.slice ra x.recs.length rc) (.slice ba x.b.length bc):=by
 obtain⟨ao',cap',hv,_,_,_,h5⟩:=h
 simp only [Value.slice.injEq] at hv
 obtain⟨rfl,_,rfl⟩:=hv
 obtain⟨b,off,vk,vr,vb,e,ho⟩:=h5 i _ (List.getElem?_eq_getElem hi)
 obtain⟨ka,kc,rfl,-⟩:=id ho.rk
 obtain⟨ra,rc,rfl,-⟩:=id ho.rr
 obtain⟨ba,bc,rfl,-⟩:=id ho.rb
 exact⟨_,b,off,ka,kc,ra,rc,ba,bc,List.getElem?_eq_getElem hi,e,ho⟩
theorem Zkl:Tryz.prog.cellsOf 55=9:=by kernel_rfl
theorem Zox:Tryz.prog.cellsOf 53=1:=by kernel_rfl
theorem Zql:Tryz.prog.cellsOf 29=1:=by kernel_rfl
theorem Zve {H:Type} {enc:TypeId × Value->H} {w:World} {base fuel:Nat} {held:Bool} {cs:List Value} {x:DataW H × List MemPlace} (h:DataW.trod enc Tryz.prog w base (fun _=>true) held fuel 53 cs=some x):∃ v l,cs=[v]∧Rd w v l:=by
 rcases open_ints Tryz.underlying53 Tryz.underlying5 (by kernel_rfl) h with ⟨hcs,_⟩ | ⟨y,l,c,zs,hcs,_,hl,hm,hz,_,hcell,hwz⟩
 ·exact⟨_,[],hcs,Rd.nil _⟩
 ·exact⟨_,_,hcs,Rd.ofRow hl hm (by simpa using hz) hcell hwz⟩
theorem ZfG {H:Type} {enc:TypeId × Value->H} {w:World} {base fuel:Nat} {held:Bool} {cs:List Value} {x:DataW H × List MemPlace} (h:DataW.trod enc Tryz.prog w base (fun _=>true) held fuel 55 cs=some x):
 ∃ (o:SOp) (vk vr vb:Value),cs=[.int .i64 o.kind,.int .i64 o.many,.int .i64 o.n,.int .i64 o.op.code,.int .i64 o.op.a,.int .i64 o.op.b,vk,vr,vb]∧RdI w vk o.keep∧RdR w vr o.recs∧Rd w vb o.b∧I64 o.kind∧I64 o.many∧I64 o.n∧Zxo o.op:=by
 obtain⟨xs,n,_,_,hl,hxl,hf⟩:=DataW.trod_struct Tryz.underlying55 h
 rw[Zkl] at hl
 match xs,hxl,cs,hl with
 | [y0,y1,y2,y3,y4,y5,y6],_,[c0,c1,c2,c3,c4,c5,c6,c7,c8],_=>
  have g0:=hf 0 _ rfl
  have g1:=hf 1 _ rfl
  have g2:=hf 2 _ rfl
  have g3:=hf 3 _ rfl
  have g4:=hf 4 _ rfl
  have g5:=hf 5 _ rfl
  have g6:=hf 6 _ rfl
  simp[Zjj,Zmi,Zrz,Zox,Zql] at g0 g1 g2 g3 g4 g5 g6
  obtain⟨k0,hk0,_,w0⟩:=DataW.trod_int Tryz.underlying3 g0
  obtain⟨k1,hk1,_,w1⟩:=DataW.trod_int Tryz.underlying3 g1
  obtain⟨k2,hk2,_,w2⟩:=DataW.trod_int Tryz.underlying3 g2
  obtain⟨o,ho,ok⟩:=ZgD g3
  obtain⟨vk,lk,hv4,hr4⟩:=ZvU g4
  obtain⟨vr,lr,hv5,hr5⟩:=Zvd g5
  obtain⟨vb,lb,hv6,hr6⟩:=Zve g6
  simp only [List.cons.injEq,and_true] at hk0 hk1 hk2 ho hv4 hv5 hv6
  obtain⟨rfl,rfl,rfl⟩:=ho
  subst hk0 hk1 hk2 hv4 hv5 hv6
  exact⟨⟨k0,k1,k2,o,lk,lr,lb⟩,_,_,_,rfl,hr4,hr5,hr6,ZbO w0,ZbO w1,ZbO w2,ok⟩
theorem Zqm {m:Nat} {p:Nat->SOp->Prop} (h:∀ i,i<m->∃ o,p i o):∃ L:List SOp,L.length=m∧∀ i x,L[i]?=some x->p i x:=by
 induction m with
 | zero=>exact⟨[],rfl,fun i x hx=>by simp at hx⟩
 | succ m ih=>
  obtain⟨L,hL,hp⟩:=ih fun i hi=>h i (by omega)
  obtain⟨o,ho⟩:=h m (by omega)
  refine⟨L++[o],by simp[hL],fun i x hx=>?_⟩
  rw[List.getElem?_append] at hx
  by_cases e:i<L.length
  ·rw[if_pos e] at hx
   exact hp i x hx
  ·rw[if_neg e] at hx
   have:i-L.length=0:=by
    have:=(List.getElem?_eq_some_iff.1 hx).1
    simp at this
    omega
   rw[this] at hx
   simp only [List.getElem?_cons_zero,Option.some.injEq] at hx
   have hi:i=m:=by omega
   rw[<-hx,hi]
   exact ho
theorem Zvf {H:Type} {enc:TypeId × Value->H} {w:World} {base fuel:Nat} {held:Bool} {cs:List Value} {x:DataW H × List MemPlace} (h:DataW.trod enc Tryz.prog w base (fun _=>true) held fuel 22 cs=some x):∃ v l,cs=[v]∧RdS w v l:=by
 rcases Go.Deep.open_slice Tryz.underlying22 h with ⟨hcs,_⟩ | ⟨a,len,cap,m,n,D,Pl,rfl,hb,hl,hm,hmm,_,hx⟩
 ·exact⟨_,[],hcs,none,0,rfl,Nat.le_refl _,Nat.zero_le _,fun _=>rfl,(fun j x h=>by simp at h)⟩
 ·have hmc:m=cap:=by simpa using hmm
  subst hmc
  by_cases hz:len=0
  ·subst hz
   exact⟨_,[],rfl,some a,m,rfl,Nat.zero_le _,hm,(fun e=>by cases e),(fun j x h=>by simp at h)⟩
  obtain⟨b,off,spot⟩:=a
  have hspot:spot=none:=by
   obtain⟨cs',h1,h2⟩:=hx 0 (by omega)
   rw[Zkl] at h1
   obtain⟨_,hlen,hcell⟩:=World.cells?_some h1
   obtain⟨o,vk,vr,vb,hcs,_⟩:=ZfG h2
   subst hcs
   have e0:=hcell 0 (by omega)
   rw[Go.Deep.add_add] at e0
   simpa[Addr.add] using World.cell?_spot e0
  subst hspot
  have each:∀ i,i<len->∃ o,∃ b' off' vk vr vb,some (⟨b,off,none⟩:Addr)=some (⟨b',off',none⟩:Addr)∧Zqk w b' (off'+i*9) o vk vr vb:=by
   intro i hi
   obtain⟨cs',h1,h2⟩:=hx i (by omega)
   rw[Zkl] at h1
   obtain⟨_,hlen,hcell⟩:=World.cells?_some h1
   obtain⟨o,vk,vr,vb,hcs,hr4,hr5,hr6,i0,i1,i2,io⟩:=ZfG h2
   subst hcs
   have e0:=hcell 0 (by omega)
   have e1:=hcell 1 (by omega)
   have e2:=hcell 2 (by omega)
   have e3:=hcell 3 (by omega)
   have e4:=hcell 4 (by omega)
   have e5:=hcell 5 (by omega)
   have e6:=hcell 6 (by omega)
   have e7:=hcell 7 (by omega)
   have e8:=hcell 8 (by omega)
   rw[Go.Deep.add_add] at e0 e1 e2 e3 e4 e5 e6 e7 e8
   rw[Addr.add_lit] at e0 e1 e2 e3 e4 e5 e6 e7 e8
   exact⟨o,b,off,vk,vr,vb,rfl,by simpa using e0,by simpa[Nat.add_assoc] using e1,by simpa[Nat.add_assoc] using e2,by simpa[Nat.add_assoc] using e3,by simpa[Nat.add_assoc] using e4,by simpa[Nat.add_assoc] using e5,by simpa[Nat.add_assoc] using e6,by simpa[Nat.add_assoc] using e7,by simpa[Nat.add_assoc] using e8,hr4,hr5,hr6,i0,i1,i2,io⟩
  obtain⟨L,hL,hp⟩:=Zqm each
  exact⟨_,L,rfl,some ⟨b,off,none⟩,m,by rw[hL],by omega,hm,(fun e=>by cases e),hp⟩
def FewS (l:List SOp):Prop:=l.length<=60∧∀ (j:Nat) x,l[j]?=some x->x.recs.length<=20∧x.b.length<=300∧x.keep.length<=100
set_option maxHeartbeats 2000000 in
theorem ZwJ (v:Value) (l:List SOp) (w:World) (h:RdS w v l):
 Calls Tryz.prog 8 #[v] w fun e w'=>∃ F:Bool,e=.returned (.bool F)∧(F=true->FewS l)∧w'=w:=by
 have H:=ZZ h
 obtain⟨ao,cap,rfl,-⟩:=h
 by_cases hl:l.length<=60
 case neg=>
  have hl':decide ((l.length:Int)>60)=true:=decide_eq_true (by omega)
  go_enter Tryz.func8,Tryz.ntmps8
  go_wp2
  go_ret
  exact⟨false,rfl,(fun e=>by cases e),rfl⟩
 go_enter Tryz.func8,Tryz.ntmps8
 go_wp2
 go_loopw[3] (fun vi wr=>∃ k:Nat,vi=.int .i64 (k:Int)∧k<=l.length∧wr=w∧Hid (∀ (j:Nat) x,j<k->l[j]?=some x->x.recs.length<=20∧x.b.length<=300∧x.keep.length<=100)) (fun vi _=>l.length-(intOf vi).toNat)
 case atStart=>exact⟨0,rfl,Nat.zero_le _,rfl,ZZ (fun j x hj=>absurd hj (Nat.not_lt_zero _))⟩
 case round=>
  obtain⟨k,rfl,hkl,rfl,HP⟩:=hrel
  by_cases hlt:k<l.length
  ·obtain⟨x,b,off,ka,kc,ra,rc,ba,bc,hx,hao,ho⟩:=H.out.at hlt
   have HX:=ZZ hx
   have c6:=ho.c6
   have c7:=ho.c7
   have c8:=ho.c8
   subst hao
   obtain⟨n1,hn1⟩:∃ n,n=x.recs.length:=⟨_,rfl⟩
   obtain⟨n2,hn2⟩:∃ n,n=x.b.length:=⟨_,rfl⟩
   obtain⟨n3,hn3⟩:∃ n,n=x.keep.length:=⟨_,rfl⟩
   rw[<-hn1] at c7
   rw[<-hn2] at c8
   rw[<-hn3] at c6
   have HN:=ZZ (And.intro hn1 (And.intro hn2 hn3))
   clear hx ho hn1 hn2 hn3
   by_cases h1:n1<=20
   ·by_cases h2:n2<=300
    ·by_cases h3:n3<=100
     ·go_wp2
      go_roundw
      case rel=>
       refine⟨k+1,by go_num,by omega,by first | trivial | rfl,ZZ (fun j y hj hy=>?_)⟩
       by_cases e:j=k
       ·rw[e,HX.out] at hy
        obtain rfl:=Option.some.inj hy
        exact⟨by rw[<-HN.out.1];exact h1,by rw[<-HN.out.2.1];exact h2,by rw[<-HN.out.2.2];exact h3⟩
       ·exact HP.out j y (by omega) hy
      case measure=>simp[intOf];omega
     ·have h3':decide ((n3:Int)>100)=true:=decide_eq_true (by omega)
      go_wp2
      go_ret
      exact⟨false,rfl,(fun e=>by cases e),rfl⟩
    ·have h2':decide ((n2:Int)>300)=true:=decide_eq_true (by omega)
     go_wp2
     go_ret
     exact⟨false,rfl,(fun e=>by cases e),rfl⟩
   ·have h1':decide ((n1:Int)>20)=true:=decide_eq_true (by omega)
    go_wp2
    go_ret
    exact⟨false,rfl,(fun e=>by cases e),rfl⟩
  ·go_wp2
   go_ret
   exact⟨true,rfl,fun _=>⟨hl,fun j x hx=>HP.out j x (by have:=(List.getElem?_eq_some_iff.1 hx).1;omega) hx⟩,rfl⟩
end Go.Proofs.YtnahjngbneicaaaGreatDoor
