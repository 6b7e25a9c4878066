import Derived.Test.YtnahjngbneicaaaGreatDoorPack5
namespace Go.Proofs.YtnahjngbneicaaaGreatDoor
open _root_.Go.Proofs.Tryz
open List (length_append)
set_option maxHeartbeats 4000000
set_option maxRecDepth 100000
open Go.RowKit
variable {l:List Int} {a key least n p:Int} {w w':World} {B B' C b o:Nat} {cs:Array Value} {t:List Ent} {v:Value} {r:Rec}
abbrev zap:=@Go.bodyPost_ret
abbrev zce:=@List.length_drop
abbrev zco:=@Int.tmod_eq_emod_of_nonneg
abbrev zdo:=@of_decide_eq_false
abbrev zd7:=@Bool.decide_and
abbrev zge:=@List.size_toArray
abbrev zgj:=@Go.Lib.run_append_grow_zeros
abbrev zgo:=@List.map_nil
theorem Zno (g cap:Nat) (l:List Ent) (B:Nat) (w:World) (ho:Xn w B (.slice (some ⟨g,0,none⟩) l.length cap) l) (hB:B<=w.heap.size) (i:Nat) (hi:i<l.length) (ap:cap<l.length+1) (an:l.length<=100000) (e:Ent) (I:Int) (hI:I=(i:Nat)) (N:Nat) (hN:N=w.heap.size):
 Calls prog 88 #[.slice (some ⟨g,0,none⟩) l.length cap,.int .i64 I,.slice (some ⟨N,0,none⟩) 1 1] (w.alloc (.cells (Gq e) 85)) fun x w'=>Zzs w B (l.take i++(e::l.drop i)) x w':=by
 subst hI;rcases ho.row with ⟨f,-⟩ | ⟨g',aN,cur,f,al,X,hg,hn,hm,hs,Q⟩
 ·cases f
 injection f with f _ h3
 injection f with f
 injection f with f
 subst f h3;clear ho;obtain⟨i0,ai,V,ac,t⟩:=zbo ZgV;have U:(w.alloc (.cells (Gq e) 85)).heap[N]?=some (.cells (Gq e) 85 (0,0)):=by rw[hN];exact zaf w _
 have F:(w.alloc (.cells (Gq e) 85)).heap[g]?=some (.cells cur 85 (0,0)):=(zao _ _ _ X).trans hg;have Y:Hid (Below B w (w.alloc (.cells (Gq e) 85))):=(zac _ _).alloc hB _;have am:(w.alloc (.cells (Gq e) 85)).heap.size=w.heap.size+1:=by simp
 generalize w.alloc (.cells (Gq e) 85)=W at *;have S:(Qg [e]).length=3:=Xh [e];have J:(Qg (l.drop i)).length=(l.length-i)*3:=by rw[Xh,zce]
 have p:((Qg l).take (i*3)).length=i*3:=by rw[zbt,Xh];omega
 have af:(Builtin.firstCells i0.size i (.slice (some ⟨g,0,none⟩) i cap)).run prog W.drew=.ok ((Qg l).take (i*3)).toArray W.drew:=by
  rw[ac]
  exact run_firstCells_some W.drew 3 i ⟨g,0,none⟩ i cap ((Qg l).take (i*3)) p (fun j v a=>by
   have D:j<i*3:=by rw[<-p];exact(zbm.1 a).1
   rw[zb3 D] at a;rw[zbg,za5,zam W.drew g j _ _ _ F,Q j (by omega)]
   exact a)
 have E:i+(l.length+1-i)=l.length+1:=by omega
 have ak:(l.length:Int)+1-(i:Int)=((l.length+1-i:Nat):Int):=by omega
 obtain⟨G,z⟩:=zgy (grownCap W (l.length+1) cap 85);obtain⟨b,y⟩:=zgy (((Qg l).take (i*3)).toArray++Builtin.zeroCells (Value.agg #[.int .i64 0,.int .i64 0,.int .i64 0]).cells (l.length+1-i)++Builtin.zeroCells (Value.agg #[.int .i64 0,.int .i64 0,.int .i64 0]).cells (G-(l.length+1)))
 have aq:∀ ty,(Builtin.append_ #[39,3] ty #[.slice (some ⟨g,0,none⟩) i cap,.int .i64 ((l.length:Int)+1-(i:Int))]).run prog W=.ok (.slice (some ⟨W.heap.size,0,none⟩) (l.length+1) G) ((W.alloc (.cells b 85)).drew):=fun ty=>by
  have h:=zgj W 39 3 ty 85 i0 _ .i64 .i64 underlying39 underlying3 ai V (some ⟨g,0,none⟩) i cap _ af (l.length+1-i) (by omega) (by omega) (by omega) (by omega) (by rw[t];omega) (by rw[t,E];exact growslice_fits_wide ap (by omega))
  rw[E,<-z,<-y,<-ak] at h;exact h
 have ar:l.length+1<=G:=by rw[z];exact zf7 W _ _ _
 have Z:G<=maxLen:=by rw[z];exact zen W (l.length+1) cap 85 (by unfold maxLen;omega)
 have M:∀ n,(Builtin.zeroCells (Value.agg #[.int .i64 0,.int .i64 0,.int .i64 0]).cells n).size=n*3:=fun n=>by
  rw[<-Array.length_toList,Zko,Gk]
 have ab:b.size=G*3:=by
  rw[y,Array.size_append,Array.size_append,M,M,zge,p];omega
 have ad:∀ j,j<i*3->b[j]?=(Qg l)[j]?:=fun j a=>by
  rw[y,Array.append_assoc,zdk (by rw[zge,p];exact a),zd6,zb3 a]
 have q:(W.alloc (.cells b 85)).drew.heap[W.heap.size]?=some (.cells b 85 (0,0)):=zaf W _;have H:(W.alloc (.cells b 85)).drew.heap[N]?=some (.cells (Gq e) 85 (0,0)):=(zao W _ N (by omega)).trans U
 have K:(W.alloc (.cells b 85)).drew.heap[g]?=some (.cells cur 85 (0,0)):=(zao W _ g (by omega)).trans F
 have R:Hid (Below B w (W.alloc (.cells b 85)).drew):=ZZ (Zib (Y.o.alloc (by omega) _))
 have A:B<=W.heap.size:=by omega
 have ao:N≠W.heap.size:=by omega
 have ag:g≠W.heap.size:=by omega
 obtain⟨d,T⟩:=zgy ((W.alloc (.cells b 85)).drew);rw[<-T] at q H K R
 have aa:∀ ty m,(Builtin.copy_ #[39,39] ty #[.slice (some ⟨W.heap.size,i*3,none⟩) (l.length+1-i) m,.slice (some ⟨N,0,none⟩) 1 1]).run prog d=.ok (goInt (Nat.min 1 (l.length+1-i))) (d.setCells W.heap.size (i*3) (Qg [e])):=fun ty m=>
  ZaO d _ _ ty 85 3 W.heap.size (i*3) (l.length+1-i) m ⟨N,0,none⟩ 1 1 (Qg [e]) underlying39 ZgW (by rw[S];simp only [zgu];split <;> omega)
   (fun j v a=>by
    rw[zbg,za5,zam d N _ _ _ _ H]
    have:(Qg [e])[j]?=(Gq e)[j]?:=by
     have D:j<3:=by rw[<-S];exact(zbm.1 a).1
     have:=Zv [e] 0 j (by simp) D
     rwa [zc3,za5] at this
    rw[<-this]
    exact a)
   (fun j a=>by
    rw[zam d _ _ _ _ _ q,zds (by omega)]
    rfl) (fun j a=>za2 d _ _ _ _ q) (Zac _)
 obtain⟨c,u⟩:=zgy ((d.setCells W.heap.size (i*3) (Qg [e])).drew);have C:c.heap[W.heap.size]?=some (.cells (Zfm b (i*3) (Qg [e])) 85 (0,0)):=by rw[u];exact Xy _ _ _ _ d b q
 have ae:c.heap[g]?=some (.cells cur 85 (0,0)):=by
  rw[u];exact(Zar W.heap.size _ _ d g ag).trans K
 have aj:Hid (Below B w c):=ZZ (by rw[u];exact Zib (Gy A _ _ _ R.o))
 have L:∀ ty m sc,(Builtin.copy_ #[39,39] ty #[.slice (some ⟨W.heap.size,(i+1)*3,none⟩) (l.length-i) m,.slice (some ⟨g,i*3,none⟩) (l.length-i) sc]).run prog c=.ok (goInt (Nat.min (l.length-i) (l.length-i))) (c.setCells W.heap.size ((i+1)*3) (Qg (l.drop i))):=fun ty m sc=>
  ZaO c _ _ ty 85 3 W.heap.size ((i+1)*3) (l.length-i) m ⟨g,i*3,none⟩ (l.length-i) sc (Qg (l.drop i)) underlying39 ZgW (by rw[J];simp only [zgu];split <;> omega)
   (fun j v a=>by
    have D:j<(l.length-i)*3:=by rw[<-J];exact(zbm.1 a).1
    rw[zbg,zam c g _ _ _ _ ae,Q _ (by omega)]
    rw[Zcg,zem] at a
    exact a)
   (fun j a=>by
    rw[zam c _ _ _ _ _ C,zds (by rw[Xr];omega)]
    rfl) (fun j a=>za2 c _ _ _ _ C) (Zac _)
 have P:Hid (Zzs w B (l.take i++(e::l.drop i)) (.returned (.slice (some ⟨W.heap.size,0,none⟩) (l.length+1) G)) (c.setCells W.heap.size ((i+1)*3) (Qg (l.drop i)))):=ZZ (by
  refine⟨_,rfl,Xn.ofRow (ZaZ l i (by omega) e).symm A (Xy _ _ _ _ c _ C) (by rw[ZaZ l i (by omega) e];exact ar) Z (by rw[Xr,Xr];exact ab) (fun j a=>?_),?_⟩
  ·rw[ZaZ l i (by omega) e] at a
   refine Zkr l i (by omega) e (fun j=>(Zfm (Zfm b (i*3) (Qg [e])) ((i+1)*3) (Qg (l.drop i)))[j]?) (fun k O=>?_) (fun k O=>?_) (fun k O=>?_) j a
   ·show(Zfm (Zfm b (i*3) (Qg [e])) ((i+1)*3) (Qg (l.drop i)))[k]?=_
    rw[Yq _ _ _ _ (by rw[Xr];omega),zaa (by omega),Yq _ _ _ _ (by omega),zaa (by omega)]
    exact ad k O
   ·show(Zfm (Zfm b (i*3) (Qg [e])) ((i+1)*3) (Qg (l.drop i)))[i*3+k]?=_
    rw[Yq _ _ _ _ (by rw[Xr];omega),zaa (by omega),Yq _ _ _ _ (by omega),zab (by omega),zcf]
   ·show(Zfm (Zfm b (i*3) (Qg [e])) ((i+1)*3) (Qg (l.drop i)))[(i+1)*3+k]?=_
    rw[Yq _ _ _ _ (by rw[Xr];omega),zab (by omega),zcf]
  ·exact Gy A _ _ _ aj.o)
 rw[u] at P L;rw[T] at P L aa;clear u T ae C q H K ab ad M aj R af y Q hs hg F U hm Y J S p t ac V ai z ao ag Z ak E am hN A;have aI:prog.follows .mixedOrders=true:=by kernel_rfl
 have t:¬ ((i:Int)=(l.length:Int)):=by omega
 have aJ:((i:Int) == (l.length:Int))=false:=zad.2 t;have aE:IntKind.i64.wrap ((i:Int)+1)=(i:Int)+1:=by rw[zbe];omega
 have av:IntKind.i64.wrap ((l.length:Int)+1)=(l.length:Int)+1:=by rw[zbe];omega
 have aM:(0:Int)<=(i:Int)+1:=by omega
 have aH:i<=l.length:=by omega
 have au:(i:Int)<=(l.length:Int):=by omega
 have aD:(i:Int)<=(cap:Int):=by omega
 have aL:i<=cap:=by omega
 have az:((i:Int)+1).toNat=i+1:=by omega
 have p:((l.length:Int)+1).toNat=l.length+1:=by omega
 have aG:¬ (G=i+1):=by omega
 have ay:(i:Int)<=(l.length:Int)+1:=by omega
 have aK:¬ (cap=i):=by omega
 have aA:¬ (G=i):=by omega
 have aF:(cap:Int)<(l.length:Int)+1:=by omega
 have aB:(i:Int)+1<=(l.length:Int)+1:=by omega
 have aO:(l.length:Int)<=100000:=by omega
 have aC:IntKind.i64.wrap ((l.length:Int)+1-(i:Int))=(l.length:Int)+1-(i:Int):=by rw[zbe];omega
 clear hB al X an;generalize Qg (l.drop i)=aw at *;generalize Qg [e]=ax at *;generalize l.take i++(e::l.drop i)=LL at *
 go_enter func88,ntmps88
 go_wp2_with(first
  | (at_builtin;refine Lib.wpList_append_run _ rfl _ _ _ _ rfl _ _ rfl rfl _ _ (aq _) ?_)
  | (at_builtin;refine wpList_copy_runI _ rfl _ _ 39 39 rfl _ _ rfl rfl (aa _ _) ?_))
 go_region_law_o (refine step_copy_runI rfl _ _ 39 39 rfl _ _ (by simp[Act.eval,Act.put]) (by simp[Act.eval,Act.put]) (L _ _ _) ?_)
 go_wp2;go_ret;exact P.o
theorem Zpk (v:Value) (l:List Ent) (B:Nat) (w:World) (a:Xn w B v l) (b:B<=w.heap.size) (f:l.length<=100000) (i:Nat) (k:i<=l.length) (e:Ent) (j:Zlx e) (I:Int) (d:I=(i:Nat)) (N:Nat) (c:N=w.heap.size):
 Calls prog 88 #[v,.int .i64 I,.slice (some ⟨N,0,none⟩) 1 1] (w.alloc (.cells (Gq e) 85)) fun x w'=>Zzs w B (l.take i++(e::l.drop i)) x w':=by
 by_cases h:i=l.length
 ·subst h
  exact Zpj v l B w a b f e j I d N c
 ·rcases a.row with ⟨-,rfl⟩ | ⟨g,cap,cur,rfl,-⟩
  ·exact absurd (by simpa using k) (by simpa using h)
  ·by_cases m:l.length+1<=cap
   ·exact Znn g cap l B w a b i (by omega) m e I d N c
   ·exact Zno g cap l B w a b i (by omega) (by omega) f e I d N c
theorem J0 {l:List UInt8} (b:0<=n) (a:n<4611686018427387904):Zsd l n=l++Lib.uvarint n.toNat:=zab ⟨b,a⟩
theorem Zwv (h:I64 n):(Lib.uvarint (Lib.zigzag n)).length<=10:=zay (Zbd h)
theorem Gh {n:Nat} (h:n<4611686018427387904):(Lib.uvarint n).length<=10:=zay (by omega)
theorem Zpl (w:World) (X Y:Obj):((w.alloc X).alloc Y).heap[w.heap.size+1]?=some Y:=by
 have h:=zaf (w.alloc X) Y;have e:(w.alloc X).heap.size=w.heap.size+1:=by simp
 rwa [e] at h
def ZuM (w:World) (l:List UInt8) (e:Ending) (w':World):Prop:=
 e=.returned (.tuple #[opV (Xc l).1,.int .i64 ((Xc l).2:Nat)])∧Below w.heap.size w w'
def Zso (r:Rec):Value:=.agg #[.int .i64 r.idx,.int .i64 r.proc,.int .i64 r.seq,.int .i64 r.op.code,.int .i64 r.op.a,.int .i64 r.op.b,.int .i64 r.resp]
def Ja (r:Rec):Array Value:=#[.int .i64 r.idx,.int .i64 r.proc,.int .i64 r.seq,.int .i64 r.op.code,.int .i64 r.op.a,.int .i64 r.op.b,.int .i64 r.resp]
def Zcx (r:Rec):Prop:=I64 r.idx∧I64 r.proc∧I64 r.seq∧Zyw r.op∧I64 r.resp
def Br (w:World) (b:Nat) (cs:Array Value):Prop:=w.heap[b]?=some (.cells cs 62 (0,0))
theorem Br.lt (h:Br w b cs):b<w.heap.size:=(zan.1 h).1
theorem Br.below (h:Br w b cs) (a:Below B w w') (c:w.heap.size<=B):Br w' b cs:=(a.block b (by have:=h.lt;omega)).trans h
theorem Br.cell (h:Br w b cs) (j:Nat):w.cell? ⟨b,j,none⟩=cs[j]?∧w.frozen? ⟨b,j,none⟩=false:=⟨zam w b j _ _ _ h,za2 w b j _ _ h⟩
theorem ZuN (r:Rec) (R:Nat) (e:Ent) (W:World) (f:Br W R (Ja r)):
 Calls prog 84 #[Zsj e,.pointer (some ⟨R,0,none⟩)] W fun x w'=>x=.returned (.bool (decide (e.proc=r.proc)))∧Below W.heap.size W w':=by
 have d:Hid (∀ X,Below W.heap.size W (W.alloc X)):=fun X=>(zac _ _).alloc zL X
 have j:R<W.heap.size:=(zan.1 f).1
 have g:Hid (∀ X,(W.alloc X).cell? ⟨R,1,none⟩=some (.int .i64 r.proc)):=ZZ (fun X=>by
  rw[(d.o X).cell (p:=⟨R,1,none⟩) j]
  exact zam W R 1 _ _ _ f)
 obtain⟨b,k,m⟩:=e;unfold Zsj;simp only;have l:=g.o;generalize r.proc=c at *;clear f g;by_cases h:b=c
 ·have a:Hid (decide (b=c)=true):=zah h
  have i:(b == c)=true:=za8.2 h;rw[a.o];clear a h
  go_enter func84,ntmps84
  go_wp2;go_ret;exact⟨rfl,d.o _⟩
 ·have a:Hid (decide (b=c)=false):=zae h
  have i:(b == c)=false:=zad.2 h;rw[a.o];clear a h
  go_enter func84,ntmps84
  go_wp2;go_ret;exact⟨rfl,d.o _⟩
theorem ZuO (r:Rec) (R:Nat) (e:Ent) (W:World) (b:Br W R (Ja r)):
 Calls prog 85 #[Zsj e,.pointer (some ⟨R,0,none⟩)] W fun x w'=>x=.returned (.bool (decide (r.proc<e.proc)))∧Below W.heap.size W w':=by
 have f:Hid (∀ X,Below W.heap.size W (W.alloc X)):=fun X=>(zac _ _).alloc zL X
 have i:R<W.heap.size:=(zan.1 b).1
 have g:Hid (∀ X,(W.alloc X).cell? ⟨R,1,none⟩=some (.int .i64 r.proc)):=ZZ (fun X=>by
  rw[(f.o X).cell (p:=⟨R,1,none⟩) i]
  exact zam W R 1 _ _ _ b)
 obtain⟨d,j,l⟩:=e;unfold Zsj;simp only;have k:=g.o;generalize r.proc=c at *;clear b g;by_cases h:c<d
 ·have a:Hid (decide (c<d)=true):=zah h
  rw[a.o];clear a
  go_enter func85,ntmps85
  go_wp2;go_ret;exact⟨rfl,f.o _⟩
 ·have a:Hid (decide (c<d)=false):=zae h
  rw[a.o];clear a
  go_enter func85,ntmps85
  go_wp2;go_ret;exact⟨rfl,f.o _⟩
theorem Zsp {k:Int} (h:Zyj (fun e=>decide (p<e.proc)) t k):(k<0∧G8 p t=t.length)∨(0<=k∧k=(G8 p t:Nat)):=by
 rcases h with ⟨rfl,h⟩ | ⟨i,rfl,d,b,c⟩
 ·exact .inl ⟨by omega,Zkn (fun j a=>zdo (h j a))⟩
 ·refine .inr ⟨by omega,?_⟩
  rw[Zni d (fun j a=>zdo (b j a)) (zcv c)]
theorem Zxc {P:Ent->Prop} (h:∀ e ∈ t,P e):∀ e ∈ Zpd p t,P e:=fun e a=>h e (zax.1 a).1
theorem ZuP (v:Value) (t:List Ent) (r:Rec) (w:World) (u:RdE w v t) (i:Zcx r) (q:t.length<=2000):
 Calls prog 43 #[v,Zso r] w fun e w'=>∃ v',e=.returned v'∧Xn w' w.heap.size v' (ZcF t ⟨r.proc,r.seq,r.resp⟩)∧Below w.heap.size w w':=by
 have ab:∀ e ∈ t,Zlx e:=u.choose_spec.choose_spec.2.2.2.2.1;have B:=ZZ ab;have HX:Hid (Br (w.alloc (.cells (Ja r) 62)) w.heap.size (Ja r)):=ZZ (zaf w _);have T:Hid (Below w.heap.size w (w.alloc (.cells (Ja r) 62))):=ZZ ((zac _ _).alloc zL _);have an:(w.alloc (.cells (Ja r) 62)).heap.size=w.heap.size+1:=by simp
 have P:=ZZ (u.below T.o zL);have ae:Hid (Zlx ⟨r.proc,r.seq,r.resp⟩):=ZZ ⟨i.2.1,i.2.2.1,i.2.2.2.2⟩;have Z:∀ args W,(callFunc 84 args).run prog W=.ok (.enter 84 args) W:=enters_of func84 (by kernel_rfl) rfl
 have S:∀ args W,(callFunc 85 args).run prog W=.ok (.enter 85 args) W:=enters_of func85 (by kernel_rfl) rfl
 have am:=ZZ Z;have ag:=ZZ S;have O:Hid (ZcF t ⟨r.proc,r.seq,r.resp⟩=(Zpd r.proc t).take (G8 r.proc (Zpd r.proc t))++(⟨r.proc,r.seq,r.resp⟩::(Zpd r.proc t).drop (G8 r.proc (Zpd r.proc t)))):=ZZ (Znh ⟨r.proc,r.seq,r.resp⟩ t);have R:Hid (t.filter (fun e=>!decide (e.proc=r.proc))=Zpd r.proc t):=ZZ (by unfold Zpd;simp)
 have ak:=ZZ (fun W e h=>ZuN r w.heap.size e W h)
 have aj:=ZZ (fun W e h=>ZuO r w.heap.size e W h)
 have n:Hid (∀ W,Below (w.heap.size+1) (w.alloc (.cells (Ja r) 62)) W->Br W w.heap.size (Ja r)):=ZZ (fun W h=>(h.block w.heap.size (by omega)).trans HX.o)
 have aq:∀ (fn:Fn) (first cap:Array Value) (w:World),(Instr.makeFunc fn first cap).run prog w=.ok (.func fn first cap) w:=fun _ _ _ _=>rfl
 have ai:=ZZ (fun W v l h h2=>ZfJ v l W h h2)
 clear Z S ab i u;unfold Zso Ja at *
 go_enter func43,ntmps43
 go_wp2_with fail
 refine(ai.o _ _ t P.o (by omega)).mono ?_
 rintro x W1 ⟨v1,rfl,E,M⟩;rw[an] at E M;have V:=ZZ E;have m:=ZZ M;clear E M;have aa:=ZZ (Zif 84 w.heap.size (fun e=>decide (e.proc=r.proc)) v1 t (w.heap.size+1) W1 V.o B.o (by have:=m.o.size;omega) (by omega) am.o (fun W e h=>ak.o W e (n.o W (m.o.trans h))))
 go_wp2_with fail
 refine aa.o.mono ?_;rintro x W2 ⟨v2,rfl,K,ac⟩;rw[R.o] at K;have d:=ZZ K;have b:=ZZ (m.o.trans ac);have Q:=ZZ (Zxc (p:=r.proc) B.o);have D:(Zpd r.proc t).length<=2000:=zas (Zxa _ _) q;clear K ac aa V m P B R;obtain⟨a,U⟩:=zgy (Zpd r.proc t);rw[<-U] at d Q O D;clear U;have Y:=ZZ (Zdt 85 w.heap.size (fun e=>decide (r.proc<e.proc)) v2 a W2 (d.o.rd Q.o) ag.o (fun W e h=>aj.o W e (n.o W (b.o.trans (h.mono (by have:=b.o.size;omega))))))
 obtain⟨va,vc,al⟩:=d.o.shape;subst al
 go_wp2_with fail
 refine Y.o.mono ?_;rintro x A ⟨k,rfl,L,C⟩;have af:=ZZ (d.o.below C zL);have G:=ZZ (b.o.trans (C.mono (by have:=b.o.size;omega)))
 have H:=ZZ (n.o A G.o);have X:=ZZ (T.o.trans (G.o.mono (by omega)))
 have ad:w.heap.size+1<=A.heap.size:=by have:=G.o.size;omega
 clear C Y d b;obtain⟨q1,f1⟩:=H.o.cell 1;obtain⟨q2,f2⟩:=H.o.cell 2;obtain⟨q4,f4⟩:=H.o.cell 6;have F:=Zng r.proc a;have j:=ZZ (fun I hI N hN=>Zpk (.slice va a.length vc) a (w.heap.size+1) A af.o ad (by omega) (G8 r.proc a) F ⟨r.proc,r.seq,r.resp⟩ ae.o I hI N hN)
 rw[<-O.o] at j;unfold Gq at j;have ap:(a.length:Int)<=2000:=by omega
 rcases Zsp L with ⟨hk,c⟩ | ⟨hk,c⟩
 ·clear L
  have y:=ZZ c;clear c F D q
  go_wp2_with fail
  refine(j.o _ (by rw[y.o]) _ rfl).mono ?_
  rintro x W4 ⟨v4,rfl,f,g⟩;have z:=ZZ (f.mono (B':=w.heap.size) (by omega))
  have J:=ZZ (X.o.trans (g.mono (by omega)))
  clear f g;go_wp2;go_ret;exact⟨_,rfl,z.o,J.o⟩
 ·clear L
  have ao:¬ k<0:=by omega
  have y:=ZZ c;clear c F D q
  go_wp2_with fail
  refine(j.o _ y.o _ rfl).mono ?_;rintro x W4 ⟨v4,rfl,f,g⟩;have z:=ZZ (f.mono (B':=w.heap.size) (by omega))
  have J:=ZZ (X.o.trans (g.mono (by omega)))
  clear f g;go_wp2;go_ret;exact⟨_,rfl,z.o,J.o⟩
def Bn (w:World) (b:Nat) (cs:Array Value):Prop:=w.heap[b]?=some (.cells cs 41 (0,0))
theorem Bn.lt (h:Bn w b cs):b<w.heap.size:=(zan.1 h).1
theorem Bn.below (h:Bn w b cs) (a:Below B w w') (c:w.heap.size<=B):Bn w' b cs:=(a.block b (by have:=h.lt;omega)).trans h
theorem Bn.cell (h:Bn w b cs) (j:Nat):w.cell? ⟨b,j,none⟩=cs[j]?∧w.frozen? ⟨b,j,none⟩=false:=⟨zam w b j _ _ _ h,za2 w b j _ _ h⟩
theorem ZdR (w:World) (X Y:Obj):((w.alloc X).alloc Y).heap[w.heap.size+1]?=some Y:=by
 have h:=zaf (w.alloc X) Y;have e:(w.alloc X).heap.size=w.heap.size+1:=by simp
 rw[e] at h;exact h
def Zpm (a b:Q0):Prop:=Zmw a.st b.st∧a.idx=b.idx∧a.tab=b.tab
instance (a b:Q0):Decidable (Zpm a b):=by unfold Zpm;infer_instance
theorem Zks {l:List Ent} {q:Nat} (h:q<l.length):l.take (q+1)=l.take q++[l.getD q Xi]:=by
 rw[zb4];simp[List.getD,h]
theorem RdE.but {l:List Ent} (h:RdE w v l) {R T:Nat} (p:But R T w w') (hn:l=[]∨∀ b,v.ownBlock=some b->b≠R∧b≠T):RdE w' v l:=by
 obtain⟨ao,cap,rfl,m,g,n,i,a⟩:=h;refine⟨ao,cap,rfl,m,g,n,i,?_⟩;rcases a with a | ⟨b,t,d,k⟩
 ·exact .inl a
 ·by_cases e:l=[]
  ·exact .inl e
  ·refine .inr ⟨b,t,d,fun j q=>?_⟩
   have f:=k j q;rcases hn with hn | hn
   ·exact absurd hn e
   ·have c:=hn b (by rw[d];rfl)
    exact f.keep (p.block b f.lt c.1 c.2)
theorem RdE.block {l:List Ent} (h:RdE w v l):l=[]∨∀ b,v.ownBlock=some b->b<w.heap.size:=by
 obtain⟨ao,cap,rfl,k,i,m,j,a⟩:=h;rcases a with a | ⟨b,n,rfl,f⟩
 ·exact .inl a
 ·by_cases d:l=[]
  ·exact .inl d
  ·refine .inr fun c g=>?_
   have e:b=c:=by simpa[Value.ownBlock] using g
   rw[<-e];exact(f 0 (zeh.2 d)).lt
theorem RdI.old (h:RdI w v l):l=[]∨∀ b,v.ownBlock=some b->b<w.heap.size:=by
 rcases h.block with h | ⟨_,b,d,e⟩
 ·exact .inl h
 ·refine .inr fun c a=>?_
  rw[d] at a
  injection a with a
  omega
theorem Xn.fresh {l:List Ent} (h:Xn w B v l):∀ b,v.ownBlock=some b->B<=b:=fun b a=>(zar h b a).1
def Zch (w:World) (r:Q0 × Int) (e:Ending) (w':World):Prop:=
 ∃ vl vt,e=.returned (.tuple #[.agg #[.int .i64 r.1.idx,.int .i64 r.1.st.kind,vl,.bool r.1.st.shut,.int .i64 r.1.st.eng,vt],.int .i64 r.2])∧RdI w' vl r.1.st.L∧I64 r.1.st.kind∧I64 r.1.st.eng∧RdE w' vt r.1.tab∧I64 r.1.idx∧(∀ b,vl.ownBlock=some b->w.heap.size<=b)∧(∀ b,vt.ownBlock=some b->w.heap.size<=b)∧Below w.heap.size w w'
theorem Zch.zero (n:Int) (a:Below w.heap.size w w'):Zch w (Yb,n) (.returned (.tuple #[.agg #[.int .i64 0,.int .i64 0,.slice none 0 0,.bool false,.int .i64 0,.slice none 0 0],.int .i64 n])) w':=
 ⟨_,_,rfl,RdI.nil _,(Qo (by decide) (by decide):I64 0),(Qo (by decide) (by decide):I64 0),RdE.nil _,(Qo (by decide) (by decide):I64 0),fun b a=>by simp[Value.ownBlock] at a,fun b a=>by simp[Value.ownBlock] at a,a⟩
theorem SnV.below {s:Q0} (h:SnV w v s) {B:Nat} (a:Below B w w') (b:w.heap.size<=B):SnV w' v s:=by
 obtain⟨d,j,e,k,c,i,g,f⟩:=h;exact⟨d,j,e,k.below a b,c,i,g.below a b,f⟩
def six (w:World) (R:Nat) (x0 x1 x2 x3 x4 x5:Value):World:=(((((w.setCell ⟨R,0,none⟩ x0).setCell ⟨R,1,none⟩ x1).setCell ⟨R,2,none⟩ x2).setCell ⟨R,3,none⟩ x3).setCell ⟨R,4,none⟩ x4).setCell ⟨R,5,none⟩ x5
theorem ZeF {b:World} (h:Below C b w) (R:Nat) (a:C<=R) (i e c d g f:Value):Below C b (six w R i e c d g f):=
 (((((h.setCell a _).setCell a _).setCell a _).setCell a _).setCell a _).setCell a _
theorem Zbf {e:World} (h:Below C e w) (R:Nat) (i:C<=R) (g c a b f d:Value):Below C e ((((((w.setCell ⟨R,0,none⟩ g).setCell ⟨R,1,none⟩ c).setCell ⟨R,2,none⟩ a).setCell ⟨R,3,none⟩ b).setCell ⟨R,4,none⟩ f).setCell ⟨R,5,none⟩ d):=ZeF h R i g c a b f d
theorem ZqQ (w:World) (R:Nat) (f c a b e d:Value):But R R w (six w R f c a b e d):=
 ((((((But.refl R R w).set _ _ (.inl rfl) _).set _ _ (.inl rfl) _).set _ _ (.inl rfl) _).set _ _ (.inl rfl) _).set _ _ (.inl rfl) _).set _ _ (.inl rfl) _
theorem Bn.set (h:Bn w b cs) (j:Nat) (x:Value):Bn (w.setCell ⟨b,j,none⟩ x) b (cs.setIfInBounds j x):=by
 have:=zba w b j _ _ x h;unfold Bn;simpa using this
theorem Bn.other {c:Nat} (h:Bn w b cs) (j:Nat) (x:Value) (a:b≠c):Bn (w.setCell ⟨c,j,none⟩ x) b cs:=(zal _ _ _ _ a).trans h
def ZjI (w:World) (b o:Nat) (r:Rec):Prop:=
 w.cell? ⟨b,o,none⟩=some (.int .i64 r.idx)∧w.cell? ⟨b,o+1,none⟩=some (.int .i64 r.proc)∧w.cell? ⟨b,o+2,none⟩=some (.int .i64 r.seq)∧w.cell? ⟨b,o+3,none⟩=some (.int .i64 r.op.code)∧w.cell? ⟨b,o+4,none⟩=some (.int .i64 r.op.a)∧w.cell? ⟨b,o+5,none⟩=some (.int .i64 r.op.b)∧w.cell? ⟨b,o+6,none⟩=some (.int .i64 r.resp)
theorem ZjI.lt (h:ZjI w b o r):b<w.heap.size:=zau w ⟨b,o,none⟩ h.1
theorem ZjI.keep (h:ZjI w b o r) (c:w'.heap[b]?=w.heap[b]?):ZjI w' b o r:=by
 have d:∀ i,w'.cell? ⟨b,i,none⟩=w.cell? ⟨b,i,none⟩:=fun i=>zb2 (a:=⟨b,i,none⟩) c
 unfold ZjI at h ⊢;simp only [d];exact h
def RdR (w:World) (v:Value) (l:List Rec):Prop:=
 ∃ ao cap,v=.slice ao l.length cap∧l.length<=cap∧cap<=maxLen∧(ao=none->cap=0)∧(∀ r ∈ l,Zcx r)∧
  (l=[]∨∃ b off,ao=some ⟨b,off,none⟩∧∀ j,j<l.length->ZjI w b (off+j*7) (l.getD j Qi))
theorem RdR.nil (w:World):RdR w (.slice none 0 0) []:=⟨none,0,rfl,zat _,zai _,fun _=>rfl,(fun r h=>by simp at h),.inl rfl⟩
theorem RdR.below {l:List Rec} (h:RdR w v l) {B:Nat} (m:Below B w w') (t:w.heap.size<=B):RdR w' v l:=by
 obtain⟨ao,cap,q,k,d,g,e,a⟩:=h;refine⟨ao,cap,q,k,d,g,e,?_⟩;rcases a with a | ⟨b,p,i,f⟩
 ·exact .inl a
 ·refine .inr ⟨b,p,i,fun j n=>?_⟩
  have c:=f j n;exact c.keep (m.block b (by have:=c.lt;omega))
def Qt:List Rec->List Value
 | []=>[]
 | r::t=>(Ja r).toList++Qt t
theorem Zl:∀ l:List Rec,(Qt l).length=l.length*7
 | []=>rfl
 | r::t=>by
  rw[Qt,length_append,Zl t,zb9];simp[Ja];omega
theorem ZaA:∀ a b:List Rec,Qt (a++b)=Qt a++Qt b
 | [],_=>rfl
 | r::t,b=>by rw[zck,Qt,ZaA t b,Qt,zcn]
theorem Zbv:∀ (l:List Rec) (j k:Nat),j<l.length->k<7->(Qt l)[j*7+k]?=(Ja (l.getD j Qi))[k]?
 | r::t,0,k,_,hk=>by
  rw[Qt,zc3,za5,zbb (by simp[Ja];omega)]
  simp[List.getD]
 | r::t,j+1,k,hj,hk=>by
  have e:(j+1)*7+k=(Ja r).toList.length+(j*7+k):=by simp[Ja];omega
  rw[Qt,e,zbp (by omega),zcf,Zbv t j k (by simpa using hj) hk]
  simp[List.getD]
theorem Zbw (l:List Rec):∀ u ∈ Qt l,u.oneCell'=true:=by
 induction l with
 | nil=>intro u a;simp[Qt] at a
 | cons r t b=>
  intro u a;rw[Qt] at a;rcases zaw.1 a with h | h
  ·simp[Ja] at h
   rcases h with rfl | rfl | rfl | rfl | rfl | rfl | rfl <;> rfl
  ·exact b u h
def Xj (w:World) (B:Nat) (v:Value) (l:List Rec):Prop:=w.ownsRow B 62 7 v l.length (Qt l)
theorem Xj.nil (w:World) (B:Nat):Xj w B (.slice none 0 0) []:=zcb w B 62 7
theorem Xj.rd {l:List Rec} (h:Xj w B v l) (c:∀ r ∈ l,Zcx r):RdR w v l:=by
 rcases h.2 with ⟨b,d⟩ | ⟨g,cap,cur,b,x,t,p,i,q,y⟩
 ·exact⟨none,0,by rw[b,d],by omega,zai _,fun _=>rfl,c,.inl (zaj d)⟩
 ·refine⟨some ⟨g,0,none⟩,cap,b,p,i,(fun e=>by cases e),c,.inr ⟨g,0,rfl,fun j n=>?_⟩⟩
  have a:∀ k u,k<7->(Ja (l.getD j Qi))[k]?=some u->w.cell? ⟨g,0+j*7+k,none⟩=some u:=fun k u m f=>by
   have:=zct h (g:=g) (by rw[b];rfl) (j*7+k) u ((Zbv l j k n m).trans f)
   rw[zbg] at this;rw[zbs];exact this
  exact⟨a 0 _ (by decide) rfl,a 1 _ (by decide) rfl,a 2 _ (by decide) rfl,a 3 _ (by decide) rfl,a 4 _ (by decide) rfl,a 5 _ (by decide) rfl,a 6 _ (by decide) rfl⟩
theorem Xj.below {l:List Rec} (h:Xj w B v l) (e:Below B' w w') (i:w.heap.size<=B'):Xj w' B v l:=by
 obtain⟨f,a⟩:=h;refine⟨f,?_⟩;rcases a with a | ⟨g,cap,cur,c,d,b,r⟩
 ·exact .inl a
 ·have j:g<w.heap.size:=(zan.1 b).1
  exact .inr ⟨g,cap,cur,c,d,by rw[e.block g (by omega)];exact b,r⟩
theorem Xj.mono {l:List Rec} (h:Xj w B v l) (e:B'<=B):Xj w B' v l:=by
 obtain⟨b,a⟩:=h;refine⟨b,?_⟩;rcases a with a | ⟨g,cap,cur,c,d,r⟩
 ·exact .inl a
 ·exact .inr ⟨g,cap,cur,c,by omega,r⟩
theorem Xj.shape {l:List Rec} (h:Xj w B v l):∃ ao cap,v=.slice ao l.length cap:=by
 rcases h.2 with ⟨a,b⟩ | ⟨g,cap,cur,a,_⟩
 ·exact⟨none,0,by rw[a,b]⟩
 ·exact⟨_,_,a⟩
theorem Zdg:(prog.info? 62).map (fun i=>(i.zero,i.size,i.bytes))=some (some (.agg #[.int .i64 0,.int .i64 0,.int .i64 0,.int .i64 0,.int .i64 0,.int .i64 0,.int .i64 0]),7,56):=by kernel_rfl
theorem ZjJ (w:World) (ty:TypeId) (B:Nat) (v:Value) (l:List Rec) (h:Xj w B v l) (r:Rec) (q:l.length<=1000000) (a:B<=w.heap.size):
 ∃ v' w',(Builtin.append_ #[29,29] ty #[v,.slice (some ⟨w.heap.size,0,none⟩) 1 1]).run prog (w.alloc (.cells (Ja r) 62))=.ok v' w'∧Xj w' B v' (l++[r])∧Below B w w':=by
 obtain⟨e,d,b,c,p⟩:=zbo Zdg
 obtain⟨v',w',m,n,g,_⟩:=zdc (P:=prog) (w.alloc (.cells (Ja r) 62)) B 29 ty 62 e _ 7 56 underlying29 d b c p rfl (by decide) v l.length (Qt l) (h.alloc _)
  ⟨w.heap.size,0,none⟩ 1 1 (Qt [r]) (Zl [r]) (fun j u i=>by
   rw[zbg,za5,zam _ w.heap.size j _ 62 (0,0) (zaf w _)]
   simpa[Qt] using i) (Zbw [r]) (by unfold maxLen;omega) (by omega) (by simp;omega)
 refine⟨v',w',m,?_,?_⟩
 ·unfold Xj
  rw[length_append,ZaA];exact n
 ·exact((zac _ _).alloc a _).grown g (by simp;omega) (fun k f=>(zar h k f).1)
theorem ZfK (w:World) {b:Array Oper} {rest:List Oper} {o:Oper} {a:Act} {Q:Exit->Act->World->Prop} (e:o.guard=none) (s x:Operand)
 (k:o.op=.call { callee:=.builtin .append,args:=#[s,x],argTypes:=#[29,29] })
 (B:Nat) (v:Value) (l:List Rec) (m:a.eval s=v) (i:Xj w B v l) (r:Rec) (p:a.eval x=.slice (some ⟨w.heap.size,0,none⟩) 1 1)
 (f:l.length<=1000000) (d:B<=w.heap.size)
 (h:∀ v' w',Xj w' B v' (l++[r])->Below B w w'->wpList prog b Q rest (a.put o.dst v') w'):wpList prog b Q (o::rest) a (w.alloc (.cells (Ja r) 62)):=
 zbr e fun _ n=>by
  obtain⟨v',w',j,g,c⟩:=ZjJ w o.type B v l i r f d;unfold Oper.wp execOp;simp only [k,resolve,invoke,builtin,zbk,zbn,za7,zc8,zd9,zgo,m,p,j];exact n _ _ (h v' w' g c)
theorem ZeG:prog.elem 29=62:=by kernel_rfl
theorem Zba:prog.underlying 29=some (.slice (prog.elem 29)):=by rw[ZeG];exact underlying29
theorem ZlB (w:World):(sizeOf 62).run prog w=.ok 7 w:=by
 obtain⟨c,b,_,a,_⟩:=zbo Zdg;simp[sizeOf,typeInfo,b,a]
theorem Br.set (h:Br w b cs) (j:Nat) (x:Value):Br (w.setCell ⟨b,j,none⟩ x) b (cs.setIfInBounds j x):=by
 have:=zba w b j _ _ x h;unfold Br;simpa using this
theorem Zdu (n lo c:Int) (a b:Nat) (w:World) (j:w.cell? ⟨a,0,none⟩=some (.int .i64 lo)) (i:w.cell? ⟨b,0,none⟩=some (.int .i64 c)):
 Calls prog 170 #[.int .i64 n,.pointer (some ⟨a,0,none⟩),.pointer (some ⟨b,0,none⟩)] w fun e w'=>e=.returned (.bool (decide (lo<=n∧n<=c)))∧w'=w:=by
 have f:Hid ((decide (lo<=n) && decide (n<=c))=decide (lo<=n∧n<=c)):=(zd7 _ _).symm;have g:Hid (lo<=n->decide (n<=c)=decide (lo<=n∧n<=c)):=fun h=>by rw[<-f.o,zah h,Bool.true_and]
 by_cases d:lo<=n
 ·go_enter func170,ntmps170
  go_wp2;go_ret;exact⟨Y6 (g.o d),rfl⟩
 ·go_enter func170,ntmps170
  go_wp2;go_ret;exact⟨Y6 (by rw[zae (Int.not_le.2 d),Bool.false_and]),rfl⟩
theorem Gz (lo c:Int) (w:World):
 Calls prog 121 #[.int .i64 lo,.int .i64 c] w fun e w'=>∃ a b,e=.returned (.func (.func 170) #[] #[.pointer (some ⟨a,0,none⟩),.pointer (some ⟨b,0,none⟩)])∧w'.cell? ⟨a,0,none⟩=some (.int .i64 lo)∧w'.cell? ⟨b,0,none⟩=some (.int .i64 c)∧Below w.heap.size w w':=by
 have f:∀ (fn:Fn) (first cap:Array Value) (w:World),(Instr.makeFunc fn first cap).run prog w=.ok (.func fn first cap) w:=fun _ _ _ _=>rfl
 have d:Hid (∀ x y,Below w.heap.size w ((w.alloc x).alloc y)):=fun x y=>((zac _ _).alloc zL x).alloc (by simp) y
 go_enter func121,ntmps121
 go_wp2;go_ret;refine⟨_,_,rfl,?_,?_,d.o _ _⟩
 ·rw[World.cell?_alloc_past _ _ _ (by simp),World.cell?_alloc_at _ _ _ _ rfl];rfl
 ·rw[World.cell?_alloc_at _ _ _ _ (by simp)];rfl
theorem ZfL (n:Int):max (-1099511627776) (min n 1099511627776)=Jp n:=by
 unfold Jp;split
 ·omega
 ·split <;> omega
theorem ZeH (n:Int) (w:World):Calls prog 173 #[.int .i64 n] w fun e w'=>e=.returned (.int .i64 (Jp n))∧w'=w:=by
 by_cases a:1099511627776<n
 ·go_enter func173,ntmps173
  go_wp2;go_ret;refine⟨Zyv ?_,rfl⟩
  first
   | exact ZfL n
   | (unfold Jp;split <;> (try split) <;> omega)
 by_cases b:n<=-1099511627776
 ·go_enter func173,ntmps173
  go_wp2;go_ret;refine⟨Zyv ?_,rfl⟩
  first
   | exact ZfL n
   | (unfold Jp;split <;> (try split) <;> omega)
 ·go_enter func173,ntmps173
  go_wp2;go_ret;refine⟨Zyv ?_,rfl⟩
  first
   | exact ZfL n
   | (unfold Jp;split <;> (try split) <;> omega)
theorem ZlC (ao:Option Addr) (n cap:Nat) (w:World):Calls prog 177 #[.slice ao n cap] w fun e w'=>e=.returned (.bool (decide (n=128)))∧w'=w:=by
 by_cases h:n=128
 ·have a:Hid (decide (n=128)=true):=zah h
  have b:((n:Int) == 128)=true:=za8.2 (by omega)
  clear h
  go_enter func177,ntmps177
  go_wp2;go_ret;exact⟨Y6 a.o.symm,rfl⟩
 ·have a:Hid (decide (n=128)=false):=zae h
  have b:((n:Int) == 128)=false:=zad.2 (by omega)
  clear h
  go_enter func177,ntmps177
  go_wp2;go_ret;exact⟨Y6 a.o.symm,rfl⟩
theorem ZqR {b:Int} {c d:Bool} (h:a=b) (e:c=d):Ending.returned (.tuple #[.int .i64 a,.bool c])=.returned (.tuple #[.int .i64 b,.bool d]):=by rw[h,e]
theorem ZuQ (v:Value) (l:List Int) (key:Int) (w:World) (F:RdI w v l) (B:l.length % 2=0) (K:l.length<=1000000):
 Calls prog 211 #[v,.int .i64 key] w fun e w'=>e=.returned (.tuple #[.int .i64 (Qw key l),.bool (decide (Qw key l<l.length∧l.getD (Qw key l) 0=key))])∧Below w.heap.size w w':=by
 obtain⟨ao,cap,rfl,-,-,-,-,t⟩:=F;have J:=Qc t;clear t;obtain⟨P,m⟩:=zgy (Qw key l);obtain⟨R,n⟩:=zgy (decide (P<l.length∧l.getD P 0=key));rw[<-m,<-n];have I:=Qc m;have p:=Qc n;clear m n
 go_enter func211,ntmps211
 go_wp2
 go_loop [6] (fun i=>∃ k:Nat,i=.int .i64 k∧k<=l.length∧k % 2=0∧Hid (∀ j,j<k->j % 2=0->l.getD j 0<key)) (fun i=>l.length-(intOf i).toNat)
 case atStart=>exact⟨0,rfl,zai _,rfl,fun j G=>by omega⟩
 case round=>
  obtain⟨k,rfl,C,H,x⟩:=hrel;have q:Hid (P=k+Qw key (l.drop k)):=I.o.trans (ZhE key l k B H C x.out);by_cases b:k<l.length
  ·rcases J.o with E | ⟨g,M,rfl,u⟩
   ·rw[E] at b;simp at b
   have A:=u k b;clear u;obtain⟨y,f⟩:=zgy (l.getD k 0);rw[<-f] at A;have d:=Qc f;clear f;by_cases D:key<=y
   ·have a:Hid (P=k):=q.o.trans (by rw[ZoO key l k (by omega) (by rw[<-d.o];exact D)];exact zcw k)
    have c:Hid (R=(y == key)):=by
     rw[p.o,a.o,<-d.o];by_cases e:y=key
     ·rw[za8.2 e];exact zah ⟨b,e⟩
     ·rw[zad.2 e];exact zae (fun h=>e h.2)
    have L:(k:Int)<(l.length:Int):=by omega
    go_wp2
    go_quiet(fail)
    go_wp2;go_ret2;exact⟨ZqR (by rw[a.o]) c.o.symm,Xo (zac _ _) _⟩
   ·go_wp2
    go_round
    case rel=>
     refine⟨k+2,by go_num,by omega,by omega,fun j G z=>?_⟩
     by_cases e:j=k
     ·rw[e,<-d.o];omega
     ·exact x.out j (by omega) z
    case measure=>simp[intOf];omega
  ·have a:Hid (P=l.length):=by
    have e:k=l.length:=by omega
    rw[q.o,e,zez];exact rfl
   have c:Hid (R=false):=p.o.trans (zae (fun h=>by have:=h.1;rw[a.o] at this;omega))
   go_wp2;go_ret2;exact⟨ZqR (by rw[a.o]) c.o.symm,zac _ _⟩
theorem ZfM (v:Value) (l:List Int) (key least lo:Int) (w:World) (c:RdI w v l) (a:Qu least lo l) (b:l.length<=1000000):
 Calls prog 211 #[v,.int .i64 key] w fun e w'=>e=.returned (.tuple #[.int .i64 (Qw key l),.bool (Zw key l)])∧Below w.heap.size w w':=by
 rw[(ZbM key least l lo a).1];exact ZuQ v l key w c (ZbJ a) b
theorem ZaB:∀ {l:List Int} {lo:Int},-1099511627776<=least->-1<=lo->Qu least lo l->∀ x ∈ l,I64 x
 | [],_,_,_,_,x,hx=>by simp at hx
 | [_],_,_,_,h,_,_=>by simp[Qu] at h
 | a::b::r,lo,hl,hlo,h,x,hx=>by
  unfold Qu at h;have c:=ZaB (l:=r) (lo:=a) hl (by omega) h.2.2.2.2 x
  simp at hx;rcases hx with rfl | rfl | hx
  ·exact Qo (by omega) (by omega)
  ·exact Qo (by omega) (by omega)
  ·exact c hx
theorem ZgX (v:Value) (l:List Int) (key least lo:Int) (w:World) (p:RdI w v l) (n:Qu least lo l) (C:l.length<=1000000):
 Calls prog 175 #[v,.int .i64 key] w fun e w'=>e=.returned (.tuple #[.int .i64 ((Yh key l).getD 0),.bool (Zw key l)])∧Below w.heap.size w w':=by
 have c:Hid (Calls prog 211 #[v,.int .i64 key] w fun e w'=>e=.returned (.tuple #[.int .i64 (Qw key l),.bool (Zw key l)])∧Below w.heap.size w w'):=ZfM v l key least lo w p n C
 have f:=Qc (ZbM key least l lo n).2;obtain⟨ao,cap,rfl,-,-,-,-,q⟩:=p;have u:=Qc q;obtain⟨G,k⟩:=zgy ((Yh key l).getD 0);rw[<-k];have d:=Qc k;clear q n k
 cases hh:Zw key l
 ·rw[hh] at c
  have m:Hid (0=G):=by
   have:Yh key l=none:=by
    unfold Zw at hh
    cases h:Yh key l with
    | none=>rfl
    | some x=>rw[h] at hh;simp at hh
   rw[d.o,this];exact rfl
  clear hh f
  go_enter func175,ntmps175
  go_wp2_with fail
  refine c.o.mono ?_;rintro e D ⟨rfl,a⟩;have j:=Qc a;clear a;go_wp2;go_ret2;exact⟨ZqR m.o rfl,j.o⟩
 ·rw[hh] at c
  obtain⟨z,b⟩:=f.o hh
  have m:Hid (l.getD (Qw key l+1) 0=G):=by
   rw[d.o,z];exact rfl
  rcases u.o with B | ⟨g,t,rfl,i⟩
  ·rw[B] at b;simp at b
  have A:Hid (∀ W,Below w.heap.size w W->W.cell? ⟨g,t+(Qw key l+1),none⟩=some (.int .i64 (l.getD (Qw key l+1) 0))):=fun W h=>(h.cell (zau w ⟨g,t+(Qw key l+1),none⟩ (i _ b))).trans (i _ b)
  clear hh f z u i d;generalize l.getD (Qw key l+1) 0=y at *;generalize Qw key l=P at *;have F:(P:Int)+1<(l.length:Int):=by omega
  clear b
  go_enter func175,ntmps175
  go_wp2_with fail
  refine c.o.mono ?_;rintro e D ⟨rfl,a⟩;have j:=Qc a;have E:=A.o _ a;clear a;go_wp2;go_ret2;exact⟨ZqR m.o rfl,j.o⟩
theorem ZgY (v:Value) (l:List Int) (key n least lo:Int) (B:Nat) (w:World) (f:Qs w B v l) (L:B<=w.heap.size) (C:∀ x ∈ l,I64 x) (b:Qu least lo l) (E:l.length<=1000000):
 Calls prog 178 #[v,.int .i64 key,.int .i64 n] w fun e w'=>∃ v',e=.returned v'∧Qs w' B v' (Xg key n false l)∧Mv w w' v v':=by
 have k:Hid (Calls prog 211 #[v,.int .i64 key] w fun e w'=>e=.returned (.tuple #[.int .i64 (Qw key l),.bool (Zw key l)])∧Below w.heap.size w w'):=ZfM v l key least lo w (f.rd C) b E
 have q:=(ZhD key l (ZbJ b)).1;have m:=Qc (ZbM key least l lo b).2;have p:=Qc f
 cases hh:Zw key l
 ·rw[hh] at k
  have a:=Qc (Zgf key n least l lo b hh)
  have I:Hid (∀ W,Qs W B v l->B<=W.heap.size->Calls prog 212 #[v,.int .i64 (Qw key l),.slice (some ⟨W.heap.size,0,none⟩) 2 2] (W.alloc (.cells #[.int .i64 key,.int .i64 n] 3)) fun e w'=>∃ v',e=.returned v'∧Qs w' B v' (l.take (Qw key l)++([key,n]++l.drop (Qw key l)))∧Mv W w' v v'):=
   fun W t d=>Zph v l B W t d E (Qw key l) q _ rfl key n _ rfl
  obtain⟨L',c⟩:=zgy (Xg key n false l);rw[<-c];rw[<-c] at a;have A:=Qc a.o.symm;rw[A.o] at I;clear c a A f b m hh q;generalize Qw key l=P at *
  go_enter func178,ntmps178
  go_wp2_with fail
  refine k.o.mono ?_;rintro e J ⟨rfl,j⟩;have i:=Qc j;clear j
  go_wp2_with fail
  refine(I.o J (p.o.below i.o zL) (zas L i.o.size)).mono ?_;rintro e W2 ⟨v2,rfl,F,D⟩;have O:=Qc ((Mv.ofBelow i.o v).trans D);have S:=Qc F;clear D F;go_wp2;go_ret;exact⟨_,rfl,S.o,O.o⟩
 ·rw[hh] at k
  have a:=Qc (ZmH key n least l lo b hh);obtain⟨t,d⟩:=m.o hh;obtain⟨L',c⟩:=zgy (Xg key n false l);rw[<-c];rw[<-c] at a;have N:=f.put _ d n;obtain⟨g,cap,rfl,-,-,V,aa,-,-⟩:=N
  have Q:Hid (∀ W,Below w.heap.size w W->W.cell? ⟨g,Qw key l+1,none⟩=some (.int .i64 (l.getD (Qw key l+1) 0))∧W.frozen? ⟨g,Qw key l+1,none⟩=false∧Qs (W.setCell ⟨g,Qw key l+1,none⟩ (.int .i64 n)) B (.slice (some ⟨g,0,none⟩) l.length cap) L'∧Mv w (W.setCell ⟨g,Qw key l+1,none⟩ (.int .i64 n)) (.slice (some ⟨g,0,none⟩) l.length cap) (.slice (some ⟨g,0,none⟩) l.length cap)):=fun W G=>by
   obtain⟨g',ab,z,K,T,h5,Z,R,M⟩:=(p.o.below G zL).put _ d n;simp only [za1,zbu,zgb] at z;obtain⟨⟨rfl,_⟩,_,rfl⟩:=z;exact⟨K,T,by rw[a.o];exact R,(Mv.ofBelow G _).trans M⟩
  clear c a f b m hh q t p C;generalize l.getD (Qw key l+1) 0=y at *;generalize Qw key l=P at *;have Y:(P:Int)+1<(l.length:Int):=by omega
  clear d
  go_enter func178,ntmps178
  go_wp2_with fail
  refine k.o.mono ?_;rintro e J ⟨rfl,j⟩;obtain⟨X,f1,u,H⟩:=Q.o _ j;have U:=Qc u;have i:=Qc H;clear j u H;go_wp2;go_ret;exact⟨_,rfl,U.o,i.o⟩
theorem Zxd (v:Value) (l:List Int) (key least lo:Int) (B:Nat) (w:World) (f:Qs w B v l) (n:∀ x ∈ l,I64 x) (a:Qu least lo l) (C:l.length<=1000000):
 Calls prog 176 #[v,.int .i64 key] w fun e w'=>∃ v',e=.returned v'∧Qs w' B v' (Yp key l)∧Mv w w' v v':=by
 have g:Hid (Calls prog 211 #[v,.int .i64 key] w fun e w'=>e=.returned (.tuple #[.int .i64 (Qw key l),.bool (Zw key l)])∧Below w.heap.size w w'):=ZfM v l key least lo w (f.rd n) a C
 have y:=(ZhD key l (ZbJ a)).1;have i:=Qc (ZbM key least l lo a).2;have t:=Qc f
 cases hh:Zw key l
 ·rw[hh] at g
  have b:=Qc (Zgg key least l lo a hh);rw[b.o];clear b f a i hh y n;generalize Qw key l=P at *
  go_enter func176,ntmps176
  go_wp2_with fail
  refine g.o.mono ?_;rintro e u ⟨rfl,d⟩;have c:=Qc d;clear d;go_wp2;go_ret;exact⟨_,rfl,t.o.below c.o zL,Mv.ofBelow c.o v⟩
 ·rw[hh] at g
  have b:=Qc (Zgh key least l lo a hh);obtain⟨G,D⟩:=i.o hh
  have k:Hid (∀ W J,Qs W B v l->J=((Qw key l+2:Nat):Int)->Calls prog 210 #[v,.int .i64 (Qw key l),.int .i64 J] W fun e w'=>∃ v',e=.returned v'∧Qs w' B v' (l.take (Qw key l)++l.drop (Qw key l+2))∧Mv W w' v v'):=
   fun W J z F=>Zic v l B W z (Qw key l) (Qw key l+2) (by omega) (by omega) _ _ rfl F
  obtain⟨L',j⟩:=zgy (Yp key l);rw[<-j];rw[<-j] at b;have m:=Qc b.o.symm;rw[m.o] at k;clear j b m f a i hh y G;generalize Qw key l=P at *;have H:(P:Int)+1<(l.length:Int):=by omega
  clear D
  go_enter func176,ntmps176
  go_wp2_with fail
  refine g.o.mono ?_;rintro e u ⟨rfl,d⟩;have c:=Qc d;clear d
  go_wp2_with fail
  refine(k.o u _ (t.o.below c.o zL) (by omega)).mono ?_
  rintro e K ⟨I,rfl,q,p⟩;have A:=Qc ((Mv.ofBelow c.o v).trans p);have E:=Qc q;clear p q;go_wp2;go_ret;exact⟨_,rfl,E.o,A.o⟩
def ZdS (B:Nat) (w:World) (v:Value) (L:List Int) (n:Int) (e:Ending) (w':World):Prop:=
 ∃ v',e=.returned (.tuple #[v',.int .i64 n])∧Qs w' B v' L∧Mv w w' v v'
theorem Qs.alloc (h:Qs w B v l) (X:Obj):Qs (w.alloc X) B v l:=zb0 h X
theorem Qs.single (h:Qs w B v l) (c:l.length=1):
 ∃ g cap,v=.slice (some ⟨g,0,none⟩) 1 cap∧(∀ X,(w.alloc X).cell? ⟨g,0,none⟩=some (.int .i64 (l.getD 0 0))∧(w.alloc X).frozen? ⟨g,0,none⟩=false)∧g<w.heap.size∧
  ∀ X n,Qs ((w.setCell ⟨g,0,none⟩ (.int .i64 n)).alloc X) B v [n]∧Mv w ((w.setCell ⟨g,0,none⟩ (.int .i64 n)).alloc X) v v:=by
 obtain⟨g,cap,rfl,-,-,m,j,-,-⟩:=h.put 0 (by omega) 0
 refine⟨g,cap,by rw[c],fun X=>?_,j,fun X n=>?_⟩
 ·obtain⟨g',k,a,b,f,_⟩:=(h.alloc X).put 0 (by omega) 0
  simp only [za1,zbu,zgb] at a;obtain⟨⟨rfl,_⟩,_,rfl⟩:=a;exact⟨b,f⟩
 ·obtain⟨g',k,a,b,f,_,_,d,i⟩:=h.put 0 (by omega) n
  simp only [za1,zbu,zgb] at a;obtain⟨⟨rfl,_⟩,_,rfl⟩:=a
  have e:l.set 0 n=[n]:=by
   match l,c with
   | [_],_=>rfl
  rw[e] at d;exact⟨d.alloc X,i.trans (Mv.alloc _ _ X)⟩
theorem Zpn (v:Value) (l:List Int) (o:Opn) (f:Bool) (g:Int) (B:Nat) (w:World) (q:Qs w B v l) (t:l.length=1) (E:-1099511627776<=l.getD 0 0) (G:l.getD 0 0<=1099511627776):
 Calls prog 124 #[v,opV o] w fun e w'=>e=.returned (.int .i64 (Zef ⟨0,l,f,g⟩ o).2)∧Qs w' B v (Zef ⟨0,l,f,g⟩ o).1.L∧Mv w w' v v:=by
 obtain⟨d,a,b⟩:=o;have u:=Qc q;have x:Hid (∀ X,Mv w (w.alloc X) v v):=fun X=>Mv.alloc w v X
 have A:=Qc (fun n w=>ZeH n w)
 obtain⟨c,cap,rfl,p,H,z⟩:=q.single t;have D:=Qc z;have F:=fun X=>(p X).1
 have J:=fun X=>(p X).2
 clear z q p;obtain⟨n,m⟩:=zgy (l.getD 0 0);rw[<-m] at E G;simp only [<-m] at F;have y:=Qc m;have M:=ZbW a;clear m t;show Calls prog _ #[_,.agg #[.int .i64 d,.int .i64 a,.int .i64 b]] w _;by_cases k:d=1
 ·subst k
  have j:Hid (Zef ⟨0,l,f,g⟩ ⟨1,a,b⟩=(⟨0,[Jp (n+Jp a)],f,g⟩,n)):=by rw[y.o];exact zab ⟨rfl,rfl⟩
  rw[j.o]
  go_enter func124,ntmps124
  go_wp2_with(first | (go_at_call 173;refine(A.o _ _).mono ?_;rintro e K ⟨rfl,rfl⟩))
  go_ret;exact⟨rfl,D.o _ _⟩
 ·have I:(d == 1)=false:=zad.2 k
  by_cases i:d=7
  ·have C:(d == 7)=true:=za8.2 i
   have j:Hid (Zef ⟨0,l,f,g⟩ ⟨d,a,b⟩=(⟨0,l,f,g⟩,n)):=by
    rw[y.o];unfold Zef;rw[zaa (by simp;omega),zaa (by simp),zab i]
    exact rfl
   rw[j.o];clear k i
   go_enter func124,ntmps124
   go_wp2;go_ret;exact⟨rfl,u.o.alloc _,x.o _⟩
  ·have C:(d == 7)=false:=zad.2 i
   have j:Hid (Zef ⟨0,l,f,g⟩ ⟨d,a,b⟩=(⟨0,l,f,g⟩,0)):=by
    unfold Zef;rw[zaa (by simp;omega),zaa (by simp),zaa i]
    exact rfl
   rw[j.o];clear k i
   go_enter func124,ntmps124
   go_wp2;go_ret;exact⟨rfl,u.o.alloc _,x.o _⟩
theorem Znp (v:Value) (l:List Int) (o:Opn) (f:Bool) (g:Int) (B:Nat) (w:World) (q:Qs w B v l) (t:l.length=1):
 Calls prog 125 #[v,opV o] w fun e w'=>e=.returned (.int .i64 (Zef ⟨1,l,f,g⟩ o).2)∧Qs w' B v (Zef ⟨1,l,f,g⟩ o).1.L∧Mv w w' v v:=by
 obtain⟨d,a,b⟩:=o;have u:=Qc q;have x:Hid (∀ X,Mv w (w.alloc X) v v):=fun X=>Mv.alloc w v X
 have A:=Qc (fun n w=>ZeH n w)
 obtain⟨c,cap,rfl,m,F,z⟩:=q.single t;have D:=Qc z;have E:=fun X=>(m X).1
 have H:=fun X=>(m X).2
 clear z q m;obtain⟨n,p⟩:=zgy (l.getD 0 0);simp only [<-p] at E;have y:=Qc p;clear p t;show Calls prog _ #[_,.agg #[.int .i64 d,.int .i64 a,.int .i64 b]] w _;by_cases k:d=2
 ·subst k
  have j:Hid (Zef ⟨1,l,f,g⟩ ⟨2,a,b⟩=(⟨1,[Jp a],f,g⟩,n)):=by rw[y.o];exact rfl
  rw[j.o]
  go_enter func125,ntmps125
  go_wp2_with(first | (go_at_call 173;refine(A.o _ _).mono ?_;rintro e I ⟨rfl,rfl⟩))
  go_ret;exact⟨rfl,D.o _ _⟩
 ·have G:(d == 2)=false:=zad.2 k
  by_cases i:d=7
  ·have C:(d == 7)=true:=za8.2 i
   have j:Hid (Zef ⟨1,l,f,g⟩ ⟨d,a,b⟩=(⟨1,l,f,g⟩,n)):=by
    rw[y.o];unfold Zef;rw[zaa (by simp),zaa (by simp;omega),zab i]
    exact rfl
   rw[j.o];clear k i
   go_enter func125,ntmps125
   go_wp2;go_ret;exact⟨rfl,u.o.alloc _,x.o _⟩
  ·have C:(d == 7)=false:=zad.2 i
   have j:Hid (Zef ⟨1,l,f,g⟩ ⟨d,a,b⟩=(⟨1,l,f,g⟩,0)):=by
    unfold Zef;rw[zaa (by simp),zaa (by simp;omega),zaa i]
    exact rfl
   rw[j.o];clear k i
   go_enter func125,ntmps125
   go_wp2;go_ret;exact⟨rfl,u.o.alloc _,x.o _⟩
theorem ZyL (kind:Int) (R:kind=2∨kind=3) (v:Value) (l:List Int) (j:Bool) (g a b:Int) (B:Nat) (w:World) (k:Qs w B v l) (m:∀ x ∈ l,I64 x) (H:l.length<=64):
 Calls prog 174 #[.int .i64 kind,v] w fun e w'=>ZdS B w v (Zq ⟨kind,l,j,g⟩ ⟨4,a,b⟩).1.L (Zq ⟨kind,l,j,g⟩ ⟨4,a,b⟩).2 e w':=by
 have q:=Qc k;have G:=k.shape;by_cases d:l.length=0
 ·have f:Hid (Zq ⟨kind,l,j,g⟩ ⟨4,a,b⟩=(⟨kind,l,j,g⟩,-1)):=by
   unfold Zq;rw[zaa (by simp),zab rfl,zab d]
   exact rfl
  rw[f.o];obtain⟨ao,cap,rfl⟩:=G;rw[d]
  have O:Hid (Qs w B (.slice ao 0 cap) l):=by
   have h:=q.o
   rwa [d] at h
  clear q k d f m H
  go_enter func174,ntmps174
  go_wp2;go_ret2;exact⟨_,rfl,O.o,Mv.refl _ _⟩
 ·have P:((l.length:Int) == 0)=false:=zad.2 (by omega)
  have C:l≠[]:=fun h=>d (by rw[h];rfl)
  have Q:=k.rd m;obtain⟨ao,cap,rfl⟩:=G
  have u:Hid (∀ i:Nat,i<l.length->∀ I J,I=(i:Int)->J=((i+1:Nat):Int)->Calls prog 210 #[.slice ao l.length cap,.int .i64 I,.int .i64 J] w fun e w'=>∃ v',e=.returned v'∧Qs w' B v' (l.take i++l.drop (i+1))∧Mv w w' (.slice ao l.length cap) v'):=
   fun i m I J W S=>Zic _ l B w q.o i (i+1) (by omega) (by omega) I J W S
  obtain⟨Z,ac,F,-,-,-,-,T⟩:=Q;simp only [za1] at F;obtain⟨rfl,-,rfl⟩:=F;rcases T with X | ⟨c,ab,rfl,z⟩
  ·exact absurd X C
  rcases R with rfl | rfl
  ·have f:Hid (Zq ⟨2,l,j,g⟩ ⟨4,a,b⟩=(⟨2,l.take 0++l.drop (0+1),j,g⟩,l.getD 0 0)):=by
    unfold Zq;rw[zaa (by simp),zab rfl,zaa d,zab rfl]
    exact rfl
   rw[f.o];have A:=z 0 (by omega)
   rw[zcw] at A;have n:=Qc (u.o 0 (by omega))
   have Y:(0:Int)<(l.length:Int):=by omega
   generalize l.getD 0 0=y at *;generalize l.take 0++l.drop (0+1)=L' at *;clear z u f d C k m q
   go_enter func174,ntmps174
   go_wp2_with fail
   refine(n.o _ _ (by simp) (by simp)).mono ?_
   rintro e U ⟨V,rfl,p,t⟩;have D:=Qc p;have E:=Qc t;clear p t;go_wp2;go_ret2;exact⟨_,rfl,D.o,E.o⟩
  ·have f:Hid (Zq ⟨3,l,j,g⟩ ⟨4,a,b⟩=(⟨3,l.take (l.length-1)++l.drop (l.length-1+1),j,g⟩,l.getD (l.length-1) 0)):=by
    unfold Zq;rw[zaa (by simp),zab rfl,zaa d,zaa (by simp)]
    have e:l.drop (l.length-1+1)=[]:=List.drop_of_length_le (by omega)
    rw[e,zcx];exact rfl
   rw[f.o];have A:=z (l.length-1) (by omega)
   have n:=Qc (u.o (l.length-1) (by omega))
   obtain⟨M,N⟩:=zgy (l.length-1);rw[<-N] at A n ⊢;have K:l.length=M+1:=by omega
   generalize l.getD M 0=y at *;generalize l.take M++l.drop (M+1)=L' at *;clear z u f d C k m q N P;rw[K] at n ⊢;have aa:(M:Int)<64:=by omega
   clear K H
   go_enter func174,ntmps174
   go_wp2_with fail
   refine(n.o _ _ (by simp) (by simp)).mono ?_
   rintro e U ⟨V,rfl,p,t⟩;have D:=Qc p;have E:=Qc t;clear p t;go_wp2;go_ret2;exact⟨_,rfl,D.o,E.o⟩
theorem Zh {b:Int} (h:a=b):Ending.returned (.tuple #[v,.int .i64 a])=.returned (.tuple #[v,.int .i64 b]):=by rw[h]
theorem Zxe (kind:Int) (p:kind=2∨kind=3) (v:Value) (l:List Int) (o:Opn) (c:Bool) (g:Int) (B:Nat) (w:World) (i:Qs w B v l) (T:B<=w.heap.size) (m:∀ x ∈ l,I64 x) (u:l.length<=64):
 Calls prog 126 #[.int .i64 kind,v,opV o] w fun e w'=>ZdS B w v (Zq ⟨kind,l,c,g⟩ o).1.L (Zq ⟨kind,l,c,g⟩ o).2 e w':=by
 obtain⟨f,a,b⟩:=o;have y:=Qc i;have z:Hid (∀ X,Mv w (w.alloc X) v v):=fun X=>Mv.alloc w v X
 have J:=Qc (fun n w=>ZeH n w)
 show Calls prog _ #[_,_,.agg #[.int .i64 f,.int .i64 a,.int .i64 b]] w _;by_cases j:f=3
 ·subst j
  obtain⟨ao,cap,rfl⟩:=i.shape;by_cases C:l.length=64
  ·have d:Hid (Zq ⟨kind,l,c,g⟩ ⟨3,a,b⟩=(⟨kind,l,c,g⟩,-1)):=by
    unfold Zq;rw[zab rfl,zab C];exact rfl
   rw[d.o];have R:((l.length:Int) == 64)=true:=za8.2 (by omega)
   clear C d i m u p
   go_enter func126,ntmps126
   go_wp2;go_ret2;exact⟨_,rfl,y.o.alloc _,z.o _⟩
  ·have d:Hid (Zq ⟨kind,l,c,g⟩ ⟨3,a,b⟩=(⟨kind,l++[Jp a],c,g⟩,(l.length:Int)+1)):=by
    unfold Zq;rw[zab rfl,zaa C];exact rfl
   rw[d.o];have R:((l.length:Int) == 64)=false:=zad.2 (by omega)
   obtain⟨L',D⟩:=zgy (l++[Jp a]);rw[<-D];have Q:=Qc D;have I:Hid ((L'.length:Int)=(l.length:Int)+1):=by rw[D,length_append];exact rfl
   clear C d i m p D
   go_enter func126,ntmps126
   go_wp2_with(first | (go_at_call 173;refine(J.o _ _).mono ?_;rintro e V ⟨rfl,rfl⟩) | (at_builtin;refine Zep _ rfl _ _ rfl B _ l rfl (y.o.alloc _) _ _ rfl (by simp[Act.eval]) (by omega) (by simp;omega) ?_))
   intro O N k G H;have A:=Mv.app G (by simp) H
   clear G H;rw[<-Q.o] at k;have E:=Qc k;obtain⟨S,U,rfl⟩:=k.shape;have F:=Qc ((z.o _).trans A);clear k A;go_wp2;go_ret2;exact⟨_,Zh I.o,E.o,F.o⟩
 ·have P:(f == 3)=false:=zad.2 j
  by_cases q:f=4
  ·subst q
   have M:Hid (∀ X,Calls prog 174 #[.int .i64 kind,v] (w.alloc X) fun e w'=>ZdS B (w.alloc X) v (Zq ⟨kind,l,c,g⟩ ⟨4,a,b⟩).1.L (Zq ⟨kind,l,c,g⟩ ⟨4,a,b⟩).2 e w'):=fun X=>ZyL kind p v l c g a b B (w.alloc X) (y.o.alloc X) m u
   generalize (Zq ⟨kind,l,c,g⟩ ⟨4,a,b⟩).1.L=L' at *;generalize (Zq ⟨kind,l,c,g⟩ ⟨4,a,b⟩).2=n at *;clear i m u p j P
   go_enter func126,ntmps126
   go_wp2_with fail
   refine(M.o _).mono ?_;rintro e N ⟨O,rfl,k,A⟩;have E:=Qc k;have F:=Qc ((z.o _).trans A);clear k A;go_wp2;go_ret2;exact⟨_,rfl,E.o,F.o⟩
  ·have W:(f == 4)=false:=zad.2 q
   obtain⟨ao,cap,rfl⟩:=i.shape;by_cases t:f=7
   ·have K:(f == 7)=true:=za8.2 t
    have d:Hid (Zq ⟨kind,l,c,g⟩ ⟨f,a,b⟩=(⟨kind,l,c,g⟩,(l.length:Int))):=by
     unfold Zq;rw[zaa j,zaa q,zab t];exact rfl
    rw[d.o];clear i m u p j q t d
    go_enter func126,ntmps126
    go_wp2;go_ret2;exact⟨_,rfl,y.o.alloc _,z.o _⟩
   ·have K:(f == 7)=false:=zad.2 t
    have d:Hid (Zq ⟨kind,l,c,g⟩ ⟨f,a,b⟩=(⟨kind,l,c,g⟩,0)):=by
     unfold Zq;rw[zaa j,zaa q,zaa t];exact rfl
    rw[d.o];clear i m u p j q t d
    go_enter func126,ntmps126
    go_wp2;go_ret2;exact⟨_,rfl,y.o.alloc _,z.o _⟩
theorem Qs.drew (h:Qs w B v l):Qs w.drew B v l:=h
theorem Zbx (key:Int) (l:List Int):J1 key 0 l<0↔Zw key l=false:=by
 rw[Zen];unfold Zw
 cases Yh key l <;> simp
theorem ZuR (h:Zw key l=true):Zrv key l=(Yh key l).getD 0:=by
 rw[ZoI];unfold Zw at h
 cases hg:Yh key l with
 | none=>rw[hg] at h;simp at h
 | some x=>rfl
theorem ZlD (h:Zw key l=false):Zrv key l=-1:=by
 rw[ZoI];unfold Zw at h
 cases hg:Yh key l with
 | none=>rfl
 | some x=>rw[hg] at h;simp at h
theorem Zsq (v:Value) (l:List Int) (o:Opn) (aa:Bool) (g:Int) (B:Nat) (w:World) (ho:Qs w B v l) (hB:B<=w.heap.size) (S:Qu (-1099511627776) (-1) l) (aj:l.length<=128):
 Calls prog 127 #[v,opV o] w fun e w'=>ZdS B w v (Z5 ⟨4,l,aa,g⟩ o).1.L (Z5 ⟨4,l,aa,g⟩ o).2 e w':=by
 obtain⟨c,a,b⟩:=o;have hi:=ZaB (by decide) (by decide) S
 have HO:=Qc ho;have ac:Hid (∀ X,Mv w (w.alloc X) v v):=fun X=>Mv.alloc w v X
 have HC:=Qc (fun n w=>ZeH n w)
 have HW:=Qc (fun p q W=>Gz p q W)
 have HS:=Qc (fun n l2 i a2 b2 W Q p2=>Zdu n l2 i a2 b2 W Q p2)
 have ab:Hid (∀ W,Qs W B v l->Calls prog 175 #[v,.int .i64 a] W fun e w'=>e=.returned (.tuple #[.int .i64 ((Yh a l).getD 0),.bool (Zw a l)])∧Below W.heap.size W w'):=fun W h=>ZgX v l a _ _ W (h.rd hi) S (by omega)
 have af:Hid (∀ n W,Qs W B v l->B<=W.heap.size->Calls prog 178 #[v,.int .i64 a,.int .i64 n] W fun e w'=>∃ v',e=.returned v'∧Qs w' B v' (Xg a n false l)∧Mv W w' v v'):=fun n W f i=>ZgY v l a n _ _ B W f i hi S (by omega)
 have ag:Hid (∀ W,Qs W B v l->B<=W.heap.size->Calls prog 176 #[v,.int .i64 a] W fun e w'=>∃ v',e=.returned v'∧Qs w' B v' (Yp a l)∧Mv W w' v v'):=fun W f _=>Zxd v l a _ _ B W f hi S (by omega)
 obtain⟨ao,cap,rfl⟩:=ho.shape;have ai:Hid (∀ W,Calls prog 177 #[.slice ao l.length cap] W fun e w'=>e=.returned (.bool (decide (l.length=128)))∧w'=W):=fun W=>ZlC ao l.length cap W
 obtain⟨L',n',hE⟩:∃ L' n',Z5 ⟨4,l,aa,g⟩ ⟨c,a,b⟩=(⟨4,L',aa,g⟩,n'):=by
  unfold Z5
  repeat' split
  all_goals exact⟨_,_,rfl⟩
 rw[hE];have E:=Qc hE;clear hE ho S hi;show Calls prog _ #[_,.agg #[.int .i64 c,.int .i64 a,.int .i64 b]] w fun e w'=>ZdS B w (.slice ao l.length cap) L' n' e w'
 by_cases Z:0<=a∧a<=255
 ·have Y:=Qc (zah Z)
  have G:Hid (¬ (a<0∨255<a)):=by
   show ¬ (a<0∨255<a);omega
  clear Z
  cases hh:Zw a l
  ·have ad:=Qc ((Zbx a l).2 hh)
   have N:=Qc (ZlD hh);rw[hh] at ab;clear hh;generalize (Yh a l).getD 0=y at *
   go_enter func127,ntmps127
   go_wp2_with fail
   refine(HW.o _ _ _).mono ?_;rintro e V ⟨a1,b1,rfl,J,I,k⟩;have j:=(k.block w.heap.size (by simp)).trans (zaf w _)
   have Q:=zam V w.heap.size 1 _ _ _ j;have K:=Qc j;have P:=Qc ((ac.o _).trans (Mv.ofBelow k _));have F:=Qc ((HO.o.alloc _).below k zL);clear k j
   go_wp2_with fail
   refine(HS.o _ _ _ _ _ _ J I).mono ?_;rintro e z ⟨rfl,rfl⟩;rw[Y.o];clear J I
   go_wp2_with fail
   refine(ab.o _ F.o).mono ?_;rintro e z ⟨rfl,H⟩;have j:=(H.block w.heap.size (zan.1 K.o).1).trans K.o;have p0:=zam z w.heap.size 0 _ _ _ j;have q1:=zam z w.heap.size 1 _ _ _ j;have q2:=zam z w.heap.size 2 _ _ _ j;have u:=Qc (P.o.trans (Mv.ofBelow H _));have D:=Qc (F.o.below H zL);have T:B<=z.heap.size:=zas hB u.o.size;clear H j K P F Q;by_cases m:c=7
   ·have d:Hid (L'=l∧n'=-1):=by
     have h:=E.o;unfold Z5 at h;rw[zaa G.o,zaa (show ¬ (c≠7∧c≠6∧c≠5) by omega),zaa (show ¬ c=6 by omega),zaa (show ¬ c=5 by omega),N.o] at h
     injection h with f i
     injection f with _ h3
     exact⟨h3.symm,i.symm⟩
    have e7:(c == 7)=true:=za8.2 m;clear m;go_wp2;go_ret2;exact⟨_,Zh d.o.2.symm,by rw[d.o.1];exact D.o,u.o⟩
   ·have e7:(c == 7)=false:=zad.2 m
    by_cases x:c=6
    ·have d:Hid (L'=Yp a l∧n'=-1):=by
      have h:=E.o;unfold Z5 at h;rw[zaa G.o,zaa (show ¬ (c≠7∧c≠6∧c≠5) by omega),zab (show c=6 by omega),N.o] at h
      injection h with f i
      injection f with _ h3
      exact⟨h3.symm,i.symm⟩
     have e6:(c == 6)=true:=za8.2 x;clear x m
     go_wp2_with fail
     refine(ag.o _ D.o T).mono ?_;rintro e U ⟨v3,rfl,A,C⟩;have O:=Qc (u.o.trans C);have M:=Qc A;clear A C;go_wp2;go_ret2;exact⟨_,Zh d.o.2.symm,by rw[d.o.1];exact M.o,O.o⟩
    ·have e6:(c == 6)=false:=zad.2 x
     by_cases t:c=5
     ·have e5:(c == 5)=true:=za8.2 t
      by_cases R:l.length=128
      ·have d:Hid (L'=l∧n'=-2):=by
        have h:=E.o;unfold Z5 at h;rw[zaa G.o,zaa (show ¬ (c≠7∧c≠6∧c≠5) by omega),zaa (show ¬ c=6 by omega),zab t,zab ⟨ad.o,R⟩] at h
        injection h with f i
        injection f with _ h3
        exact⟨h3.symm,i.symm⟩
       have ae:=Qc (zah R);clear t x m R
       go_wp2_with fail
       refine(ai.o _).mono ?_;rintro e U ⟨rfl,rfl⟩;rw[ae.o];go_wp2;go_ret2;exact⟨_,Zh d.o.2.symm,by rw[d.o.1];exact D.o,u.o⟩
      ·have d:Hid (L'=Xg a (Jp b) false l∧n'=-1):=by
        have h:=E.o;unfold Z5 at h;rw[zaa G.o,zaa (show ¬ (c≠7∧c≠6∧c≠5) by omega),zaa (show ¬ c=6 by omega),zab t,zaa (fun h=>R h.2),N.o] at h
        injection h with f i
        injection f with _ h3
        exact⟨h3.symm,i.symm⟩
       have ae:=Qc (zae R);clear R;clear t x m
       go_wp2_with fail
       refine(ai.o _).mono ?_;rintro e U ⟨rfl,rfl⟩;rw[ae.o];go_wp2
       go_region_with
        (first
         | (go_at_call 173;refine(HC.o _ _).mono ?_;rintro e w3 ⟨rfl,rfl⟩)
         | (go_at_call 178;refine(af.o _ _ D.o.drew T).mono ?_;rintro e U ⟨v3,rfl,A,C⟩;have O:=Qc (u.o.drew.trans C);have M:=Qc A;clear A C))
       all_goals
        go_wp2;go_ret2;exact⟨_,Zh d.o.2.symm,by rw[d.o.1];exact M.o,O.o⟩
     ·have e5:(c == 5)=false:=zad.2 t
      have d:Hid (L'=l∧n'=0):=by
       have h:=E.o;unfold Z5 at h;rw[zaa G.o,zab (show(c≠7∧c≠6∧c≠5) by omega)] at h
       injection h with f i
       injection f with _ h3
       exact⟨h3.symm,i.symm⟩
      clear t x m;go_wp2;go_ret2;exact⟨_,Zh d.o.2.symm,by rw[d.o.1];exact D.o,u.o⟩
  ·have ad:Hid (¬ J1 a 0 l<0):=fun h=>by rw[(Zbx a l).1 h] at hh;cases hh
   have N:=Qc (ZuR hh);rw[hh] at ab;clear hh;generalize (Yh a l).getD 0=y at *
   go_enter func127,ntmps127
   go_wp2_with fail
   refine(HW.o _ _ _).mono ?_;rintro e V ⟨a1,b1,rfl,J,I,k⟩;have j:=(k.block w.heap.size (by simp)).trans (zaf w _)
   have Q:=zam V w.heap.size 1 _ _ _ j;have K:=Qc j;have P:=Qc ((ac.o _).trans (Mv.ofBelow k _));have F:=Qc ((HO.o.alloc _).below k zL);clear k j
   go_wp2_with fail
   refine(HS.o _ _ _ _ _ _ J I).mono ?_;rintro e z ⟨rfl,rfl⟩;rw[Y.o];clear J I
   go_wp2_with fail
   refine(ab.o _ F.o).mono ?_;rintro e z ⟨rfl,H⟩;have j:=(H.block w.heap.size (zan.1 K.o).1).trans K.o;have p0:=zam z w.heap.size 0 _ _ _ j;have q1:=zam z w.heap.size 1 _ _ _ j;have q2:=zam z w.heap.size 2 _ _ _ j;have u:=Qc (P.o.trans (Mv.ofBelow H _));have D:=Qc (F.o.below H zL);have T:B<=z.heap.size:=zas hB u.o.size;clear H j K P F Q;by_cases m:c=7
   ·have d:Hid (L'=l∧n'=y):=by
     have h:=E.o;unfold Z5 at h;rw[zaa G.o,zaa (show ¬ (c≠7∧c≠6∧c≠5) by omega),zaa (show ¬ c=6 by omega),zaa (show ¬ c=5 by omega),N.o] at h
     injection h with f i
     injection f with _ h3
     exact⟨h3.symm,i.symm⟩
    have e7:(c == 7)=true:=za8.2 m;clear m;go_wp2;go_ret2;exact⟨_,Zh d.o.2.symm,by rw[d.o.1];exact D.o,u.o⟩
   ·have e7:(c == 7)=false:=zad.2 m
    by_cases x:c=6
    ·have d:Hid (L'=Yp a l∧n'=y):=by
      have h:=E.o;unfold Z5 at h;rw[zaa G.o,zaa (show ¬ (c≠7∧c≠6∧c≠5) by omega),zab (show c=6 by omega),N.o] at h
      injection h with f i
      injection f with _ h3
      exact⟨h3.symm,i.symm⟩
     have e6:(c == 6)=true:=za8.2 x;clear x m
     go_wp2_with fail
     refine(ag.o _ D.o T).mono ?_;rintro e U ⟨v3,rfl,A,C⟩;have O:=Qc (u.o.trans C);have M:=Qc A;clear A C;go_wp2;go_ret2;exact⟨_,Zh d.o.2.symm,by rw[d.o.1];exact M.o,O.o⟩
    ·have e6:(c == 6)=false:=zad.2 x
     by_cases t:c=5
     ·have e5:(c == 5)=true:=za8.2 t
      have d:Hid (L'=Xg a (Jp b) false l∧n'=y):=by
       have h:=E.o;unfold Z5 at h;rw[zaa G.o,zaa (show ¬ (c≠7∧c≠6∧c≠5) by omega),zaa (show ¬ c=6 by omega),zab t,zaa (fun h=>absurd (show J1 a 0 l<0 from h.1) (by have:=ad.o;omega)),N.o] at h
       injection h with f i
       injection f with _ h3
       exact⟨h3.symm,i.symm⟩
      clear t x m;go_wp2
      go_region_with
       (first
        | (go_at_call 173;refine(HC.o _ _).mono ?_;rintro e w3 ⟨rfl,rfl⟩)
        | (go_at_call 178;refine(af.o _ _ D.o.drew T).mono ?_;rintro e U ⟨v3,rfl,A,C⟩;have O:=Qc (u.o.drew.trans C);have M:=Qc A;clear A C))
      all_goals
       go_wp2;go_ret2;exact⟨_,Zh d.o.2.symm,by rw[d.o.1];exact M.o,O.o⟩
     ·have e5:(c == 5)=false:=zad.2 t
      have d:Hid (L'=l∧n'=0):=by
       have h:=E.o;unfold Z5 at h;rw[zaa G.o,zab (show(c≠7∧c≠6∧c≠5) by omega)] at h
       injection h with f i
       injection f with _ h3
       exact⟨h3.symm,i.symm⟩
      clear t x m;go_wp2;go_ret2;exact⟨_,Zh d.o.2.symm,by rw[d.o.1];exact D.o,u.o⟩
 ·have Y:=Qc (zae Z)
  have d:Hid (L'=l∧n'=-1):=by
   have h:=E.o;unfold Z5 at h;rw[zab (show a<0∨255<a by omega)] at h
   injection h with f i
   injection f with _ h3
   exact⟨h3.symm,i.symm⟩
  clear Z
  go_enter func127,ntmps127
  go_wp2_with fail
  refine(HW.o _ _ _).mono ?_;rintro e V ⟨a1,b1,rfl,J,I,k⟩;have j:=(k.block w.heap.size (by simp)).trans (zaf w _)
  have Q:=zam V w.heap.size 1 _ _ _ j;have K:=Qc j;have P:=Qc ((ac.o _).trans (Mv.ofBelow k _));have F:=Qc ((HO.o.alloc _).below k zL);clear k j
  go_wp2_with fail
  refine(HS.o _ _ _ _ _ _ J I).mono ?_;rintro e z ⟨rfl,rfl⟩;rw[Y.o];clear J I;go_wp2;go_ret2;exact⟨_,Zh d.o.2.symm,by rw[d.o.1];exact F.o,P.o⟩
theorem Zpo (v:Value) (l:List Int) (a b:Int) (j:Bool) (g:Int) (B:Nat) (w:World) (S:Qs w B v l) (hB:B<=w.heap.size) (C:Qu 0 (-1) l) (af:l.length<=128):
 Calls prog 179 #[v,.int .i64 a,.int .i64 b] w fun e w'=>ZdS B w v (Yd ⟨5,l,j,g⟩ ⟨8,a,b⟩).1.L (Yd ⟨5,l,j,g⟩ ⟨8,a,b⟩).2 e w':=by
 have J:=ZaB (by decide) (by decide) C
 have T:=Qc S;have X:=Qc (fun n w=>ZeH n w)
 have I:=Qc (fun p q W=>Gz p q W)
 have P:=Qc (fun n l2 d a2 b2 W p1 p2=>Zdu n l2 d a2 b2 W p1 p2)
 have ac:Hid (∀ W,Qs W B v l->Calls prog 175 #[v,.int .i64 a] W fun e w'=>e=.returned (.tuple #[.int .i64 (Yz a l),.bool (Zw a l)])∧Below W.heap.size W w'):=fun W h=>by
  rw[Zhp];exact ZgX v l a _ _ W (h.rd J) C (by omega)
 have Y:Hid (∀ n W,Qs W B v l->B<=W.heap.size->Calls prog 178 #[v,.int .i64 a,.int .i64 n] W fun e w'=>∃ v',e=.returned v'∧Qs w' B v' (Xg a n false l)∧Mv W w' v v'):=fun n W k d=>ZgY v l a n _ _ B W k d J C (by omega)
 have ad:=ZaW C a;obtain⟨ao,cap,rfl⟩:=S.shape;have Z:Hid (∀ W,Calls prog 177 #[.slice ao l.length cap] W fun e w'=>e=.returned (.bool (decide (l.length=128)))∧w'=W):=fun W=>ZlC ao l.length cap W
 obtain⟨L',n',O⟩:∃ L' n',Yd ⟨5,l,j,g⟩ ⟨8,a,b⟩=(⟨5,L',j,g⟩,n'):=by
  unfold Yd;rw[zaa (by simp),zaa (by simp)]
  repeat' split
  all_goals exact⟨_,_,rfl⟩
 rw[O];have aa:=Qc O
 have D:Hid ((if a<0∨255<a then((⟨5,l,j,g⟩:St),(-1:Int)) else if b<0 then(⟨5,l,j,g⟩,-1) else if J1 a 0 l<0∧l.length=128 then(⟨5,l,j,g⟩,-2) else(⟨5,Xg a (Jp (Yz a l+Jp b)) false l,j,g⟩,Jp (Yz a l+Jp b)))=(⟨5,L',j,g⟩,n')):=by
  refine Qc ?_;have h:=aa.o;unfold Yd at h;rw[zaa (by simp),zaa (by simp)] at h
  simpa using h
 clear O S C J aa;show Calls prog _ _ w fun e w'=>ZdS B w (.slice ao l.length cap) L' n' e w'
 have ae:=ZbW b;by_cases E:0<=a∧a<=255
 ·have H:=Qc (zah E)
  have M:Hid (¬ (a<0∨255<a)):=by
   show ¬ (a<0∨255<a);omega
  clear E;by_cases hb:b<0
  ·have c:Hid (L'=l∧n'=-1):=by
    have h:=D.o;rw[zaa M.o,zab hb] at h
    injection h with k d
    injection k with _ h3
    exact⟨h3.symm,d.symm⟩
   go_enter func179,ntmps179
   go_wp2_with fail
   refine(I.o _ _ _).mono ?_;rintro e W1 ⟨a1,b1,rfl,u,t,f⟩;have x:=Qc (Mv.ofBelow f (.slice ao l.length cap));have m:=Qc (T.o.below f zL);clear f
   go_wp2_with fail
   refine(P.o _ _ _ _ _ _ u t).mono ?_;rintro e G ⟨rfl,rfl⟩;rw[H.o];go_wp2;go_ret2;exact⟨_,Zh c.o.2.symm,by rw[c.o.1];exact m.o,x.o⟩
  ·go_enter func179,ntmps179
   go_wp2_with fail
   refine(I.o _ _ _).mono ?_;rintro e W1 ⟨a1,b1,rfl,u,t,f⟩;have x:=Qc (Mv.ofBelow f (.slice ao l.length cap));have m:=Qc (T.o.below f zL);clear f
   go_wp2_with fail
   refine(P.o _ _ _ _ _ _ u t).mono ?_;rintro e G ⟨rfl,rfl⟩;rw[H.o];clear u t
   go_wp2_with fail
   refine(ac.o _ m.o).mono ?_;rintro e G ⟨rfl,K⟩;have F:=Qc (x.o.trans (Mv.ofBelow K _));have Q:=Qc (m.o.below K zL);have ab:B<=G.heap.size:=zas hB F.o.size;clear K x m;by_cases i:Zw a l=false∧l.length=128
   ·have c:Hid (L'=l∧n'=-2):=by
     have h:=D.o;rw[zaa M.o,zaa (show ¬ b<0 by omega),zab ⟨(Zbx a l).2 i.1,i.2⟩] at h
     injection h with k d
     injection k with _ h3
     exact⟨h3.symm,d.symm⟩
    have R:=Qc (zah i.2);rw[i.1];clear i
    go_wp2_with fail
    refine(Z.o _).mono ?_;rintro e N ⟨rfl,rfl⟩;rw[R.o];go_wp2;go_ret2;exact⟨_,Zh c.o.2.symm,by rw[c.o.1];exact Q.o,F.o⟩
   ·have c:Hid (L'=Xg a (Jp (Yz a l+Jp b)) false l∧n'=Jp (Yz a l+Jp b)):=by
     have h:=D.o;rw[zaa M.o,zaa (show ¬ b<0 by omega),zaa (fun h=>i ⟨(Zbx a l).1 h.1,h.2⟩)] at h
     injection h with k d
     injection k with _ h3
     exact⟨h3.symm,d.symm⟩
    generalize Yz a l=y at *
    cases hh:Zw a l
    ·have R:=Qc (zae (fun h=>i ⟨hh,h⟩))
     clear i hh
     go_wp2_with fail
     refine(Z.o _).mono ?_;rintro e N ⟨rfl,rfl⟩;rw[R.o]
     go_wp2_with(first | (go_at_call 173;refine(X.o _ _).mono ?_;rintro e w3 ⟨rfl,rfl⟩) | (go_at_call 178;refine(Y.o _ _ Q.o ab).mono ?_;rintro e N ⟨v3,rfl,z,A⟩;have U:=Qc (F.o.trans A);have V:=Qc z;clear z A))
     go_ret2;exact⟨_,Zh c.o.2.symm,by rw[c.o.1];exact V.o,U.o⟩
    ·clear i hh
     go_wp2_with(first | (go_at_call 173;refine(X.o _ _).mono ?_;rintro e w3 ⟨rfl,rfl⟩) | (go_at_call 178;refine(Y.o _ _ Q.o ab).mono ?_;rintro e N ⟨v3,rfl,z,A⟩;have U:=Qc (F.o.trans A);have V:=Qc z;clear z A))
     go_ret2;exact⟨_,Zh c.o.2.symm,by rw[c.o.1];exact V.o,U.o⟩
 ·have H:=Qc (zae E)
  have c:Hid (L'=l∧n'=-1):=by
   have h:=D.o;rw[zab (show a<0∨255<a by omega)] at h
   injection h with k d
   injection k with _ h3
   exact⟨h3.symm,d.symm⟩
  clear E
  go_enter func179,ntmps179
  go_wp2_with fail
  refine(I.o _ _ _).mono ?_;rintro e W1 ⟨a1,b1,rfl,u,t,f⟩;have x:=Qc (Mv.ofBelow f (.slice ao l.length cap));have m:=Qc (T.o.below f zL);clear f
  go_wp2_with fail
  refine(P.o _ _ _ _ _ _ u t).mono ?_;rintro e G ⟨rfl,rfl⟩;rw[H.o];go_wp2;go_ret2;exact⟨_,Zh c.o.2.symm,by rw[c.o.1];exact m.o,x.o⟩
theorem Zxf (v:Value) (l:List Int) (aa a b:Int) (m:Bool) (g:Int) (B:Nat) (w:World) (ho:Qs w B v l) (Z:B<=w.heap.size) (X:Qu 0 (-1) l) (aH:l.length<=128):
 Calls prog 180 #[v,.int .i64 a,.int .i64 b] w fun e w'=>ZdS B w v (Zbl ⟨5,l,m,g⟩ ⟨aa,a,b⟩).1.L (Zbl ⟨5,l,m,g⟩ ⟨aa,a,b⟩).2 e w':=by
 have hi:=ZaB (by decide) (by decide) X
 have HO:=Qc ho;have HW:=Qc (fun p q W=>Gz p q W)
 have HS:=Qc (fun n l2 d a2 b2 W p1 p2=>Zdu n l2 d a2 b2 W p1 p2)
 have ag:Hid (∀ k W,Qs W B v l->Calls prog 175 #[v,.int .i64 k] W fun e w'=>e=.returned (.tuple #[.int .i64 (Yz k l),.bool (Zw k l)])∧Below W.heap.size W w'):=fun k W h=>by
  rw[Zhp];exact ZgX v l k _ _ W (h.rd hi) X (by omega)
 obtain⟨ao,cap,rfl⟩:=ho.shape;have am:Hid (∀ W,Calls prog 177 #[.slice ao l.length cap] W fun e w'=>e=.returned (.bool (decide (l.length=128)))∧w'=W):=fun W=>ZlC ao l.length cap W
 obtain⟨L',n',hE⟩:∃ L' n',Zbl ⟨5,l,m,g⟩ ⟨aa,a,b⟩=(⟨5,L',m,g⟩,n'):=by
  unfold Zbl
  repeat' split
  all_goals exact⟨_,_,rfl⟩
 rw[hE];have HE:=Qc hE;have U:=Qc X;have HI:=Qc hi;clear hE ho X hi;show Calls prog _ _ w fun e w'=>ZdS B w (.slice ao l.length cap) L' n' e w'
 by_cases Y:0<=a∧a<=65535
 ·have V:=Qc (zah Y)
  obtain⟨aq,aK⟩:=Y;by_cases hb:b<0
  ·have c:Hid (L'=l∧n'=0):=by
    have h:=HE.o;unfold Zbl at h;rw[zab (.inr (.inr hb))] at h
    injection h with f d
    injection f with _ h3
    exact⟨h3.symm,d.symm⟩
   go_enter func180,ntmps180
   go_wp2_with fail
   refine(HW.o _ _ _).mono ?_;rintro e W1 ⟨a1,b1,rfl,G,D,j⟩;have J:=Qc (Mv.ofBelow j (.slice ao l.length cap));have u:=Qc (HO.o.below j zL);clear j
   go_wp2_with fail
   refine(HS.o _ _ _ _ _ _ G D).mono ?_;rintro e W2 ⟨rfl,rfl⟩;rw[V.o];go_wp2;go_ret2;exact⟨_,Zh c.o.2.symm,by rw[c.o.1];exact u.o,J.o⟩
  ·have aL:0<=b:=by omega
   have t:Hid ((if J1 (a / 256) 0 l<0∨Yz (a / 256) l<b then((⟨5,l,m,g⟩:St),(0:Int)) else if a / 256=a % 256 then(⟨5,l,m,g⟩,1) else if(J1 (a % 256) 0 l<0∧l.length=128)∨1099511627776<Yz (a % 256) l+b then(⟨5,l,m,g⟩,0) else(⟨5,Xg (a % 256) (Yz (a % 256) l+b) false (Xg (a / 256) (Yz (a / 256) l-b) false l),m,g⟩,1))=(⟨5,L',m,g⟩,n')):=by
    have h:=HE.o;unfold Zbl at h;rw[zaa (by simp;omega)] at h
    exact h
   clear HE hb;have ax:Hid (a.tdiv 256=a / 256):=Int.tdiv_eq_ediv_of_nonneg aq;have ay:Hid (a.tmod 256=a % 256):=zco aq;have aC:0<=a / 256:=by omega
   have az:a / 256<=255:=by omega
   have aE:0<=a % 256:=by omega
   have aF:a % 256<=255:=by omega
   have aD:=ZaW U.o (a / 256);have aG:=ZaW U.o (a % 256);obtain⟨F,hF⟩:=zgy (a / 256);obtain⟨T,hT⟩:=zgy (a % 256);rw[<-hF] at ax t aC az aD;rw[<-hT] at ay t aE aF aG;clear hF hT;have aJ:=ax.o;have aI:=ay.o
   go_enter func180,ntmps180
   go_wp2_with fail
   refine(HW.o _ _ _).mono ?_;rintro e W1 ⟨a1,b1,rfl,G,D,j⟩;have J:=Qc (Mv.ofBelow j (.slice ao l.length cap));have u:=Qc (HO.o.below j zL);clear j
   go_wp2_with fail
   refine(HS.o _ _ _ _ _ _ G D).mono ?_;rintro e W2 ⟨rfl,rfl⟩;rw[V.o];clear G D
   go_wp2_with fail
   refine(ag.o _ _ u.o).mono ?_;rintro e W2 ⟨rfl,al⟩;have A:=Qc (J.o.trans (Mv.ofBelow al _));have E:=Qc (u.o.below al zL);have aA:B<=W2.heap.size:=zas Z A.o.size;clear al J u
   cases hh:Zw F l
   ·have c:Hid (L'=l∧n'=0):=by
     have h:=t.o;rw[zab (.inl ((Zbx F l).2 hh))] at h
     injection h with f d
     injection f with _ h3
     exact⟨h3.symm,d.symm⟩
    clear hh;go_wp2;go_ret2;exact⟨_,Zh c.o.2.symm,by rw[c.o.1];exact E.o,A.o⟩
   ·have I:Hid (¬ J1 F 0 l<0):=fun h=>by rw[(Zbx F l).1 h] at hh;cases hh
    clear hh;by_cases ac:Yz F l<b
    ·have c:Hid (L'=l∧n'=0):=by
      have h:=t.o;rw[zab (.inr ac)] at h
      injection h with f d
      injection f with _ h3
      exact⟨h3.symm,d.symm⟩
     clear I;go_wp2;go_ret2;exact⟨_,Zh c.o.2.symm,by rw[c.o.1];exact E.o,A.o⟩
    ·by_cases C:F=T
     ·have hq:(F == T)=true:=za8.2 C
      have c:Hid (L'=l∧n'=1):=by
       have h:=t.o;rw[zaa (fun h=>h.elim I.o ac),zab C] at h
       injection h with f d
       injection f with _ h3
       exact⟨h3.symm,d.symm⟩
      clear I C;go_wp2;go_ret2;exact⟨_,Zh c.o.2.symm,by rw[c.o.1];exact E.o,A.o⟩
     ·have hq:(F == T)=false:=zad.2 C
      have ad:=Qc C;have ab:=Qc ac;clear C
      go_wp2_with fail
      refine(ag.o _ _ E.o).mono ?_;rintro e W3 ⟨rfl,af⟩;have H:=Qc (A.o.trans (Mv.ofBelow af _));have M:=Qc (E.o.below af zL);have ap:B<=W3.heap.size:=zas Z H.o.size;clear af A E aA;by_cases i:Zw T l=false∧l.length=128
      ·have R:=Qc (zah i.2)
       have c:Hid (L'=l∧n'=0):=by
        have h:=t.o;rw[zaa (fun h=>by have:=I.o;have:=ab.o;omega),zaa ad.o,zab (.inl ⟨(Zbx T l).2 i.1,i.2⟩)] at h
        injection h with f d
        injection f with _ h3
        exact⟨h3.symm,d.symm⟩
       rw[i.1];clear i
       go_wp2_with fail
       refine(am.o _).mono ?_;rintro e W4 ⟨rfl,rfl⟩;rw[R.o];go_wp2;go_ret2;exact⟨_,Zh c.o.2.symm,by rw[c.o.1];exact M.o,H.o⟩
      ·by_cases ar:1099511627776<Yz T l+b
       ·have c:Hid (L'=l∧n'=0):=by
         have h:=t.o;rw[zaa (fun h=>by have:=I.o;have:=ab.o;omega),zaa ad.o,zab (.inr ar)] at h
         injection h with f d
         injection f with _ h3
         exact⟨h3.symm,d.symm⟩
        cases hh:Zw T l
        ·have R:=Qc (zae (fun h=>i ⟨hh,h⟩))
         clear i hh
         go_wp2_with fail
         refine(am.o _).mono ?_;rintro e W4 ⟨rfl,rfl⟩;rw[R.o];go_wp2;go_ret2;exact⟨_,Zh c.o.2.symm,by rw[c.o.1];exact M.o,H.o⟩
        ·clear i hh
         go_wp2;go_ret2;exact⟨_,Zh c.o.2.symm,by rw[c.o.1];exact M.o,H.o⟩
       ·have aB:=Qc ar
        have c:Hid (L'=Xg T (Yz T l+b) false (Xg F (Yz F l-b) false l)∧n'=1):=by
         have h:=t.o;rw[zaa (fun h=>by have:=I.o;have:=ab.o;omega),zaa ad.o,zaa (fun h=>h.elim (fun x=>i ⟨(Zbx T l).1 x.1,x.2⟩) (fun x=>by have:=aB.o;omega))] at h
         injection h with f d
         injection f with _ h3
         exact⟨h3.symm,d.symm⟩
        have an:Hid (Qu 0 (-1) (Xg F (Yz F l-b) false l)):=Zbc F _ 0 (by omega) (by omega) az l (-1) U.o (by omega)
        have av:Hid ((Xg F (Yz F l-b) false l).length<=1000000):=by
         have:=Zgd F (Yz F l-b) l false;show(Xg F (Yz F l-b) false l).length<=1000000;omega
        have au:Hid (∀ W,Qs W B (.slice ao l.length cap) l->B<=W.heap.size->Calls prog 178 #[.slice ao l.length cap,.int .i64 F,.int .i64 (Yz F l-b)] W fun e w'=>∃ v',e=.returned v'∧Qs w' B v' (Xg F (Yz F l-b) false l)∧Mv W w' (.slice ao l.length cap) v'):=fun W f d=>ZgY _ l F _ _ _ B W f d HI.o U.o (by omega)
        have aw:Hid (∀ S W,Qs W B S (Xg F (Yz F l-b) false l)->B<=W.heap.size->Calls prog 178 #[S,.int .i64 T,.int .i64 (Yz T l+b)] W fun e w'=>∃ v',e=.returned v'∧Qs w' B v' (Xg T (Yz T l+b) false (Xg F (Yz F l-b) false l))∧Mv W w' S v'):=fun S W f d=>ZgY S _ T _ _ _ B W f d (ZaB (by decide) (by decide) an.o) an.o av.o
        generalize Xg T (Yz T l+b) false (Xg F (Yz F l-b) false l)=L2 at *;generalize Xg F (Yz F l-b) false l=L1 at *;generalize Yz F l=y at *;generalize Yz T l=z at *;clear an av t ag
        cases hh:Zw T l
        ·have R:=Qc (zae (fun h=>i ⟨hh,h⟩))
         clear i hh
         go_wp2_with fail
         refine(am.o _).mono ?_;rintro e W4 ⟨rfl,rfl⟩;rw[R.o]
         go_wp2_with fail
         refine(au.o _ M.o ap).mono ?_;rintro e W5 ⟨v5,rfl,K,Q⟩;have O:=Qc (H.o.trans Q);have ak:=Qc K;have ae:B<=W5.heap.size:=zas Z O.o.size;clear K Q
         go_wp2_with fail
         refine(aw.o _ _ ak.o ae).mono ?_;rintro e W6 ⟨v6,rfl,P,N⟩;have ai:=Qc (O.o.trans N);have aj:=Qc P;clear P N;go_wp2;go_ret2;exact⟨_,Zh c.o.2.symm,by rw[c.o.1];exact aj.o,ai.o⟩
        ·clear i hh
         go_wp2_with fail
         refine(au.o _ M.o ap).mono ?_;rintro e W5 ⟨v5,rfl,K,Q⟩;have O:=Qc (H.o.trans Q);have ak:=Qc K;have ae:B<=W5.heap.size:=zas Z O.o.size;clear K Q
         go_wp2_with fail
         refine(aw.o _ _ ak.o ae).mono ?_;rintro e W6 ⟨v6,rfl,P,N⟩;have ai:=Qc (O.o.trans N);have aj:=Qc P;clear P N;go_wp2;go_ret2;exact⟨_,Zh c.o.2.symm,by rw[c.o.1];exact aj.o,ai.o⟩
 ·have V:=Qc (zae Y)
  have c:Hid (L'=l∧n'=0):=by
   have h:=HE.o;unfold Zbl at h;rw[zab (show a<0∨65535<a∨b<0 by omega)] at h
   injection h with f d
   injection f with _ h3
   exact⟨h3.symm,d.symm⟩
  clear Y
  go_enter func180,ntmps180
  go_wp2_with fail
  refine(HW.o _ _ _).mono ?_;rintro e W1 ⟨a1,b1,rfl,G,D,j⟩;have J:=Qc (Mv.ofBelow j (.slice ao l.length cap));have u:=Qc (HO.o.below j zL);clear j
  go_wp2_with fail
  refine(HS.o _ _ _ _ _ _ G D).mono ?_;rintro e W2 ⟨rfl,rfl⟩;rw[V.o];go_wp2;go_ret2;exact⟨_,Zh c.o.2.symm,by rw[c.o.1];exact u.o,J.o⟩
theorem ZuS (a:Qu least (-1) l) (h:Zw key l=true):0<=key∧key<=255:=by
 unfold Zw at h
 cases hg:Yh key l with
 | none=>rw[hg] at h;simp at h
 | some x=>
  have:=Zlh a hg;omega
theorem Zpp (v:Value) (l:List Int) (o:Opn) (c:Bool) (g:Int) (B:Nat) (w:World) (C:Qs w B v l) (O:B<=w.heap.size) (i:Qu 0 (-1) l) (J:l.length<=128):
 Calls prog 128 #[v,opV o] w fun e w'=>ZdS B w v (Yd ⟨5,l,c,g⟩ o).1.L (Yd ⟨5,l,c,g⟩ o).2 e w':=by
 obtain⟨d,a,b⟩:=o;have x:=ZaB (by decide) (by decide) i
 have p:=Qc C;have D:Hid (∀ X,Mv w (w.alloc X) v v):=fun X=>Mv.alloc w v X
 show Calls prog _ #[_,.agg #[.int .i64 d,.int .i64 a,.int .i64 b]] w _;by_cases u:d=7
 ·subst u
  have F:Hid (∀ W,Qs W B v l->Calls prog 175 #[v,.int .i64 a] W fun e w'=>e=.returned (.tuple #[.int .i64 ((Yh a l).getD 0),.bool (Zw a l)])∧Below W.heap.size W w'):=fun W h=>ZgX v l a _ _ W (h.rd x) i (by omega)
  have j:Hid (Yd ⟨5,l,c,g⟩ ⟨7,a,b⟩=(⟨5,l,c,g⟩,Zrv a l)):=by
   refine Qc ?_;unfold Yd;rw[zaa (by simp),zaa (by simp)]
   by_cases I:a<0∨255<a
   ·rw[zab I]
    have k:Zw a l=false:=by
     cases h:Zw a l
     ·rfl
     ·have:=ZuS i h
      omega
    rw[ZlD k]
   ·rw[zaa I,zab rfl]
  rw[j.o];clear j C i x
  cases k:Zw a l
  ·have A:=Qc (ZlD k)
   rw[A.o];rw[k] at F;clear A k;generalize (Yh a l).getD 0=y at *
   go_enter func128,ntmps128
   go_wp2_with fail
   refine(F.o _ (p.o.alloc _)).mono ?_;rintro e H ⟨rfl,f⟩;have q:=Qc ((D.o _).trans (Mv.ofBelow f _));have m:=Qc ((p.o.alloc _).below f zL);clear f;go_wp2;go_ret2;exact⟨_,rfl,m.o,q.o⟩
  ·have A:=Qc (ZuR k)
   rw[A.o];rw[k] at F;clear A k;generalize (Yh a l).getD 0=y at *
   go_enter func128,ntmps128
   go_wp2_with fail
   refine(F.o _ (p.o.alloc _)).mono ?_;rintro e H ⟨rfl,f⟩;have q:=Qc ((D.o _).trans (Mv.ofBelow f _));have m:=Qc ((p.o.alloc _).below f zL);clear f;go_wp2;go_ret2;exact⟨_,rfl,m.o,q.o⟩
 ·have K:(d == 7)=false:=zad.2 u
  by_cases E:d=8
  ·subst E
   have G:Hid (∀ X,Calls prog 179 #[v,.int .i64 a,.int .i64 b] (w.alloc X) fun e w'=>ZdS B (w.alloc X) v (Yd ⟨5,l,c,g⟩ ⟨8,a,b⟩).1.L (Yd ⟨5,l,c,g⟩ ⟨8,a,b⟩).2 e w'):=fun X=>Zpo v l a b c g B (w.alloc X) (p.o.alloc X) (by simp;omega) i J
   generalize (Yd ⟨5,l,c,g⟩ ⟨8,a,b⟩).1.L=L' at *;generalize (Yd ⟨5,l,c,g⟩ ⟨8,a,b⟩).2=n at *;clear C x i u K
   go_enter func128,ntmps128
   go_wp2_with fail
   refine(G.o _).mono ?_;rintro e H ⟨N,rfl,z,f⟩;have m:=Qc z;have q:=Qc ((D.o _).trans f);clear z f;go_wp2;go_ret2;exact⟨_,rfl,m.o,q.o⟩
  ·have P:(d == 8)=false:=zad.2 E
   by_cases t:d=9
   ·have j:Hid (Yd ⟨5,l,c,g⟩ ⟨d,a,b⟩=Zbl ⟨5,l,c,g⟩ ⟨d,a,b⟩):=zab t
    rw[j.o];have M:(d == 9)=true:=za8.2 t;have G:Hid (∀ X,Calls prog 180 #[v,.int .i64 a,.int .i64 b] (w.alloc X) fun e w'=>ZdS B (w.alloc X) v (Zbl ⟨5,l,c,g⟩ ⟨d,a,b⟩).1.L (Zbl ⟨5,l,c,g⟩ ⟨d,a,b⟩).2 e w'):=fun X=>Zxf v l d a b c g B (w.alloc X) (p.o.alloc X) (by simp;omega) i J
    generalize (Zbl ⟨5,l,c,g⟩ ⟨d,a,b⟩).1.L=L' at *;generalize (Zbl ⟨5,l,c,g⟩ ⟨d,a,b⟩).2=n at *;clear C x i u E t j
    go_enter func128,ntmps128
    go_wp2_with fail
    refine(G.o _).mono ?_;rintro e H ⟨N,rfl,z,f⟩;have m:=Qc z;have q:=Qc ((D.o _).trans f);clear z f;go_wp2;go_ret2;exact⟨_,rfl,m.o,q.o⟩
   ·have M:(d == 9)=false:=zad.2 t
    have j:Hid (Yd ⟨5,l,c,g⟩ ⟨d,a,b⟩=(⟨5,l,c,g⟩,0)):=by
     refine Qc ?_;unfold Yd;rw[zaa t,zab ⟨u,E⟩]
    rw[j.o];clear C x i u E t j
    go_enter func128,ntmps128
    go_wp2;go_ret2;exact⟨_,rfl,p.o.alloc _,D.o _⟩
theorem Zxg (kind:Int) (ao:Option Addr) (n cap:Nat) (S:Bool) (g a:Int) (w:World):
 Calls prog 123 #[.agg #[.int .i64 kind,.slice ao n cap,.bool S,.int .i64 g],.int .i64 a] w fun e w'=>e=.returned (.agg #[.int .i64 kind,.slice ao n cap,.bool true,.int .i64 (if 0<=a∧a<=2 then a else g)])∧Below w.heap.size w w':=by
 have F:=Qc (fun p q W=>Gz p q W)
 have G:=Qc (fun n Z O X Q W M K=>Zdu n Z O X Q W M K)
 have k:Hid (∀ x y,Below w.heap.size w ((w.alloc x).alloc y)):=fun x y=>((zac _ _).alloc zL x).alloc (by simp) y
 by_cases f:0<=a∧a<=2
 ·rw[zab f]
  have C:=Qc (zah f);clear f
  go_enter func123,ntmps123
  go_wp2_with fail
  refine(F.o _ _ _).mono ?_;rintro e d ⟨z,u,rfl,j,i,c⟩;have b:ZoK d w.heap.size _ _:=(ZoK.made w _ _).below c (by simp)
  have I:=(b.s 0).1;have Y:=(b.s 1).1;have J:=(b.s 2).1;have L:=(b.s 3).1;have N:=(b.s 2).2;have V:=(b.s 3).2;have B:=(b.r 0).1;have t:=(b.r 1).1;have E:=(b.r 2).1;have D:=(b.r 3).1;have H:=(b.r 0).2;have R:=(b.r 1).2;have T:=(b.r 2).2;have U:=(b.r 3).2;have A:=Qc ((k.o _ _).trans (c.mono (k.o _ _).size));have m:Hid (∀ x,(d.setCell ⟨w.heap.size,2,none⟩ x).cell? ⟨z,0,none⟩=some (.int .i64 0)):=fun x=>(zbh _ _ _ _ (by simp)).trans j
  have l:Hid (∀ x,(d.setCell ⟨w.heap.size,2,none⟩ x).cell? ⟨u,0,none⟩=some (.int .i64 2)):=fun x=>(zbh _ _ _ _ (by simp)).trans i
  clear c b j i
  go_wp2_with fail
  refine(G.o _ _ _ _ _ _ (m.o _) (l.o _)).mono ?_;rintro e P ⟨rfl,rfl⟩;rw[C.o];go_wp2;refine zap (v:=.agg #[.int .i64 kind,.slice ao n cap,.bool true,.int .i64 a]) (by simp[results,Tryz.results123,go_sem,B,t,E,D]) rfl ?_
  exact⟨rfl,((((((A.o.setCell zL _).setCell zL _).setCell (zdi _) _).setCell (zdi _) _).setCell (zdi _) _).setCell (zdi _) _)⟩
 ·rw[zaa f]
  have C:=Qc (zae f);clear f
  go_enter func123,ntmps123
  go_wp2_with fail
  refine(F.o _ _ _).mono ?_;rintro e d ⟨z,u,rfl,j,i,c⟩;have b:ZoK d w.heap.size _ _:=(ZoK.made w _ _).below c (by simp)
  have I:=(b.s 0).1;have Y:=(b.s 1).1;have J:=(b.s 2).1;have L:=(b.s 3).1;have N:=(b.s 2).2;have V:=(b.s 3).2;have B:=(b.r 0).1;have t:=(b.r 1).1;have E:=(b.r 2).1;have D:=(b.r 3).1;have H:=(b.r 0).2;have R:=(b.r 1).2;have T:=(b.r 2).2;have U:=(b.r 3).2;have A:=Qc ((k.o _ _).trans (c.mono (k.o _ _).size));have m:Hid (∀ x,(d.setCell ⟨w.heap.size,2,none⟩ x).cell? ⟨z,0,none⟩=some (.int .i64 0)):=fun x=>(zbh _ _ _ _ (by simp)).trans j
  have l:Hid (∀ x,(d.setCell ⟨w.heap.size,2,none⟩ x).cell? ⟨u,0,none⟩=some (.int .i64 2)):=fun x=>(zbh _ _ _ _ (by simp)).trans i
  clear c b j i
  go_wp2_with fail
  refine(G.o _ _ _ _ _ _ (m.o _) (l.o _)).mono ?_;rintro e P ⟨rfl,rfl⟩;rw[C.o];go_wp2;refine zap (v:=.agg #[.int .i64 kind,.slice ao n cap,.bool true,.int .i64 g]) (by simp[results,Tryz.results123,go_sem,B,t,E,D]) rfl ?_
  exact⟨rfl,(((((A.o.setCell zL _).setCell (zdi _) _).setCell (zdi _) _).setCell (zdi _) _).setCell (zdi _) _)⟩
end Go.Proofs.YtnahjngbneicaaaGreatDoor
