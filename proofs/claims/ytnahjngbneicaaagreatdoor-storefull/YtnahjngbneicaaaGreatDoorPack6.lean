import Derived.Test.YtnahjngbneicaaaGreatDoorPack5
namespace Go.Proofs.YtnahjngbneicaaaGreatDoor
set_option linter.unusedSimpArgs false
open _root_.Go.Proofs.Tryz
open List (length_append)
set_option maxHeartbeats 4000000
set_option maxRecDepth 100000
open Go.RowKit
variable {l:List Int} {a key least n p:Int} {w w':World} {B B' C b o:Nat} {cs:Array Value} {t:List Ent} {v:Value} {r:Rec}
abbrev zax:=@Go.bodyPost_ret
abbrev zci:=@List.length_drop
abbrev zcx:=@Int.tmod_eq_emod_of_nonneg
abbrev zdy:=@of_decide_eq_false
abbrev zeg:=@Bool.decide_and
abbrev zf7:=@List.map_nil
abbrev zgp:=@List.size_toArray
abbrev zgu:=@Go.Lib.run_append_grow_zeros
theorem ZnF (g cap:Nat) (l:List Ent) (B:Nat) (w:World) (ho:Xp w B (.slice (some ⟨g,0,none⟩) l.length cap) l) (hB:B<=w.heap.size) (i:Nat) (hi:i<l.length) (ap:cap<l.length+1) (aq:l.length<=100000) (e:Ent) (I:Int) (hI:I=(i:Nat)) (N:Nat) (hN:N=w.heap.size):
 Calls prog 88 #[.slice (some ⟨g,0,none⟩) l.length cap,.int .i64 I,.slice (some ⟨N,0,none⟩) 1 1] (w.alloc (.cells (Gw e) 85)) fun x w'=>ZzY w B (l.take i++(e::l.drop i)) x w':=by
 subst hI;rcases ho.row with ⟨f,-⟩ | ⟨g',aL,cur,f,an,Z,hg,hn,hm,hs,R⟩
 ·cases f
 injection f with f _ h3
 injection f with f
 injection f with f
 subst f h3;clear ho;obtain⟨i0,X,V,aa,t⟩:=zbx Zhl;have hv:(w.alloc (.cells (Gw e) 85)).heap[N]?=some (.cells (Gw e) 85 (0,0)):=by rw[hN];exact zak w _
 have P:(w.alloc (.cells (Gw e) 85)).heap[g]?=some (.cells cur 85 (0,0)):=(zav _ _ _ Z).trans hg;have U:Hid (Below B w (w.alloc (.cells (Gw e) 85))):=(zac _ _).alloc hB _;have ak:(w.alloc (.cells (Gw e) 85)).heap.size=w.heap.size+1:=by simp
 generalize w.alloc (.cells (Gw e) 85)=W at *;have F:(Qg [e]).length=3:=Xk [e];have T:(Qg (l.drop i)).length=(l.length-i)*3:=by rw[Xk,zci]
 have p:((Qg l).take (i*3)).length=i*3:=by rw[zb5,Xk];omega
 have ag:(Builtin.firstCells i0.size i (.slice (some ⟨g,0,none⟩) i cap)).run prog W.drew=.ok ((Qg l).take (i*3)).toArray W.drew:=by
  rw[aa]
  exact run_firstCells_some W.drew 3 i ⟨g,0,none⟩ i cap ((Qg l).take (i*3)) p (fun j v a=>by
   have D:j<i*3:=by rw[<-p];exact(zbr.1 a).1
   rw[zcc D] at a;rw[zbn,za9,zas W.drew g j _ _ _ P,R j (by omega)]
   exact a)
 have H:i+(l.length+1-i)=l.length+1:=by omega
 have aj:(l.length:Int)+1-(i:Int)=((l.length+1-i:Nat):Int):=by omega
 obtain⟨G,y⟩:=zg7 (grownCap W (l.length+1) cap 85);obtain⟨b,z⟩:=zg7 (((Qg l).take (i*3)).toArray++Builtin.zeroCells (Value.agg #[.int .i64 0,.int .i64 0,.int .i64 0]).cells (l.length+1-i)++Builtin.zeroCells (Value.agg #[.int .i64 0,.int .i64 0,.int .i64 0]).cells (G-(l.length+1)))
 have al:∀ ty,(Builtin.append_ #[39,3] ty #[.slice (some ⟨g,0,none⟩) i cap,.int .i64 ((l.length:Int)+1-(i:Int))]).run prog W=.ok (.slice (some ⟨W.heap.size,0,none⟩) (l.length+1) G) ((W.alloc (.cells b 85)).drew):=fun ty=>by
  have h:=zgu W 39 3 ty 85 i0 _ .i64 .i64 underlying39 underlying3 X V (some ⟨g,0,none⟩) i cap _ ag (l.length+1-i) (by omega) (by omega) (by omega) (by omega) (by rw[t];omega) (by rw[t,H];exact growslice_fits_wide ap (by omega))
  rw[H,<-y,<-z,<-aj] at h;exact h
 have ao:l.length+1<=G:=by rw[y];exact zgj W _ _ _
 have Y:G<=maxLen:=by rw[y];exact zey W (l.length+1) cap 85 (by unfold maxLen;omega)
 have S:∀ n,(Builtin.zeroCells (Value.agg #[.int .i64 0,.int .i64 0,.int .i64 0]).cells n).size=n*3:=fun n=>by
  rw[<-Array.length_toList,ZkC,Gq]
 have ab:b.size=G*3:=by
  rw[z,Array.size_append,Array.size_append,S,S,zgp,p];omega
 have af:∀ j,j<i*3->b[j]?=(Qg l)[j]?:=fun j a=>by
  rw[z,Array.append_assoc,zdw (by rw[zgp,p];exact a),zef,zcc a]
 have u:(W.alloc (.cells b 85)).drew.heap[W.heap.size]?=some (.cells b 85 (0,0)):=zak W _;have O:(W.alloc (.cells b 85)).drew.heap[N]?=some (.cells (Gw e) 85 (0,0)):=(zav W _ N (by omega)).trans hv
 have L:(W.alloc (.cells b 85)).drew.heap[g]?=some (.cells cur 85 (0,0)):=(zav W _ g (by omega)).trans P
 have Q:Hid (Below B w (W.alloc (.cells b 85)).drew):=ZZ (Zio (U.o.alloc (by omega) _))
 have A:B<=W.heap.size:=by omega
 have am:N≠W.heap.size:=by omega
 have ac:g≠W.heap.size:=by omega
 obtain⟨d,M⟩:=zg7 ((W.alloc (.cells b 85)).drew);rw[<-M] at u O L Q
 have ai:∀ ty m,(Builtin.copy_ #[39,39] ty #[.slice (some ⟨W.heap.size,i*3,none⟩) (l.length+1-i) m,.slice (some ⟨N,0,none⟩) 1 1]).run prog d=.ok (goInt (Nat.min 1 (l.length+1-i))) (d.setCells W.heap.size (i*3) (Qg [e])):=fun ty m=>
  ZaP d _ _ ty 85 3 W.heap.size (i*3) (l.length+1-i) m ⟨N,0,none⟩ 1 1 (Qg [e]) underlying39 Zhm (by rw[F];simp only [zg4];split <;> omega)
   (fun j v a=>by
    rw[zbn,za9,zas d N _ _ _ _ O]
    have:(Qg [e])[j]?=(Gw e)[j]?:=by
     have D:j<3:=by rw[<-F];exact(zbr.1 a).1
     have:=Z0 [e] 0 j (by simp) D
     rwa [zc7,za9] at this
    rw[<-this]
    exact a)
   (fun j a=>by
    rw[zas d _ _ _ _ _ u,zd2 (by omega)]
    rfl) (fun j a=>zbc d _ _ _ _ u) (Zac _)
 obtain⟨c,q⟩:=zg7 ((d.setCells W.heap.size (i*3) (Qg [e])).drew);have C:c.heap[W.heap.size]?=some (.cells (Zfu b (i*3) (Qg [e])) 85 (0,0)):=by rw[q];exact X3 _ _ _ _ d b u
 have ae:c.heap[g]?=some (.cells cur 85 (0,0)):=by
  rw[q];exact(Zas W.heap.size _ _ d g ac).trans L
 have ad:Hid (Below B w c):=ZZ (by rw[q];exact Zio (G8 A _ _ _ Q.o))
 have E:∀ ty m sc,(Builtin.copy_ #[39,39] ty #[.slice (some ⟨W.heap.size,(i+1)*3,none⟩) (l.length-i) m,.slice (some ⟨g,i*3,none⟩) (l.length-i) sc]).run prog c=.ok (goInt (Nat.min (l.length-i) (l.length-i))) (c.setCells W.heap.size ((i+1)*3) (Qg (l.drop i))):=fun ty m sc=>
  ZaP c _ _ ty 85 3 W.heap.size ((i+1)*3) (l.length-i) m ⟨g,i*3,none⟩ (l.length-i) sc (Qg (l.drop i)) underlying39 Zhm (by rw[T];simp only [zg4];split <;> omega)
   (fun j v a=>by
    have D:j<(l.length-i)*3:=by rw[<-T];exact(zbr.1 a).1
    rw[zbn,zas c g _ _ _ _ ae,R _ (by omega)]
    rw[Zcf,zex] at a
    exact a)
   (fun j a=>by
    rw[zas c _ _ _ _ _ C,zd2 (by rw[Xr];omega)]
    rfl) (fun j a=>zbc c _ _ _ _ C) (Zac _)
 have J:Hid (ZzY w B (l.take i++(e::l.drop i)) (.returned (.slice (some ⟨W.heap.size,0,none⟩) (l.length+1) G)) (c.setCells W.heap.size ((i+1)*3) (Qg (l.drop i)))):=ZZ (by
  refine⟨_,rfl,Xp.ofRow (ZaZ l i (by omega) e).symm A (X3 _ _ _ _ c _ C) (by rw[ZaZ l i (by omega) e];exact ao) Y (by rw[Xr,Xr];exact ab) (fun j a=>?_),?_⟩
  ·rw[ZaZ l i (by omega) e] at a
   refine ZkF l i (by omega) e (fun j=>(Zfu (Zfu b (i*3) (Qg [e])) ((i+1)*3) (Qg (l.drop i)))[j]?) (fun k K=>?_) (fun k K=>?_) (fun k K=>?_) j a
   ·show(Zfu (Zfu b (i*3) (Qg [e])) ((i+1)*3) (Qg (l.drop i)))[k]?=_
    rw[Ys _ _ _ _ (by rw[Xr];omega),zaa (by omega),Ys _ _ _ _ (by omega),zaa (by omega)]
    exact af k K
   ·show(Zfu (Zfu b (i*3) (Qg [e])) ((i+1)*3) (Qg (l.drop i)))[i*3+k]?=_
    rw[Ys _ _ _ _ (by rw[Xr];omega),zaa (by omega),Ys _ _ _ _ (by omega),zab (by omega),zcf]
   ·show(Zfu (Zfu b (i*3) (Qg [e])) ((i+1)*3) (Qg (l.drop i)))[(i+1)*3+k]?=_
    rw[Ys _ _ _ _ (by rw[Xr];omega),zab (by omega),zcf]
  ·exact G8 A _ _ _ ad.o)
 rw[q] at J E;rw[M] at J E ai;clear q M ae C u O L ab af S ad Q ag z R hs hg P hv hm U T F p t aa V X y am ac Y aj H ak hN A;have aK:prog.follows .mixedOrders=true:=by kernel_rfl
 have t:¬ ((i:Int)=(l.length:Int)):=by omega
 have az:((i:Int) == (l.length:Int))=false:=zah.2 t;have aw:IntKind.i64.wrap ((i:Int)+1)=(i:Int)+1:=by rw[zbo];omega
 have aI:IntKind.i64.wrap ((l.length:Int)+1)=(l.length:Int)+1:=by rw[zbo];omega
 have aA:(0:Int)<=(i:Int)+1:=by omega
 have aC:i<=l.length:=by omega
 have aN:(i:Int)<=(l.length:Int):=by omega
 have ay:(i:Int)<=(cap:Int):=by omega
 have ax:i<=cap:=by omega
 have au:((i:Int)+1).toNat=i+1:=by omega
 have p:((l.length:Int)+1).toNat=l.length+1:=by omega
 have aJ:¬ (G=i+1):=by omega
 have aD:(i:Int)<=(l.length:Int)+1:=by omega
 have aG:¬ (cap=i):=by omega
 have aB:¬ (G=i):=by omega
 have aE:(cap:Int)<(l.length:Int)+1:=by omega
 have aF:(i:Int)+1<=(l.length:Int)+1:=by omega
 have ar:(l.length:Int)<=100000:=by omega
 have aH:IntKind.i64.wrap ((l.length:Int)+1-(i:Int))=(l.length:Int)+1-(i:Int):=by rw[zbo];omega
 clear hB an Z aq;generalize Qg (l.drop i)=aM at *;generalize Qg [e]=av at *;generalize l.take i++(e::l.drop i)=LL at *
 go_enter func88,ntmps88
 go_wp2_with(first
  | (at_builtin;refine Lib.wpList_append_run _ rfl _ _ _ _ rfl _ _ rfl rfl _ _ (al _) ?_)
  | (at_builtin;refine wpList_copy_runI _ rfl _ _ 39 39 rfl _ _ rfl rfl (ai _ _) ?_))
 go_region_law_o (refine step_copy_runI rfl _ _ 39 39 rfl _ _ (by simp[Act.eval,Act.put]) (by simp[Act.eval,Act.put]) (E _ _ _) ?_)
 go_wp2;go_ret;exact J.o
theorem ZpB (v:Value) (l:List Ent) (B:Nat) (w:World) (a:Xp w B v l) (c:B<=w.heap.size) (f:l.length<=100000) (i:Nat) (m:i<=l.length) (e:Ent) (k:ZlO e) (I:Int) (b:I=(i:Nat)) (N:Nat) (d:N=w.heap.size):
 Calls prog 88 #[v,.int .i64 I,.slice (some ⟨N,0,none⟩) 1 1] (w.alloc (.cells (Gw e) 85)) fun x w'=>ZzY w B (l.take i++(e::l.drop i)) x w':=by
 by_cases h:i=l.length
 ·subst h
  exact ZpA v l B w a c f e k I b N d
 ·rcases a.row with ⟨-,rfl⟩ | ⟨g,cap,cur,rfl,-⟩
  ·exact absurd (by simpa using m) (by simpa using h)
  ·by_cases j:l.length+1<=cap
   ·exact ZnE g cap l B w a c i (by omega) j e I b N d
   ·exact ZnF g cap l B w a c i (by omega) (by omega) f e I b N d
theorem J4 {l:List UInt8} (a:0<=n) (b:n<4611686018427387904):Zsx l n=l++Lib.uvarint n.toNat:=zab ⟨a,b⟩
theorem ZwQ (h:I64 n):(Lib.uvarint (Lib.zigzag n)).length<=10:=za8 (Zbd h)
theorem Gm {n:Nat} (h:n<4611686018427387904):(Lib.uvarint n).length<=10:=za8 (by omega)
theorem ZpC (w:World) (X Y:Obj):((w.alloc X).alloc Y).heap[w.heap.size+1]?=some Y:=by
 have h:=zak (w.alloc X) Y;have e:(w.alloc X).heap.size=w.heap.size+1:=by simp
 rwa [e] at h
def Zvg (w:World) (l:List UInt8) (e:Ending) (w':World):Prop:=
 e=.returned (.tuple #[opV (Xe l).1,.int .i64 ((Xe l).2:Nat)])∧Below w.heap.size w w'
def ZsI (r:Rec):Value:=.agg #[.int .i64 r.idx,.int .i64 r.proc,.int .i64 r.seq,.int .i64 r.op.code,.int .i64 r.op.a,.int .i64 r.op.b,.int .i64 r.resp]
def Jg (r:Rec):Array Value:=#[.int .i64 r.idx,.int .i64 r.proc,.int .i64 r.seq,.int .i64 r.op.code,.int .i64 r.op.a,.int .i64 r.op.b,.int .i64 r.resp]
def ZcJ (r:Rec):Prop:=I64 r.idx∧I64 r.proc∧I64 r.seq∧ZyL r.op∧I64 r.resp
def Br (w:World) (b:Nat) (cs:Array Value):Prop:=w.heap[b]?=some (.cells cs 62 (0,0))
theorem Br.lt (h:Br w b cs):b<w.heap.size:=(zar.1 h).1
theorem Br.below (h:Br w b cs) (a:Below B w w') (c:w.heap.size<=B):Br w' b cs:=(a.block b (by have:=h.lt;omega)).trans h
theorem Br.cell (h:Br w b cs) (j:Nat):w.cell? ⟨b,j,none⟩=cs[j]?∧w.frozen? ⟨b,j,none⟩=false:=⟨zas w b j _ _ _ h,zbc w b j _ _ h⟩
theorem Zvh (r:Rec) (R:Nat) (e:Ent) (W:World) (f:Br W R (Jg r)):
 Calls prog 84 #[ZsD e,.pointer (some ⟨R,0,none⟩)] W fun x w'=>x=.returned (.bool (decide (e.proc=r.proc)))∧Below W.heap.size W w':=by
 have d:Hid (∀ X,Below W.heap.size W (W.alloc X)):=fun X=>(zac _ _).alloc zL X
 have i:R<W.heap.size:=(zar.1 f).1
 have g:Hid (∀ X,(W.alloc X).cell? ⟨R,1,none⟩=some (.int .i64 r.proc)):=ZZ (fun X=>by
  rw[(d.o X).cell (p:=⟨R,1,none⟩) i]
  exact zas W R 1 _ _ _ f)
 obtain⟨c,l,m⟩:=e;unfold ZsD;simp only;have k:=g.o;generalize r.proc=a at *;clear f g;by_cases h:c=a
 ·have b:Hid (decide (c=a)=true):=zan h
  have j:(c == a)=true:=zbi.2 h;rw[b.o];clear b h
  go_enter func84,ntmps84
  go_wp2;go_ret;exact⟨rfl,d.o _⟩
 ·have b:Hid (decide (c=a)=false):=zai h
  have j:(c == a)=false:=zah.2 h;rw[b.o];clear b h
  go_enter func84,ntmps84
  go_wp2;go_ret;exact⟨rfl,d.o _⟩
theorem Zvi (r:Rec) (R:Nat) (e:Ent) (W:World) (c:Br W R (Jg r)):
 Calls prog 85 #[ZsD e,.pointer (some ⟨R,0,none⟩)] W fun x w'=>x=.returned (.bool (decide (r.proc<e.proc)))∧Below W.heap.size W w':=by
 have b:Hid (∀ X,Below W.heap.size W (W.alloc X)):=fun X=>(zac _ _).alloc zL X
 have i:R<W.heap.size:=(zar.1 c).1
 have g:Hid (∀ X,(W.alloc X).cell? ⟨R,1,none⟩=some (.int .i64 r.proc)):=ZZ (fun X=>by
  rw[(b.o X).cell (p:=⟨R,1,none⟩) i]
  exact zas W R 1 _ _ _ c)
 obtain⟨d,k,l⟩:=e;unfold ZsD;simp only;have j:=g.o;generalize r.proc=f at *;clear c g;by_cases h:f<d
 ·have a:Hid (decide (f<d)=true):=zan h
  rw[a.o];clear a
  go_enter func85,ntmps85
  go_wp2;go_ret;exact⟨rfl,b.o _⟩
 ·have a:Hid (decide (f<d)=false):=zai h
  rw[a.o];clear a
  go_enter func85,ntmps85
  go_wp2;go_ret;exact⟨rfl,b.o _⟩
theorem ZsJ {k:Int} (h:ZyQ (fun e=>decide (p<e.proc)) t k):(k<0∧Db p t=t.length)∨(0<=k∧k=(Db p t:Nat)):=by
 rcases h with ⟨rfl,h⟩ | ⟨i,rfl,c,d,b⟩
 ·exact .inl ⟨by omega,ZkB (fun j a=>zdy (h j a))⟩
 ·refine .inr ⟨by omega,?_⟩
  rw[Znz c (fun j a=>zdy (d j a)) (zcm b)]
theorem Zxy {P:Ent->Prop} (h:∀ e ∈ t,P e):∀ e ∈ Zpu p t,P e:=fun e a=>h e (za3.1 a).1
theorem Zvj (v:Value) (t:List Ent) (r:Rec) (w:World) (y:RdE w v t) (j:ZcJ r) (J:t.length<=2000):
 Calls prog 43 #[v,ZsI r] w fun e w'=>∃ v',e=.returned v'∧Xp w' w.heap.size v' (Zcx t ⟨r.proc,r.seq,r.resp⟩)∧Below w.heap.size w w':=by
 have S:∀ e ∈ t,ZlO e:=y.choose_spec.choose_spec.2.2.2.2.1;have H:=ZZ S;have HX:Hid (Br (w.alloc (.cells (Jg r) 62)) w.heap.size (Jg r)):=ZZ (zak w _);have O:Hid (Below w.heap.size w (w.alloc (.cells (Jg r) 62))):=ZZ ((zac _ _).alloc zL _);have al:(w.alloc (.cells (Jg r) 62)).heap.size=w.heap.size+1:=by simp
 have HR:=ZZ (y.below O.o zL);have am:Hid (ZlO ⟨r.proc,r.seq,r.resp⟩):=ZZ ⟨j.2.1,j.2.2.1,j.2.2.2.2⟩;have P:∀ args W,(callFunc 84 args).run prog W=.ok (.enter 84 args) W:=enters_of func84 (by kernel_rfl) rfl
 have Y:∀ args W,(callFunc 85 args).run prog W=.ok (.enter 85 args) W:=enters_of func85 (by kernel_rfl) rfl
 have ac:=ZZ P;have ad:=ZZ Y;have V:Hid (Zcx t ⟨r.proc,r.seq,r.resp⟩=(Zpu r.proc t).take (Db r.proc (Zpu r.proc t))++(⟨r.proc,r.seq,r.resp⟩::(Zpu r.proc t).drop (Db r.proc (Zpu r.proc t)))):=ZZ (Zny ⟨r.proc,r.seq,r.resp⟩ t);have X:Hid (t.filter (fun e=>!decide (e.proc=r.proc))=Zpu r.proc t):=ZZ (by unfold Zpu;simp)
 have aj:=ZZ (fun W e h=>Zvh r w.heap.size e W h)
 have ai:=ZZ (fun W e h=>Zvi r w.heap.size e W h)
 have L:Hid (∀ W,Below (w.heap.size+1) (w.alloc (.cells (Jg r) 62)) W->Br W w.heap.size (Jg r)):=ZZ (fun W h=>(h.block w.heap.size (by omega)).trans HX.o)
 have an:∀ (fn:Fn) (first cap:Array Value) (w:World),(Instr.makeFunc fn first cap).run prog w=.ok (.func fn first cap) w:=fun _ _ _ _=>rfl
 have ak:=ZZ (fun W v l h h2=>ZfR v l W h h2)
 clear P Y S j y;unfold ZsI Jg at *
 go_enter func43,ntmps43
 go_wp2_with fail
 refine(ak.o _ _ t HR.o (by omega)).mono ?_
 rintro x W1 ⟨v1,rfl,C,B⟩;rw[al] at C B;have Q:=ZZ C;have m:=ZZ B;clear C B;have U:=ZZ (Zis 84 w.heap.size (fun e=>decide (e.proc=r.proc)) v1 t (w.heap.size+1) W1 Q.o H.o (by have:=m.o.size;omega) (by omega) ac.o (fun W e h=>aj.o W e (L.o W (m.o.trans h))))
 go_wp2_with fail
 refine U.o.mono ?_;rintro x W2 ⟨v2,rfl,z,aa⟩;rw[X.o] at z;have b:=ZZ z;have g:=ZZ (m.o.trans aa);have R:=ZZ (Zxy (p:=r.proc) H.o);have F:(Zpu r.proc t).length<=2000:=zau (Zxw _ _) J;clear z aa U Q m HR H X;obtain⟨a,Z⟩:=zg7 (Zpu r.proc t);rw[<-Z] at b R V F;clear Z;have T:=ZZ (ZdA 85 w.heap.size (fun e=>decide (r.proc<e.proc)) v2 a W2 (b.o.rd R.o) ad.o (fun W e h=>ai.o W e (L.o W (g.o.trans (h.mono (by have:=g.o.size;omega))))))
 obtain⟨va,vc,ae⟩:=b.o.shape;subst ae
 go_wp2_with fail
 refine T.o.mono ?_;rintro x K ⟨k,rfl,u,G⟩;have af:=ZZ (b.o.below G zL);have E:=ZZ (g.o.trans (G.mono (by have:=g.o.size;omega)))
 have D:=ZZ (L.o K E.o);have ab:=ZZ (O.o.trans (E.o.mono (by omega)))
 have ag:w.heap.size+1<=K.heap.size:=by have:=E.o.size;omega
 clear G T b g;obtain⟨q1,f1⟩:=D.o.cell 1;obtain⟨q2,f2⟩:=D.o.cell 2;obtain⟨q4,f4⟩:=D.o.cell 6;have A:=Znx r.proc a;have i:=ZZ (fun I hI N hN=>ZpB (.slice va a.length vc) a (w.heap.size+1) K af.o ag (by omega) (Db r.proc a) A ⟨r.proc,r.seq,r.resp⟩ am.o I hI N hN)
 rw[<-V.o] at i;unfold Gw at i;have ap:(a.length:Int)<=2000:=by omega
 rcases ZsJ u with ⟨hk,f⟩ | ⟨hk,f⟩
 ·clear u
  have n:=ZZ f;clear f A F J
  go_wp2_with fail
  refine(i.o _ (by rw[n.o]) _ rfl).mono ?_
  rintro x W4 ⟨v4,rfl,c,d⟩;have q:=ZZ (c.mono (B':=w.heap.size) (by omega))
  have M:=ZZ (ab.o.trans (d.mono (by omega)))
  clear c d;go_wp2;go_ret;exact⟨_,rfl,q.o,M.o⟩
 ·clear u
  have ao:¬ k<0:=by omega
  have n:=ZZ f;clear f A F J
  go_wp2_with fail
  refine(i.o _ n.o _ rfl).mono ?_;rintro x W4 ⟨v4,rfl,c,d⟩;have q:=ZZ (c.mono (B':=w.heap.size) (by omega))
  have M:=ZZ (ab.o.trans (d.mono (by omega)))
  clear c d;go_wp2;go_ret;exact⟨_,rfl,q.o,M.o⟩
def Bn (w:World) (b:Nat) (cs:Array Value):Prop:=w.heap[b]?=some (.cells cs 41 (0,0))
theorem Bn.lt (h:Bn w b cs):b<w.heap.size:=(zar.1 h).1
theorem Bn.below (h:Bn w b cs) (a:Below B w w') (c:w.heap.size<=B):Bn w' b cs:=(a.block b (by have:=h.lt;omega)).trans h
theorem Bn.cell (h:Bn w b cs) (j:Nat):w.cell? ⟨b,j,none⟩=cs[j]?∧w.frozen? ⟨b,j,none⟩=false:=⟨zas w b j _ _ _ h,zbc w b j _ _ h⟩
theorem Zeb (w:World) (X Y:Obj):((w.alloc X).alloc Y).heap[w.heap.size+1]?=some Y:=by
 have h:=zak (w.alloc X) Y;have e:(w.alloc X).heap.size=w.heap.size+1:=by simp
 rw[e] at h;exact h
def ZpD (a b:Q0):Prop:=ZmO a.st b.st∧a.idx=b.idx∧a.tab=b.tab
instance (a b:Q0):Decidable (ZpD a b):=by unfold ZpD;infer_instance
theorem ZkG {l:List Ent} {q:Nat} (h:q<l.length):l.take (q+1)=l.take q++[l.getD q Xj]:=by
 rw[zcl];simp[List.getD,h]
theorem RdE.but {l:List Ent} (h:RdE w v l) {R T:Nat} (q:But R T w w') (hn:l=[]∨∀ b,v.ownBlock=some b->b≠R∧b≠T):RdE w' v l:=by
 obtain⟨ao,cap,rfl,t,p,i,m,a⟩:=h;refine⟨ao,cap,rfl,t,p,i,m,?_⟩;rcases a with a | ⟨b,k,d,n⟩
 ·exact .inl a
 ·by_cases f:l=[]
  ·exact .inl f
  ·refine .inr ⟨b,k,d,fun j g=>?_⟩
   have e:=n j g;rcases hn with hn | hn
   ·exact absurd hn f
   ·have c:=hn b (by rw[d];rfl)
    exact e.keep (q.block b e.lt c.1 c.2)
theorem RdE.block {l:List Ent} (h:RdE w v l):l=[]∨∀ b,v.ownBlock=some b->b<w.heap.size:=by
 obtain⟨ao,cap,rfl,n,m,i,k,a⟩:=h;rcases a with a | ⟨b,j,rfl,g⟩
 ·exact .inl a
 ·by_cases d:l=[]
  ·exact .inl d
  ·refine .inr fun c f=>?_
   have e:b=c:=by simpa[Value.ownBlock] using f
   rw[<-e];exact(g 0 (zes.2 d)).lt
theorem RdI.old (h:RdI w v l):l=[]∨∀ b,v.ownBlock=some b->b<w.heap.size:=by
 rcases h.block with h | ⟨_,b,d,e⟩
 ·exact .inl h
 ·refine .inr fun c a=>?_
  rw[d] at a
  injection a with a
  omega
theorem Xp.fresh {l:List Ent} (h:Xp w B v l):∀ b,v.ownBlock=some b->B<=b:=fun b a=>(zaz h b a).1
def Zcg (w:World) (r:Q0 × Int) (e:Ending) (w':World):Prop:=
 ∃ vl vt,e=.returned (.tuple #[.agg #[.int .i64 r.1.idx,.int .i64 r.1.st.kind,vl,.bool r.1.st.shut,.int .i64 r.1.st.eng,vt],.int .i64 r.2])∧RdI w' vl r.1.st.L∧I64 r.1.st.kind∧I64 r.1.st.eng∧RdE w' vt r.1.tab∧I64 r.1.idx∧(∀ b,vl.ownBlock=some b->w.heap.size<=b)∧(∀ b,vt.ownBlock=some b->w.heap.size<=b)∧Below w.heap.size w w'
theorem Zcg.zero (n:Int) (a:Below w.heap.size w w'):Zcg w (Yf,n) (.returned (.tuple #[.agg #[.int .i64 0,.int .i64 0,.slice none 0 0,.bool false,.int .i64 0,.slice none 0 0],.int .i64 n])) w':=
 ⟨_,_,rfl,RdI.nil _,(Qo (by decide) (by decide):I64 0),(Qo (by decide) (by decide):I64 0),RdE.nil _,(Qo (by decide) (by decide):I64 0),fun b a=>by simp[Value.ownBlock] at a,fun b a=>by simp[Value.ownBlock] at a,a⟩
theorem SnV.below {s:Q0} (h:SnV w v s) {B:Nat} (b:Below B w w') (a:w.heap.size<=B):SnV w' v s:=by
 obtain⟨c,d,e,i,g,k,f,j⟩:=h;exact⟨c,d,e,i.below b a,g,k,f.below b a,j⟩
def six (w:World) (R:Nat) (x0 x1 x2 x3 x4 x5:Value):World:=(((((w.setCell ⟨R,0,none⟩ x0).setCell ⟨R,1,none⟩ x1).setCell ⟨R,2,none⟩ x2).setCell ⟨R,3,none⟩ x3).setCell ⟨R,4,none⟩ x4).setCell ⟨R,5,none⟩ x5
theorem Zdk {b:World} (h:Below C b w) (R:Nat) (a:C<=R) (e f i d g c:Value):Below C b (six w R e f i d g c):=
 (((((h.setCell a _).setCell a _).setCell a _).setCell a _).setCell a _).setCell a _
theorem Zbf {f:World} (h:Below C f w) (R:Nat) (i:C<=R) (c d g b e a:Value):Below C f ((((((w.setCell ⟨R,0,none⟩ c).setCell ⟨R,1,none⟩ d).setCell ⟨R,2,none⟩ g).setCell ⟨R,3,none⟩ b).setCell ⟨R,4,none⟩ e).setCell ⟨R,5,none⟩ a):=Zdk h R i c d g b e a
theorem ZnG (w:World) (R:Nat) (c d f b e a:Value):But R R w (six w R c d f b e a):=
 ((((((But.refl R R w).set _ _ (.inl rfl) _).set _ _ (.inl rfl) _).set _ _ (.inl rfl) _).set _ _ (.inl rfl) _).set _ _ (.inl rfl) _).set _ _ (.inl rfl) _
theorem Bn.set (h:Bn w b cs) (j:Nat) (x:Value):Bn (w.setCell ⟨b,j,none⟩ x) b (cs.setIfInBounds j x):=by
 have:=zbk w b j _ _ x h;unfold Bn;simpa using this
theorem Bn.other {c:Nat} (h:Bn w b cs) (j:Nat) (x:Value) (a:b≠c):Bn (w.setCell ⟨c,j,none⟩ x) b cs:=(zat _ _ _ _ a).trans h
def ZjV (w:World) (b o:Nat) (r:Rec):Prop:=
 w.cell? ⟨b,o,none⟩=some (.int .i64 r.idx)∧w.cell? ⟨b,o+1,none⟩=some (.int .i64 r.proc)∧w.cell? ⟨b,o+2,none⟩=some (.int .i64 r.seq)∧w.cell? ⟨b,o+3,none⟩=some (.int .i64 r.op.code)∧w.cell? ⟨b,o+4,none⟩=some (.int .i64 r.op.a)∧w.cell? ⟨b,o+5,none⟩=some (.int .i64 r.op.b)∧w.cell? ⟨b,o+6,none⟩=some (.int .i64 r.resp)
theorem ZjV.lt (h:ZjV w b o r):b<w.heap.size:=za1 w ⟨b,o,none⟩ h.1
theorem ZjV.keep (h:ZjV w b o r) (d:w'.heap[b]?=w.heap[b]?):ZjV w' b o r:=by
 have c:∀ i,w'.cell? ⟨b,i,none⟩=w.cell? ⟨b,i,none⟩:=fun i=>zb4 (a:=⟨b,i,none⟩) d
 unfold ZjV at h ⊢;simp only [c];exact h
def RdR (w:World) (v:Value) (l:List Rec):Prop:=
 ∃ ao cap,v=.slice ao l.length cap∧l.length<=cap∧cap<=maxLen∧(ao=none->cap=0)∧(∀ r ∈ l,ZcJ r)∧
  (l=[]∨∃ b off,ao=some ⟨b,off,none⟩∧∀ j,j<l.length->ZjV w b (off+j*7) (l.getD j Qj))
theorem RdR.nil (w:World):RdR w (.slice none 0 0) []:=⟨none,0,rfl,za0 _,zap _,fun _=>rfl,(fun r h=>by simp at h),.inl rfl⟩
theorem RdR.below {l:List Rec} (h:RdR w v l) {B:Nat} (p:Below B w w') (t:w.heap.size<=B):RdR w' v l:=by
 obtain⟨ao,cap,k,q,n,e,i,a⟩:=h;refine⟨ao,cap,k,q,n,e,i,?_⟩;rcases a with a | ⟨b,g,f,m⟩
 ·exact .inl a
 ·refine .inr ⟨b,g,f,fun j d=>?_⟩
  have c:=m j d;exact c.keep (p.block b (by have:=c.lt;omega))
def Qx:List Rec->List Value
 | []=>[]
 | r::t=>(Jg r).toList++Qx t
theorem Zq:∀ l:List Rec,(Qx l).length=l.length*7
 | []=>rfl
 | r::t=>by
  rw[Qx,length_append,Zq t,zcb];simp[Jg];omega
theorem ZaB:∀ a b:List Rec,Qx (a++b)=Qx a++Qx b
 | [],_=>rfl
 | r::t,b=>by rw[zcq,Qx,ZaB t b,Qx,zcr]
theorem Zbs:∀ (l:List Rec) (j k:Nat),j<l.length->k<7->(Qx l)[j*7+k]?=(Jg (l.getD j Qj))[k]?
 | r::t,0,k,_,hk=>by
  rw[Qx,zc7,za9,zbg (by simp[Jg];omega)]
  simp[List.getD]
 | r::t,j+1,k,hj,hk=>by
  have e:(j+1)*7+k=(Jg r).toList.length+(j*7+k):=by simp[Jg];omega
  rw[Qx,e,zbs (by omega),zcf,Zbs t j k (by simpa using hj) hk]
  simp[List.getD]
theorem Zbt (l:List Rec):∀ u ∈ Qx l,u.oneCell'=true:=by
 induction l with
 | nil=>intro u a;simp[Qx] at a
 | cons r t b=>
  intro u a;rw[Qx] at a;rcases za2.1 a with h | h
  ·simp[Jg] at h
   rcases h with rfl | rfl | rfl | rfl | rfl | rfl | rfl <;> rfl
  ·exact b u h
def Xl (w:World) (B:Nat) (v:Value) (l:List Rec):Prop:=w.ownsRow B 62 7 v l.length (Qx l)
theorem Xl.nil (w:World) (B:Nat):Xl w B (.slice none 0 0) []:=zck w B 62 7
theorem Xl.rd {l:List Rec} (h:Xl w B v l) (d:∀ r ∈ l,ZcJ r):RdR w v l:=by
 rcases h.2 with ⟨b,c⟩ | ⟨g,cap,cur,b,y,q,m,n,x,t⟩
 ·exact⟨none,0,by rw[b,c],by omega,zap _,fun _=>rfl,d,.inl (zao c)⟩
 ·refine⟨some ⟨g,0,none⟩,cap,b,m,n,(fun e=>by cases e),d,.inr ⟨g,0,rfl,fun j f=>?_⟩⟩
  have a:∀ k u,k<7->(Jg (l.getD j Qj))[k]?=some u->w.cell? ⟨g,0+j*7+k,none⟩=some u:=fun k u p i=>by
   have:=zc4 h (g:=g) (by rw[b];rfl) (j*7+k) u ((Zbs l j k f p).trans i)
   rw[zbn] at this;rw[zb1];exact this
  exact⟨a 0 _ (by decide) rfl,a 1 _ (by decide) rfl,a 2 _ (by decide) rfl,a 3 _ (by decide) rfl,a 4 _ (by decide) rfl,a 5 _ (by decide) rfl,a 6 _ (by decide) rfl⟩
theorem Xl.below {l:List Rec} (h:Xl w B v l) (e:Below B' w w') (i:w.heap.size<=B'):Xl w' B v l:=by
 obtain⟨d,a⟩:=h;refine⟨d,?_⟩;rcases a with a | ⟨g,cap,cur,f,c,b,r⟩
 ·exact .inl a
 ·have j:g<w.heap.size:=(zar.1 b).1
  exact .inr ⟨g,cap,cur,f,c,by rw[e.block g (by omega)];exact b,r⟩
theorem Xl.mono {l:List Rec} (h:Xl w B v l) (d:B'<=B):Xl w B' v l:=by
 obtain⟨b,a⟩:=h;refine⟨b,?_⟩;rcases a with a | ⟨g,cap,cur,c,e,r⟩
 ·exact .inl a
 ·exact .inr ⟨g,cap,cur,c,by omega,r⟩
theorem Xl.shape {l:List Rec} (h:Xl w B v l):∃ ao cap,v=.slice ao l.length cap:=by
 rcases h.2 with ⟨a,b⟩ | ⟨g,cap,cur,a,_⟩
 ·exact⟨none,0,by rw[a,b]⟩
 ·exact⟨_,_,a⟩
theorem Zdl:(prog.info? 62).map (fun i=>(i.zero,i.size,i.bytes))=some (some (.agg #[.int .i64 0,.int .i64 0,.int .i64 0,.int .i64 0,.int .i64 0,.int .i64 0,.int .i64 0]),7,56):=by kernel_rfl
theorem ZjW (w:World) (ty:TypeId) (B:Nat) (v:Value) (l:List Rec) (h:Xl w B v l) (r:Rec) (q:l.length<=1000000) (f:B<=w.heap.size):
 ∃ v' w',(Builtin.append_ #[29,29] ty #[v,.slice (some ⟨w.heap.size,0,none⟩) 1 1]).run prog (w.alloc (.cells (Jg r) 62))=.ok v' w'∧Xl w' B v' (l++[r])∧Below B w w':=by
 obtain⟨i,p,b,a,n⟩:=zbx Zdl
 obtain⟨v',w',d,g,m,_⟩:=zdn (P:=prog) (w.alloc (.cells (Jg r) 62)) B 29 ty 62 i _ 7 56 underlying29 p b a n rfl (by decide) v l.length (Qx l) (h.alloc _)
  ⟨w.heap.size,0,none⟩ 1 1 (Qx [r]) (Zq [r]) (fun j u c=>by
   rw[zbn,za9,zas _ w.heap.size j _ 62 (0,0) (zak w _)]
   simpa[Qx] using c) (Zbt [r]) (by unfold maxLen;omega) (by omega) (by simp;omega)
 refine⟨v',w',d,?_,?_⟩
 ·unfold Xl
  rw[length_append,ZaB];exact g
 ·exact((zac _ _).alloc f _).grown m (by simp;omega) (fun k e=>(zaz h k e).1)
theorem ZfS (w:World) {b:Array Oper} {rest:List Oper} {o:Oper} {a:Act} {Q:Exit->Act->World->Prop} (g:o.guard=none) (s x:Operand)
 (j:o.op=.call { callee:=.builtin .append,args:=#[s,x],argTypes:=#[29,29] })
 (B:Nat) (v:Value) (l:List Rec) (c:a.eval s=v) (k:Xl w B v l) (r:Rec) (n:a.eval x=.slice (some ⟨w.heap.size,0,none⟩) 1 1)
 (d:l.length<=1000000) (i:B<=w.heap.size)
 (h:∀ v' w',Xl w' B v' (l++[r])->Below B w w'->wpList prog b Q rest (a.put o.dst v') w'):wpList prog b Q (o::rest) a (w.alloc (.cells (Jg r) 62)):=
 zb0 g fun _ e=>by
  obtain⟨v',w',f,p,m⟩:=ZjW w o.type B v l k r d i;unfold Oper.wp execOp;simp only [j,resolve,invoke,builtin,zbt,zbv,zbe,zch,zei,zf7,c,n,f];exact e _ _ (h v' w' p m)
theorem Zit:prog.elem 29=62:=by kernel_rfl
theorem Zdm:prog.underlying 29=some (.slice (prog.elem 29)):=by rw[Zit];exact underlying29
theorem Zrj (w:World):(sizeOf 62).run prog w=.ok 7 w:=by
 obtain⟨c,b,_,a,_⟩:=zbx Zdl;simp[sizeOf,typeInfo,b,a]
theorem Br.set (h:Br w b cs) (j:Nat) (x:Value):Br (w.setCell ⟨b,j,none⟩ x) b (cs.setIfInBounds j x):=by
 have:=zbk w b j _ _ x h;unfold Br;simpa using this
theorem ZdB (n lo c:Int) (a b:Nat) (w:World) (i:w.cell? ⟨a,0,none⟩=some (.int .i64 lo)) (j:w.cell? ⟨b,0,none⟩=some (.int .i64 c)):
 Calls prog 170 #[.int .i64 n,.pointer (some ⟨a,0,none⟩),.pointer (some ⟨b,0,none⟩)] w fun e w'=>e=.returned (.bool (decide (lo<=n∧n<=c)))∧w'=w:=by
 have f:Hid ((decide (lo<=n) && decide (n<=c))=decide (lo<=n∧n<=c)):=(zeg _ _).symm;have g:Hid (lo<=n->decide (n<=c)=decide (lo<=n∧n<=c)):=fun h=>by rw[<-f.o,zan h,Bool.true_and]
 by_cases d:lo<=n
 ·go_enter func170,ntmps170
  go_wp2;go_ret;exact⟨Y9 (g.o d),rfl⟩
 ·go_enter func170,ntmps170
  go_wp2;go_ret;exact⟨Y9 (by rw[zai (Int.not_le.2 d),Bool.false_and]),rfl⟩
theorem G9 (lo c:Int) (w:World):
 Calls prog 121 #[.int .i64 lo,.int .i64 c] w fun e w'=>∃ a b,e=.returned (.func (.func 170) #[] #[.pointer (some ⟨a,0,none⟩),.pointer (some ⟨b,0,none⟩)])∧w'.cell? ⟨a,0,none⟩=some (.int .i64 lo)∧w'.cell? ⟨b,0,none⟩=some (.int .i64 c)∧Below w.heap.size w w':=by
 have f:∀ (fn:Fn) (first cap:Array Value) (w:World),(Instr.makeFunc fn first cap).run prog w=.ok (.func fn first cap) w:=fun _ _ _ _=>rfl
 have d:Hid (∀ x y,Below w.heap.size w ((w.alloc x).alloc y)):=fun x y=>((zac _ _).alloc zL x).alloc (by simp) y
 go_enter func121,ntmps121
 go_wp2;go_ret;refine⟨_,_,rfl,?_,?_,d.o _ _⟩
 ·rw[World.cell?_alloc_past _ _ _ (by simp),World.cell?_alloc_at _ _ _ _ rfl];rfl
 ·rw[World.cell?_alloc_at _ _ _ _ (by simp)];rfl
theorem ZfT (n:Int):max (-1099511627776) (min n 1099511627776)=Jp n:=by
 unfold Jp;split
 ·omega
 ·split <;> omega
theorem ZeP (n:Int) (w:World):Calls prog 173 #[.int .i64 n] w fun e w'=>e=.returned (.int .i64 (Jp n))∧w'=w:=by
 by_cases b:1099511627776<n
 ·go_enter func173,ntmps173
  go_wp2;go_ret;refine⟨Zzd ?_,rfl⟩
  first
   | exact ZfT n
   | (unfold Jp;split <;> (try split) <;> omega)
 by_cases a:n<=-1099511627776
 ·go_enter func173,ntmps173
  go_wp2;go_ret;refine⟨Zzd ?_,rfl⟩
  first
   | exact ZfT n
   | (unfold Jp;split <;> (try split) <;> omega)
 ·go_enter func173,ntmps173
  go_wp2;go_ret;refine⟨Zzd ?_,rfl⟩
  first
   | exact ZfT n
   | (unfold Jp;split <;> (try split) <;> omega)
theorem ZlS (ao:Option Addr) (n cap:Nat) (w:World):Calls prog 177 #[.slice ao n cap] w fun e w'=>e=.returned (.bool (decide (n=128)))∧w'=w:=by
 by_cases h:n=128
 ·have a:Hid (decide (n=128)=true):=zan h
  have b:((n:Int) == 128)=true:=zbi.2 (by omega)
  clear h
  go_enter func177,ntmps177
  go_wp2;go_ret;exact⟨Y9 a.o.symm,rfl⟩
 ·have a:Hid (decide (n=128)=false):=zai h
  have b:((n:Int) == 128)=false:=zah.2 (by omega)
  clear h
  go_enter func177,ntmps177
  go_wp2;go_ret;exact⟨Y9 a.o.symm,rfl⟩
theorem Zrk {b:Int} {c d:Bool} (h:a=b) (e:c=d):Ending.returned (.tuple #[.int .i64 a,.bool c])=.returned (.tuple #[.int .i64 b,.bool d]):=by rw[h,e]
theorem Zvk (v:Value) (l:List Int) (key:Int) (w:World) (D:RdI w v l) (G:l.length % 2=0) (L:l.length<=1000000):
 Calls prog 211 #[v,.int .i64 key] w fun e w'=>e=.returned (.tuple #[.int .i64 (Qz key l),.bool (decide (Qz key l<l.length∧l.getD (Qz key l) 0=key))])∧Below w.heap.size w w':=by
 obtain⟨ao,cap,rfl,-,-,-,-,t⟩:=D;have I:=Qc t;clear t;obtain⟨P,m⟩:=zg7 (Qz key l);obtain⟨R,d⟩:=zg7 (decide (P<l.length∧l.getD P 0=key));rw[<-m,<-d];have B:=Qc m;have x:=Qc d;clear m d
 go_enter func211,ntmps211
 go_wp2
 go_loop [6] (fun i=>∃ k:Nat,i=.int .i64 k∧k<=l.length∧k % 2=0∧Hid (∀ j,j<k->j % 2=0->l.getD j 0<key)) (fun i=>l.length-(intOf i).toNat)
 case atStart=>exact⟨0,rfl,zap _,rfl,fun j C=>by omega⟩
 case round=>
  obtain⟨k,rfl,F,z,u⟩:=hrel;have p:Hid (P=k+Qz key (l.drop k)):=B.o.trans (ZhT key l k G z F u.out);by_cases b:k<l.length
  ·rcases I.o with J | ⟨g,M,rfl,q⟩
   ·rw[J] at b;simp at b
   have A:=q k b;clear q;obtain⟨y,c⟩:=zg7 (l.getD k 0);rw[<-c] at A;have f:=Qc c;clear c;by_cases H:key<=y
   ·have a:Hid (P=k):=p.o.trans (by rw[Zpf key l k (by omega) (by rw[<-f.o];exact H)];exact zc2 k)
    have n:Hid (R=(y == key)):=by
     rw[x.o,a.o,<-f.o];by_cases e:y=key
     ·rw[zbi.2 e];exact zan ⟨b,e⟩
     ·rw[zah.2 e];exact zai (fun h=>e h.2)
    have K:(k:Int)<(l.length:Int):=by omega
    go_wp2
    go_quiet(fail)
    go_wp2;go_ret2;exact⟨Zrk (by rw[a.o]) n.o.symm,X6 (zac _ _) _⟩
   ·go_wp2
    go_round
    case rel=>
     refine⟨k+2,by go_num,by omega,by omega,fun j C E=>?_⟩
     by_cases e:j=k
     ·rw[e,<-f.o];omega
     ·exact u.out j (by omega) E
    case measure=>simp[intOf];omega
  ·have a:Hid (P=l.length):=by
    have e:k=l.length:=by omega
    rw[p.o,e,ze9];exact rfl
   have n:Hid (R=false):=x.o.trans (zai (fun h=>by have:=h.1;rw[a.o] at this;omega))
   go_wp2;go_ret2;exact⟨Zrk (by rw[a.o]) n.o.symm,zac _ _⟩
theorem ZfU (v:Value) (l:List Int) (key least lo:Int) (w:World) (c:RdI w v l) (a:Qu least lo l) (b:l.length<=1000000):
 Calls prog 211 #[v,.int .i64 key] w fun e w'=>e=.returned (.tuple #[.int .i64 (Qz key l),.bool (Z4 key l)])∧Below w.heap.size w w':=by
 rw[(ZbN key least l lo a).1];exact Zvk v l key w c (ZbK a) b
theorem ZaC {least:Int}:∀ {l:List Int} {lo:Int},-1099511627776<=least->-1<=lo->Qu least lo l->∀ x ∈ l,I64 x
 | [],_,_,_,_,x,hx=>by simp at hx
 | [_],_,_,_,h,_,_=>by simp[Qu] at h
 | a::b::r,lo,hl,hlo,h,x,hx=>by
  unfold Qu at h;have c:=ZaC (l:=r) (lo:=a) hl (by omega) h.2.2.2.2 x
  simp at hx;rcases hx with rfl | rfl | hx
  ·exact Qo (by omega) (by omega)
  ·exact Qo (by omega) (by omega)
  ·exact c hx
theorem Zhn (v:Value) (l:List Int) (key least lo:Int) (w:World) (p:RdI w v l) (n:Qu least lo l) (A:l.length<=1000000):
 Calls prog 175 #[v,.int .i64 key] w fun e w'=>e=.returned (.tuple #[.int .i64 ((Yj key l).getD 0),.bool (Z4 key l)])∧Below w.heap.size w w':=by
 have c:Hid (Calls prog 211 #[v,.int .i64 key] w fun e w'=>e=.returned (.tuple #[.int .i64 (Qz key l),.bool (Z4 key l)])∧Below w.heap.size w w'):=ZfU v l key least lo w p n A
 have j:=Qc (ZbN key least l lo n).2;obtain⟨ao,cap,rfl,-,-,-,-,u⟩:=p;have z:=Qc u;obtain⟨G,i⟩:=zg7 ((Yj key l).getD 0);rw[<-i];have m:=Qc i;clear u n i
 cases hh:Z4 key l
 ·rw[hh] at c
  have f:Hid (0=G):=by
   have:Yj key l=none:=by
    unfold Z4 at hh
    cases h:Yj key l with
    | none=>rfl
    | some x=>rw[h] at hh;simp at hh
   rw[m.o,this];exact rfl
  clear hh j
  go_enter func175,ntmps175
  go_wp2_with fail
  refine c.o.mono ?_;rintro e B ⟨rfl,a⟩;have k:=Qc a;clear a;go_wp2;go_ret2;exact⟨Zrk f.o rfl,k.o⟩
 ·rw[hh] at c
  obtain⟨t,b⟩:=j.o hh
  have f:Hid (l.getD (Qz key l+1) 0=G):=by
   rw[m.o,t];exact rfl
  rcases z.o with D | ⟨g,q,rfl,d⟩
  ·rw[D] at b;simp at b
  have C:Hid (∀ W,Below w.heap.size w W->W.cell? ⟨g,q+(Qz key l+1),none⟩=some (.int .i64 (l.getD (Qz key l+1) 0))):=fun W h=>(h.cell (za1 w ⟨g,q+(Qz key l+1),none⟩ (d _ b))).trans (d _ b)
  clear hh j t z d m;generalize l.getD (Qz key l+1) 0=y at *;generalize Qz key l=P at *;have F:(P:Int)+1<(l.length:Int):=by omega
  clear b
  go_enter func175,ntmps175
  go_wp2_with fail
  refine c.o.mono ?_;rintro e B ⟨rfl,a⟩;have k:=Qc a;have E:=C.o _ a;clear a;go_wp2;go_ret2;exact⟨Zrk f.o rfl,k.o⟩
theorem Zho (v:Value) (l:List Int) (key n least lo:Int) (B:Nat) (w:World) (d:Qt w B v l) (S:B<=w.heap.size) (G:∀ x ∈ l,I64 x) (c:Qu least lo l) (z:l.length<=1000000):
 Calls prog 178 #[v,.int .i64 key,.int .i64 n] w fun e w'=>∃ v',e=.returned v'∧Qt w' B v' (Xi key n false l)∧Mv w w' v v':=by
 have k:Hid (Calls prog 211 #[v,.int .i64 key] w fun e w'=>e=.returned (.tuple #[.int .i64 (Qz key l),.bool (Z4 key l)])∧Below w.heap.size w w'):=ZfU v l key least lo w (d.rd G) c z
 have m:=(ZhS key l (ZbK c)).1;have p:=Qc (ZbN key least l lo c).2;have q:=Qc d
 cases hh:Z4 key l
 ·rw[hh] at k
  have a:=Qc (Zgq key n least l lo c hh)
  have F:Hid (∀ W,Qt W B v l->B<=W.heap.size->Calls prog 212 #[v,.int .i64 (Qz key l),.slice (some ⟨W.heap.size,0,none⟩) 2 2] (W.alloc (.cells #[.int .i64 key,.int .i64 n] 3)) fun e w'=>∃ v',e=.returned v'∧Qt w' B v' (l.take (Qz key l)++([key,n]++l.drop (Qz key l)))∧Mv W w' v v'):=
   fun W t j=>Zpy v l B W t j z (Qz key l) m _ rfl key n _ rfl
  obtain⟨L',b⟩:=zg7 (Xi key n false l);rw[<-b];rw[<-b] at a;have C:=Qc a.o.symm;rw[C.o] at F;clear b a C d c p hh m;generalize Qz key l=P at *
  go_enter func178,ntmps178
  go_wp2_with fail
  refine k.o.mono ?_;rintro e E ⟨rfl,i⟩;have f:=Qc i;clear i
  go_wp2_with fail
  refine(F.o E (q.o.below f.o zL) (zau S f.o.size)).mono ?_;rintro e W2 ⟨v2,rfl,D,u⟩;have Q:=Qc ((Mv.ofBelow f.o v).trans u);have L:=Qc D;clear u D;go_wp2;go_ret;exact⟨_,rfl,L.o,Q.o⟩
 ·rw[hh] at k
  have a:=Qc (ZmY key n least l lo c hh);obtain⟨t,j⟩:=p.o hh;obtain⟨L',b⟩:=zg7 (Xi key n false l);rw[<-b];rw[<-b] at a;have M:=d.put _ j n;obtain⟨g,cap,rfl,-,-,V,aa,-,-⟩:=M
  have U:Hid (∀ W,Below w.heap.size w W->W.cell? ⟨g,Qz key l+1,none⟩=some (.int .i64 (l.getD (Qz key l+1) 0))∧W.frozen? ⟨g,Qz key l+1,none⟩=false∧Qt (W.setCell ⟨g,Qz key l+1,none⟩ (.int .i64 n)) B (.slice (some ⟨g,0,none⟩) l.length cap) L'∧Mv w (W.setCell ⟨g,Qz key l+1,none⟩ (.int .i64 n)) (.slice (some ⟨g,0,none⟩) l.length cap) (.slice (some ⟨g,0,none⟩) l.length cap)):=fun W I=>by
   obtain⟨g',Z,J,R,N,Y,h6,T,K⟩:=(q.o.below I zL).put _ j n;simp only [zbb,zb6,zgm] at J;obtain⟨⟨rfl,_⟩,_,rfl⟩:=J;exact⟨R,N,by rw[a.o];exact T,(Mv.ofBelow I _).trans K⟩
  clear b a d c p hh m t q G;generalize l.getD (Qz key l+1) 0=y at *;generalize Qz key l=P at *;have ab:(P:Int)+1<(l.length:Int):=by omega
  clear j
  go_enter func178,ntmps178
  go_wp2_with fail
  refine k.o.mono ?_;rintro e E ⟨rfl,i⟩;obtain⟨c1,X,H,A⟩:=U.o _ i;have O:=Qc H;have f:=Qc A;clear i H A;go_wp2;go_ret;exact⟨_,rfl,O.o,f.o⟩
theorem Zxz (v:Value) (l:List Int) (key least lo:Int) (B:Nat) (w:World) (f:Qt w B v l) (y:∀ x ∈ l,I64 x) (a:Qu least lo l) (z:l.length<=1000000):
 Calls prog 176 #[v,.int .i64 key] w fun e w'=>∃ v',e=.returned v'∧Qt w' B v' (Yr key l)∧Mv w w' v v':=by
 have g:Hid (Calls prog 211 #[v,.int .i64 key] w fun e w'=>e=.returned (.tuple #[.int .i64 (Qz key l),.bool (Z4 key l)])∧Below w.heap.size w w'):=ZfU v l key least lo w (f.rd y) a z
 have p:=(ZhS key l (ZbK a)).1;have i:=Qc (ZbN key least l lo a).2;have t:=Qc f
 cases hh:Z4 key l
 ·rw[hh] at g
  have b:=Qc (Zgr key least l lo a hh);rw[b.o];clear b f a i hh p y;generalize Qz key l=P at *
  go_enter func176,ntmps176
  go_wp2_with fail
  refine g.o.mono ?_;rintro e u ⟨rfl,d⟩;have c:=Qc d;clear d;go_wp2;go_ret;exact⟨_,rfl,t.o.below c.o zL,Mv.ofBelow c.o v⟩
 ·rw[hh] at g
  have b:=Qc (Zgs key least l lo a hh);obtain⟨D,G⟩:=i.o hh
  have m:Hid (∀ W J,Qt W B v l->J=((Qz key l+2:Nat):Int)->Calls prog 210 #[v,.int .i64 (Qz key l),.int .i64 J] W fun e w'=>∃ v',e=.returned v'∧Qt w' B v' (l.take (Qz key l)++l.drop (Qz key l+2))∧Mv W w' v v'):=
   fun W J E C=>Zip v l B W E (Qz key l) (Qz key l+2) (by omega) (by omega) _ _ rfl C
  obtain⟨L',j⟩:=zg7 (Yr key l);rw[<-j];rw[<-j] at b;have n:=Qc b.o.symm;rw[n.o] at m;clear j b n f a i hh p D;generalize Qz key l=P at *;have K:(P:Int)+1<(l.length:Int):=by omega
  clear G
  go_enter func176,ntmps176
  go_wp2_with fail
  refine g.o.mono ?_;rintro e u ⟨rfl,d⟩;have c:=Qc d;clear d
  go_wp2_with fail
  refine(m.o u _ (t.o.below c.o zL) (by omega)).mono ?_
  rintro e H ⟨I,rfl,q,k⟩;have F:=Qc ((Mv.ofBelow c.o v).trans k);have A:=Qc q;clear k q;go_wp2;go_ret;exact⟨_,rfl,A.o,F.o⟩
def Zec (B:Nat) (w:World) (v:Value) (L:List Int) (n:Int) (e:Ending) (w':World):Prop:=
 ∃ v',e=.returned (.tuple #[v',.int .i64 n])∧Qt w' B v' L∧Mv w w' v v'
theorem Qt.alloc (h:Qt w B v l) (X:Obj):Qt (w.alloc X) B v l:=zb3 h X
theorem Qt.single (h:Qt w B v l) (f:l.length=1):
 ∃ g cap,v=.slice (some ⟨g,0,none⟩) 1 cap∧(∀ X,(w.alloc X).cell? ⟨g,0,none⟩=some (.int .i64 (l.getD 0 0))∧(w.alloc X).frozen? ⟨g,0,none⟩=false)∧g<w.heap.size∧
  ∀ X n,Qt ((w.setCell ⟨g,0,none⟩ (.int .i64 n)).alloc X) B v [n]∧Mv w ((w.setCell ⟨g,0,none⟩ (.int .i64 n)).alloc X) v v:=by
 obtain⟨g,cap,rfl,-,-,m,k,-,-⟩:=h.put 0 (by omega) 0
 refine⟨g,cap,by rw[f],fun X=>?_,k,fun X n=>?_⟩
 ·obtain⟨g',j,a,c,b,_⟩:=(h.alloc X).put 0 (by omega) 0
  simp only [zbb,zb6,zgm] at a;obtain⟨⟨rfl,_⟩,_,rfl⟩:=a;exact⟨c,b⟩
 ·obtain⟨g',j,a,c,b,_,_,d,i⟩:=h.put 0 (by omega) n
  simp only [zbb,zb6,zgm] at a;obtain⟨⟨rfl,_⟩,_,rfl⟩:=a
  have e:l.set 0 n=[n]:=by
   match l,f with
   | [_],_=>rfl
  rw[e] at d;exact⟨d.alloc X,i.trans (Mv.alloc _ _ X)⟩
theorem ZpE (v:Value) (l:List Int) (o:Opn) (f:Bool) (g:Int) (B:Nat) (w:World) (p:Qt w B v l) (z:l.length=1) (C:-1099511627776<=l.getD 0 0) (G:l.getD 0 0<=1099511627776):
 Calls prog 124 #[v,opV o] w fun e w'=>e=.returned (.int .i64 (ZdN ⟨0,l,f,g⟩ o).2)∧Qt w' B v (ZdN ⟨0,l,f,g⟩ o).1.L∧Mv w w' v v:=by
 obtain⟨d,a,b⟩:=o;have x:=Qc p;have y:Hid (∀ X,Mv w (w.alloc X) v v):=fun X=>Mv.alloc w v X
 have E:=Qc (fun n w=>ZeP n w)
 obtain⟨c,cap,rfl,q,K,u⟩:=p.single z;have D:=Qc u;have A:=fun X=>(q X).1
 have M:=fun X=>(q X).2
 clear u p q;obtain⟨n,k⟩:=zg7 (l.getD 0 0);rw[<-k] at C G;simp only [<-k] at A;have t:=Qc k;have H:=Zby a;clear k z;show Calls prog _ #[_,.agg #[.int .i64 d,.int .i64 a,.int .i64 b]] w _;by_cases m:d=1
 ·subst m
  have j:Hid (ZdN ⟨0,l,f,g⟩ ⟨1,a,b⟩=(⟨0,[Jp (n+Jp a)],f,g⟩,n)):=by rw[t.o];exact zab ⟨rfl,rfl⟩
  rw[j.o]
  go_enter func124,ntmps124
  go_wp2_with(first | (go_at_call 173;refine(E.o _ _).mono ?_;rintro e I ⟨rfl,rfl⟩))
  go_ret;exact⟨rfl,D.o _ _⟩
 ·have J:(d == 1)=false:=zah.2 m
  by_cases i:d=7
  ·have F:(d == 7)=true:=zbi.2 i
   have j:Hid (ZdN ⟨0,l,f,g⟩ ⟨d,a,b⟩=(⟨0,l,f,g⟩,n)):=by
    rw[t.o];unfold ZdN;rw[zaa (by simp;omega),zaa (by simp),zab i]
    exact rfl
   rw[j.o];clear m i
   go_enter func124,ntmps124
   go_wp2;go_ret;exact⟨rfl,x.o.alloc _,y.o _⟩
  ·have F:(d == 7)=false:=zah.2 i
   have j:Hid (ZdN ⟨0,l,f,g⟩ ⟨d,a,b⟩=(⟨0,l,f,g⟩,0)):=by
    unfold ZdN;rw[zaa (by simp;omega),zaa (by simp),zaa i]
    exact rfl
   rw[j.o];clear m i
   go_enter func124,ntmps124
   go_wp2;go_ret;exact⟨rfl,x.o.alloc _,y.o _⟩
theorem ZnH (v:Value) (l:List Int) (o:Opn) (f:Bool) (g:Int) (B:Nat) (w:World) (p:Qt w B v l) (z:l.length=1):
 Calls prog 125 #[v,opV o] w fun e w'=>e=.returned (.int .i64 (ZdN ⟨1,l,f,g⟩ o).2)∧Qt w' B v (ZdN ⟨1,l,f,g⟩ o).1.L∧Mv w w' v v:=by
 obtain⟨d,a,b⟩:=o;have x:=Qc p;have y:Hid (∀ X,Mv w (w.alloc X) v v):=fun X=>Mv.alloc w v X
 have D:=Qc (fun n w=>ZeP n w)
 obtain⟨c,cap,rfl,q,H,u⟩:=p.single z;have C:=Qc u;have A:=fun X=>(q X).1
 have I:=fun X=>(q X).2
 clear u p q;obtain⟨n,m⟩:=zg7 (l.getD 0 0);simp only [<-m] at A;have t:=Qc m;clear m z;show Calls prog _ #[_,.agg #[.int .i64 d,.int .i64 a,.int .i64 b]] w _;by_cases k:d=2
 ·subst k
  have j:Hid (ZdN ⟨1,l,f,g⟩ ⟨2,a,b⟩=(⟨1,[Jp a],f,g⟩,n)):=by rw[t.o];exact rfl
  rw[j.o]
  go_enter func125,ntmps125
  go_wp2_with(first | (go_at_call 173;refine(D.o _ _).mono ?_;rintro e F ⟨rfl,rfl⟩))
  go_ret;exact⟨rfl,C.o _ _⟩
 ·have G:(d == 2)=false:=zah.2 k
  by_cases i:d=7
  ·have E:(d == 7)=true:=zbi.2 i
   have j:Hid (ZdN ⟨1,l,f,g⟩ ⟨d,a,b⟩=(⟨1,l,f,g⟩,n)):=by
    rw[t.o];unfold ZdN;rw[zaa (by simp),zaa (by simp;omega),zab i]
    exact rfl
   rw[j.o];clear k i
   go_enter func125,ntmps125
   go_wp2;go_ret;exact⟨rfl,x.o.alloc _,y.o _⟩
  ·have E:(d == 7)=false:=zah.2 i
   have j:Hid (ZdN ⟨1,l,f,g⟩ ⟨d,a,b⟩=(⟨1,l,f,g⟩,0)):=by
    unfold ZdN;rw[zaa (by simp),zaa (by simp;omega),zaa i]
    exact rfl
   rw[j.o];clear k i
   go_enter func125,ntmps125
   go_wp2;go_ret;exact⟨rfl,x.o.alloc _,y.o _⟩
theorem Zzs (kind:Int) (Q:kind=2∨kind=3) (v:Value) (l:List Int) (f:Bool) (g a b:Int) (B:Nat) (w:World) (k:Qt w B v l) (p:∀ x ∈ l,I64 x) (H:l.length<=64):
 Calls prog 174 #[.int .i64 kind,v] w fun e w'=>Zec B w v (Zo ⟨kind,l,f,g⟩ ⟨4,a,b⟩).1.L (Zo ⟨kind,l,f,g⟩ ⟨4,a,b⟩).2 e w':=by
 have n:=Qc k;have F:=k.shape;by_cases d:l.length=0
 ·have j:Hid (Zo ⟨kind,l,f,g⟩ ⟨4,a,b⟩=(⟨kind,l,f,g⟩,-1)):=by
   unfold Zo;rw[zaa (by simp),zab rfl,zab d]
   exact rfl
  rw[j.o];obtain⟨ao,cap,rfl⟩:=F;rw[d]
  have O:Hid (Qt w B (.slice ao 0 cap) l):=by
   have h:=n.o
   rwa [d] at h
  clear n k d j p H
  go_enter func174,ntmps174
  go_wp2;go_ret2;exact⟨_,rfl,O.o,Mv.refl _ _⟩
 ·have P:((l.length:Int) == 0)=false:=zah.2 (by omega)
  have C:l≠[]:=fun h=>d (by rw[h];rfl)
  have R:=k.rd p;obtain⟨ao,cap,rfl⟩:=F
  have u:Hid (∀ i:Nat,i<l.length->∀ I J,I=(i:Int)->J=((i+1:Nat):Int)->Calls prog 210 #[.slice ao l.length cap,.int .i64 I,.int .i64 J] w fun e w'=>∃ v',e=.returned v'∧Qt w' B v' (l.take i++l.drop (i+1))∧Mv w w' (.slice ao l.length cap) v'):=
   fun i p I J T X=>Zip _ l B w n.o i (i+1) (by omega) (by omega) I J T X
  obtain⟨Z,aa,G,-,-,-,-,V⟩:=R;simp only [zbb] at G;obtain⟨rfl,-,rfl⟩:=G;rcases V with W | ⟨c,ab,rfl,z⟩
  ·exact absurd W C
  rcases Q with rfl | rfl
  ·have j:Hid (Zo ⟨2,l,f,g⟩ ⟨4,a,b⟩=(⟨2,l.take 0++l.drop (0+1),f,g⟩,l.getD 0 0)):=by
    unfold Zo;rw[zaa (by simp),zab rfl,zaa d,zab rfl]
    exact rfl
   rw[j.o];have E:=z 0 (by omega)
   rw[zc2] at E;have m:=Qc (u.o 0 (by omega))
   have Y:(0:Int)<(l.length:Int):=by omega
   generalize l.getD 0 0=y at *;generalize l.take 0++l.drop (0+1)=L' at *;clear z u j d C k p n
   go_enter func174,ntmps174
   go_wp2_with fail
   refine(m.o _ _ (by simp) (by simp)).mono ?_
   rintro e S ⟨U,rfl,t,q⟩;have A:=Qc t;have D:=Qc q;clear t q;go_wp2;go_ret2;exact⟨_,rfl,A.o,D.o⟩
  ·have j:Hid (Zo ⟨3,l,f,g⟩ ⟨4,a,b⟩=(⟨3,l.take (l.length-1)++l.drop (l.length-1+1),f,g⟩,l.getD (l.length-1) 0)):=by
    unfold Zo;rw[zaa (by simp),zab rfl,zaa d,zaa (by simp)]
    have e:l.drop (l.length-1+1)=[]:=List.drop_of_length_le (by omega)
    rw[e,zc8];exact rfl
   rw[j.o];have E:=z (l.length-1) (by omega)
   have m:=Qc (u.o (l.length-1) (by omega))
   obtain⟨M,K⟩:=zg7 (l.length-1);rw[<-K] at E m ⊢;have N:l.length=M+1:=by omega
   generalize l.getD M 0=y at *;generalize l.take M++l.drop (M+1)=L' at *;clear z u j d C k p n K P;rw[N] at m ⊢;have ac:(M:Int)<64:=by omega
   clear N H
   go_enter func174,ntmps174
   go_wp2_with fail
   refine(m.o _ _ (by simp) (by simp)).mono ?_
   rintro e S ⟨U,rfl,t,q⟩;have A:=Qc t;have D:=Qc q;clear t q;go_wp2;go_ret2;exact⟨_,rfl,A.o,D.o⟩
theorem Zk {b:Int} (h:a=b):Ending.returned (.tuple #[v,.int .i64 a])=.returned (.tuple #[v,.int .i64 b]):=by rw[h]
theorem ZxA (kind:Int) (p:kind=2∨kind=3) (v:Value) (l:List Int) (o:Opn) (c:Bool) (g:Int) (B:Nat) (w:World) (i:Qt w B v l) (W:B<=w.heap.size) (q:∀ x ∈ l,I64 x) (A:l.length<=64):
 Calls prog 126 #[.int .i64 kind,v,opV o] w fun e w'=>Zec B w v (Zo ⟨kind,l,c,g⟩ o).1.L (Zo ⟨kind,l,c,g⟩ o).2 e w':=by
 obtain⟨f,a,b⟩:=o;have u:=Qc i;have y:Hid (∀ X,Mv w (w.alloc X) v v):=fun X=>Mv.alloc w v X
 have Q:=Qc (fun n w=>ZeP n w)
 show Calls prog _ #[_,_,.agg #[.int .i64 f,.int .i64 a,.int .i64 b]] w _;by_cases j:f=3
 ·subst j
  obtain⟨ao,cap,rfl⟩:=i.shape;by_cases D:l.length=64
  ·have d:Hid (Zo ⟨kind,l,c,g⟩ ⟨3,a,b⟩=(⟨kind,l,c,g⟩,-1)):=by
    unfold Zo;rw[zab rfl,zab D];exact rfl
   rw[d.o];have I:((l.length:Int) == 64)=true:=zbi.2 (by omega)
   clear D d i q A p
   go_enter func126,ntmps126
   go_wp2;go_ret2;exact⟨_,rfl,u.o.alloc _,y.o _⟩
  ·have d:Hid (Zo ⟨kind,l,c,g⟩ ⟨3,a,b⟩=(⟨kind,l++[Jp a],c,g⟩,(l.length:Int)+1)):=by
    unfold Zo;rw[zab rfl,zaa D];exact rfl
   rw[d.o];have I:((l.length:Int) == 64)=false:=zah.2 (by omega)
   obtain⟨L',C⟩:=zg7 (l++[Jp a]);rw[<-C];have K:=Qc C;have N:Hid ((L'.length:Int)=(l.length:Int)+1):=by rw[C,length_append];exact rfl
   clear D d i q p C
   go_enter func126,ntmps126
   go_wp2_with(first | (go_at_call 173;refine(Q.o _ _).mono ?_;rintro e U ⟨rfl,rfl⟩) | (at_builtin;refine Zez _ rfl _ _ rfl B _ l rfl (u.o.alloc _) _ _ rfl (by simp[Act.eval]) (by omega) (by simp;omega) ?_))
   intro P O k G H;have z:=Mv.app G (by simp) H
   clear G H;rw[<-K.o] at k;have E:=Qc k;obtain⟨T,V,rfl⟩:=k.shape;have F:=Qc ((y.o _).trans z);clear k z;go_wp2;go_ret2;exact⟨_,Zk N.o,E.o,F.o⟩
 ·have M:(f == 3)=false:=zah.2 j
  by_cases m:f=4
  ·subst m
   have J:Hid (∀ X,Calls prog 174 #[.int .i64 kind,v] (w.alloc X) fun e w'=>Zec B (w.alloc X) v (Zo ⟨kind,l,c,g⟩ ⟨4,a,b⟩).1.L (Zo ⟨kind,l,c,g⟩ ⟨4,a,b⟩).2 e w'):=fun X=>Zzs kind p v l c g a b B (w.alloc X) (u.o.alloc X) q A
   generalize (Zo ⟨kind,l,c,g⟩ ⟨4,a,b⟩).1.L=L' at *;generalize (Zo ⟨kind,l,c,g⟩ ⟨4,a,b⟩).2=n at *;clear i q A p j M
   go_enter func126,ntmps126
   go_wp2_with fail
   refine(J.o _).mono ?_;rintro e O ⟨P,rfl,k,z⟩;have E:=Qc k;have F:=Qc ((y.o _).trans z);clear k z;go_wp2;go_ret2;exact⟨_,rfl,E.o,F.o⟩
  ·have S:(f == 4)=false:=zah.2 m
   obtain⟨ao,cap,rfl⟩:=i.shape;by_cases t:f=7
   ·have R:(f == 7)=true:=zbi.2 t
    have d:Hid (Zo ⟨kind,l,c,g⟩ ⟨f,a,b⟩=(⟨kind,l,c,g⟩,(l.length:Int))):=by
     unfold Zo;rw[zaa j,zaa m,zab t];exact rfl
    rw[d.o];clear i q A p j m t d
    go_enter func126,ntmps126
    go_wp2;go_ret2;exact⟨_,rfl,u.o.alloc _,y.o _⟩
   ·have R:(f == 7)=false:=zah.2 t
    have d:Hid (Zo ⟨kind,l,c,g⟩ ⟨f,a,b⟩=(⟨kind,l,c,g⟩,0)):=by
     unfold Zo;rw[zaa j,zaa m,zaa t];exact rfl
    rw[d.o];clear i q A p j m t d
    go_enter func126,ntmps126
    go_wp2;go_ret2;exact⟨_,rfl,u.o.alloc _,y.o _⟩
theorem Qt.drew (h:Qt w B v l):Qt w.drew B v l:=h
theorem Zbu (key:Int) (l:List Int):J5 key 0 l<0↔Z4 key l=false:=by
 rw[Zex];unfold Z4
 cases Yj key l <;> simp
theorem Zvl (h:Z4 key l=true):ZqU key l=(Yj key l).getD 0:=by
 rw[Zly];unfold Z4 at h
 cases hg:Yj key l with
 | none=>rw[hg] at h;simp at h
 | some x=>rfl
theorem ZlT (h:Z4 key l=false):ZqU key l=-1:=by
 rw[Zly];unfold Z4 at h
 cases hg:Yj key l with
 | none=>rfl
 | some x=>rw[hg] at h;simp at h
theorem ZsK (v:Value) (l:List Int) (o:Opn) (Y:Bool) (g:Int) (B:Nat) (w:World) (ho:Qt w B v l) (hB:B<=w.heap.size) (T:Qu (-1099511627776) (-1) l) (ai:l.length<=128):
 Calls prog 127 #[v,opV o] w fun e w'=>Zec B w v (Z2 ⟨4,l,Y,g⟩ o).1.L (Z2 ⟨4,l,Y,g⟩ o).2 e w':=by
 obtain⟨c,a,b⟩:=o;have hi:=ZaC (by decide) (by decide) T
 have HO:=Qc ho;have ad:Hid (∀ X,Mv w (w.alloc X) v v):=fun X=>Mv.alloc w v X
 have HC:=Qc (fun n w=>ZeP n w)
 have HW:=Qc (fun p q W=>G9 p q W)
 have HS:=Qc (fun n l2 f a2 b2 W Q p2=>ZdB n l2 f a2 b2 W Q p2)
 have aa:Hid (∀ W,Qt W B v l->Calls prog 175 #[v,.int .i64 a] W fun e w'=>e=.returned (.tuple #[.int .i64 ((Yj a l).getD 0),.bool (Z4 a l)])∧Below W.heap.size W w'):=fun W h=>Zhn v l a _ _ W (h.rd hi) T (by omega)
 have ae:Hid (∀ n W,Qt W B v l->B<=W.heap.size->Calls prog 178 #[v,.int .i64 a,.int .i64 n] W fun e w'=>∃ v',e=.returned v'∧Qt w' B v' (Xi a n false l)∧Mv W w' v v'):=fun n W i f=>Zho v l a n _ _ B W i f hi T (by omega)
 have ag:Hid (∀ W,Qt W B v l->B<=W.heap.size->Calls prog 176 #[v,.int .i64 a] W fun e w'=>∃ v',e=.returned v'∧Qt w' B v' (Yr a l)∧Mv W w' v v'):=fun W i _=>Zxz v l a _ _ B W i hi T (by omega)
 obtain⟨ao,cap,rfl⟩:=ho.shape;have af:Hid (∀ W,Calls prog 177 #[.slice ao l.length cap] W fun e w'=>e=.returned (.bool (decide (l.length=128)))∧w'=W):=fun W=>ZlS ao l.length cap W
 obtain⟨L',n',hE⟩:∃ L' n',Z2 ⟨4,l,Y,g⟩ ⟨c,a,b⟩=(⟨4,L',Y,g⟩,n'):=by
  unfold Z2
  repeat' split
  all_goals exact⟨_,_,rfl⟩
 rw[hE];have D:=Qc hE;clear hE ho T hi;show Calls prog _ #[_,.agg #[.int .i64 c,.int .i64 a,.int .i64 b]] w fun e w'=>Zec B w (.slice ao l.length cap) L' n' e w'
 by_cases Z:0<=a∧a<=255
 ·have HN:=Qc (zan Z)
  have G:Hid (¬ (a<0∨255<a)):=by
   show ¬ (a<0∨255<a);omega
  clear Z
  cases hh:Z4 a l
  ·have ac:=Qc ((Zbu a l).2 hh)
   have M:=Qc (ZlT hh);rw[hh] at aa;clear hh;generalize (Yj a l).getD 0=y at *
   go_enter func127,ntmps127
   go_wp2_with fail
   refine(HW.o _ _ _).mono ?_;rintro e V ⟨a1,b1,rfl,J,K,m⟩;have j:=(m.block w.heap.size (by simp)).trans (zak w _)
   have Q:=zas V w.heap.size 1 _ _ _ j;have I:=Qc j;have O:=Qc ((ad.o _).trans (Mv.ofBelow m _));have F:=Qc ((HO.o.alloc _).below m zL);clear m j
   go_wp2_with fail
   refine(HS.o _ _ _ _ _ _ J K).mono ?_;rintro e z ⟨rfl,rfl⟩;rw[HN.o];clear J K
   go_wp2_with fail
   refine(aa.o _ F.o).mono ?_;rintro e z ⟨rfl,H⟩;have j:=(H.block w.heap.size (zar.1 I.o).1).trans I.o;have p0:=zas z w.heap.size 0 _ _ _ j;have q1:=zas z w.heap.size 1 _ _ _ j;have q2:=zas z w.heap.size 2 _ _ _ j;have x:=Qc (O.o.trans (Mv.ofBelow H _));have E:=Qc (F.o.below H zL);have S:B<=z.heap.size:=zau hB x.o.size;clear H j I O F Q;by_cases k:c=7
   ·have d:Hid (L'=l∧n'=-1):=by
     have h:=D.o;unfold Z2 at h;rw[zaa G.o,zaa (show ¬ (c≠7∧c≠6∧c≠5) by omega),zaa (show ¬ c=6 by omega),zaa (show ¬ c=5 by omega),M.o] at h
     injection h with i f
     injection i with _ h3
     exact⟨h3.symm,f.symm⟩
    have e7:(c == 7)=true:=zbi.2 k;clear k;go_wp2;go_ret2;exact⟨_,Zk d.o.2.symm,by rw[d.o.1];exact E.o,x.o⟩
   ·have e7:(c == 7)=false:=zah.2 k
    by_cases u:c=6
    ·have d:Hid (L'=Yr a l∧n'=-1):=by
      have h:=D.o;unfold Z2 at h;rw[zaa G.o,zaa (show ¬ (c≠7∧c≠6∧c≠5) by omega),zab (show c=6 by omega),M.o] at h
      injection h with i f
      injection i with _ h3
      exact⟨h3.symm,f.symm⟩
     have e6:(c == 6)=true:=zbi.2 u;clear u k
     go_wp2_with fail
     refine(ag.o _ E.o S).mono ?_;rintro e U ⟨v3,rfl,A,C⟩;have N:=Qc (x.o.trans C);have P:=Qc A;clear A C;go_wp2;go_ret2;exact⟨_,Zk d.o.2.symm,by rw[d.o.1];exact P.o,N.o⟩
    ·have e6:(c == 6)=false:=zah.2 u
     by_cases t:c=5
     ·have e5:(c == 5)=true:=zbi.2 t
      by_cases R:l.length=128
      ·have d:Hid (L'=l∧n'=-2):=by
        have h:=D.o;unfold Z2 at h;rw[zaa G.o,zaa (show ¬ (c≠7∧c≠6∧c≠5) by omega),zaa (show ¬ c=6 by omega),zab t,zab ⟨ac.o,R⟩] at h
        injection h with i f
        injection i with _ h3
        exact⟨h3.symm,f.symm⟩
       have ab:=Qc (zan R);clear t u k R
       go_wp2_with fail
       refine(af.o _).mono ?_;rintro e U ⟨rfl,rfl⟩;rw[ab.o];go_wp2;go_ret2;exact⟨_,Zk d.o.2.symm,by rw[d.o.1];exact E.o,x.o⟩
      ·have d:Hid (L'=Xi a (Jp b) false l∧n'=-1):=by
        have h:=D.o;unfold Z2 at h;rw[zaa G.o,zaa (show ¬ (c≠7∧c≠6∧c≠5) by omega),zaa (show ¬ c=6 by omega),zab t,zaa (fun h=>R h.2),M.o] at h
        injection h with i f
        injection i with _ h3
        exact⟨h3.symm,f.symm⟩
       have ab:=Qc (zai R);clear R;clear t u k
       go_wp2_with fail
       refine(af.o _).mono ?_;rintro e U ⟨rfl,rfl⟩;rw[ab.o];go_wp2
       go_region_with
        (first
         | (go_at_call 173;refine(HC.o _ _).mono ?_;rintro e w3 ⟨rfl,rfl⟩)
         | (go_at_call 178;refine(ae.o _ _ E.o.drew S).mono ?_;rintro e U ⟨v3,rfl,A,C⟩;have N:=Qc (x.o.drew.trans C);have P:=Qc A;clear A C))
       all_goals
        go_wp2;go_ret2;exact⟨_,Zk d.o.2.symm,by rw[d.o.1];exact P.o,N.o⟩
     ·have e5:(c == 5)=false:=zah.2 t
      have d:Hid (L'=l∧n'=0):=by
       have h:=D.o;unfold Z2 at h;rw[zaa G.o,zab (show(c≠7∧c≠6∧c≠5) by omega)] at h
       injection h with i f
       injection i with _ h3
       exact⟨h3.symm,f.symm⟩
      clear t u k;go_wp2;go_ret2;exact⟨_,Zk d.o.2.symm,by rw[d.o.1];exact E.o,x.o⟩
  ·have ac:Hid (¬ J5 a 0 l<0):=fun h=>by rw[(Zbu a l).1 h] at hh;cases hh
   have M:=Qc (Zvl hh);rw[hh] at aa;clear hh;generalize (Yj a l).getD 0=y at *
   go_enter func127,ntmps127
   go_wp2_with fail
   refine(HW.o _ _ _).mono ?_;rintro e V ⟨a1,b1,rfl,J,K,m⟩;have j:=(m.block w.heap.size (by simp)).trans (zak w _)
   have Q:=zas V w.heap.size 1 _ _ _ j;have I:=Qc j;have O:=Qc ((ad.o _).trans (Mv.ofBelow m _));have F:=Qc ((HO.o.alloc _).below m zL);clear m j
   go_wp2_with fail
   refine(HS.o _ _ _ _ _ _ J K).mono ?_;rintro e z ⟨rfl,rfl⟩;rw[HN.o];clear J K
   go_wp2_with fail
   refine(aa.o _ F.o).mono ?_;rintro e z ⟨rfl,H⟩;have j:=(H.block w.heap.size (zar.1 I.o).1).trans I.o;have p0:=zas z w.heap.size 0 _ _ _ j;have q1:=zas z w.heap.size 1 _ _ _ j;have q2:=zas z w.heap.size 2 _ _ _ j;have x:=Qc (O.o.trans (Mv.ofBelow H _));have E:=Qc (F.o.below H zL);have S:B<=z.heap.size:=zau hB x.o.size;clear H j I O F Q;by_cases k:c=7
   ·have d:Hid (L'=l∧n'=y):=by
     have h:=D.o;unfold Z2 at h;rw[zaa G.o,zaa (show ¬ (c≠7∧c≠6∧c≠5) by omega),zaa (show ¬ c=6 by omega),zaa (show ¬ c=5 by omega),M.o] at h
     injection h with i f
     injection i with _ h3
     exact⟨h3.symm,f.symm⟩
    have e7:(c == 7)=true:=zbi.2 k;clear k;go_wp2;go_ret2;exact⟨_,Zk d.o.2.symm,by rw[d.o.1];exact E.o,x.o⟩
   ·have e7:(c == 7)=false:=zah.2 k
    by_cases u:c=6
    ·have d:Hid (L'=Yr a l∧n'=y):=by
      have h:=D.o;unfold Z2 at h;rw[zaa G.o,zaa (show ¬ (c≠7∧c≠6∧c≠5) by omega),zab (show c=6 by omega),M.o] at h
      injection h with i f
      injection i with _ h3
      exact⟨h3.symm,f.symm⟩
     have e6:(c == 6)=true:=zbi.2 u;clear u k
     go_wp2_with fail
     refine(ag.o _ E.o S).mono ?_;rintro e U ⟨v3,rfl,A,C⟩;have N:=Qc (x.o.trans C);have P:=Qc A;clear A C;go_wp2;go_ret2;exact⟨_,Zk d.o.2.symm,by rw[d.o.1];exact P.o,N.o⟩
    ·have e6:(c == 6)=false:=zah.2 u
     by_cases t:c=5
     ·have e5:(c == 5)=true:=zbi.2 t
      have d:Hid (L'=Xi a (Jp b) false l∧n'=y):=by
       have h:=D.o;unfold Z2 at h;rw[zaa G.o,zaa (show ¬ (c≠7∧c≠6∧c≠5) by omega),zaa (show ¬ c=6 by omega),zab t,zaa (fun h=>absurd (show J5 a 0 l<0 from h.1) (by have:=ac.o;omega)),M.o] at h
       injection h with i f
       injection i with _ h3
       exact⟨h3.symm,f.symm⟩
      clear t u k;go_wp2
      go_region_with
       (first
        | (go_at_call 173;refine(HC.o _ _).mono ?_;rintro e w3 ⟨rfl,rfl⟩)
        | (go_at_call 178;refine(ae.o _ _ E.o.drew S).mono ?_;rintro e U ⟨v3,rfl,A,C⟩;have N:=Qc (x.o.drew.trans C);have P:=Qc A;clear A C))
      all_goals
       go_wp2;go_ret2;exact⟨_,Zk d.o.2.symm,by rw[d.o.1];exact P.o,N.o⟩
     ·have e5:(c == 5)=false:=zah.2 t
      have d:Hid (L'=l∧n'=0):=by
       have h:=D.o;unfold Z2 at h;rw[zaa G.o,zab (show(c≠7∧c≠6∧c≠5) by omega)] at h
       injection h with i f
       injection i with _ h3
       exact⟨h3.symm,f.symm⟩
      clear t u k;go_wp2;go_ret2;exact⟨_,Zk d.o.2.symm,by rw[d.o.1];exact E.o,x.o⟩
 ·have HN:=Qc (zai Z)
  have d:Hid (L'=l∧n'=-1):=by
   have h:=D.o;unfold Z2 at h;rw[zab (show a<0∨255<a by omega)] at h
   injection h with i f
   injection i with _ h3
   exact⟨h3.symm,f.symm⟩
  clear Z
  go_enter func127,ntmps127
  go_wp2_with fail
  refine(HW.o _ _ _).mono ?_;rintro e V ⟨a1,b1,rfl,J,K,m⟩;have j:=(m.block w.heap.size (by simp)).trans (zak w _)
  have Q:=zas V w.heap.size 1 _ _ _ j;have I:=Qc j;have O:=Qc ((ad.o _).trans (Mv.ofBelow m _));have F:=Qc ((HO.o.alloc _).below m zL);clear m j
  go_wp2_with fail
  refine(HS.o _ _ _ _ _ _ J K).mono ?_;rintro e z ⟨rfl,rfl⟩;rw[HN.o];clear J K;go_wp2;go_ret2;exact⟨_,Zk d.o.2.symm,by rw[d.o.1];exact F.o,O.o⟩
theorem ZpF (v:Value) (l:List Int) (a b:Int) (k:Bool) (g:Int) (B:Nat) (w:World) (O:Qt w B v l) (hB:B<=w.heap.size) (C:Qu 0 (-1) l) (ad:l.length<=128):
 Calls prog 179 #[v,.int .i64 a,.int .i64 b] w fun e w'=>Zec B w v (Yh ⟨5,l,k,g⟩ ⟨8,a,b⟩).1.L (Yh ⟨5,l,k,g⟩ ⟨8,a,b⟩).2 e w':=by
 have S:=ZaC (by decide) (by decide) C
 have N:=Qc O;have HC:=Qc (fun n w=>ZeP n w)
 have P:=Qc (fun p q W=>G9 p q W)
 have V:=Qc (fun n l2 f a2 b2 W p1 p2=>ZdB n l2 f a2 b2 W p1 p2)
 have ac:Hid (∀ W,Qt W B v l->Calls prog 175 #[v,.int .i64 a] W fun e w'=>e=.returned (.tuple #[.int .i64 (Y3 a l),.bool (Z4 a l)])∧Below W.heap.size W w'):=fun W h=>by
  rw[ZhE];exact Zhn v l a _ _ W (h.rd S) C (by omega)
 have Z:Hid (∀ n W,Qt W B v l->B<=W.heap.size->Calls prog 178 #[v,.int .i64 a,.int .i64 n] W fun e w'=>∃ v',e=.returned v'∧Qt w' B v' (Xi a n false l)∧Mv W w' v v'):=fun n W j f=>Zho v l a n _ _ B W j f S C (by omega)
 have af:=ZaW C a;obtain⟨ao,cap,rfl⟩:=O.shape;have ab:Hid (∀ W,Calls prog 177 #[.slice ao l.length cap] W fun e w'=>e=.returned (.bool (decide (l.length=128)))∧w'=W):=fun W=>ZlS ao l.length cap W
 obtain⟨L',n',U⟩:∃ L' n',Yh ⟨5,l,k,g⟩ ⟨8,a,b⟩=(⟨5,L',k,g⟩,n'):=by
  unfold Yh;rw[zaa (by simp),zaa (by simp)]
  repeat' split
  all_goals exact⟨_,_,rfl⟩
 rw[U];have aa:=Qc U
 have H:Hid ((if a<0∨255<a then((⟨5,l,k,g⟩:St),(-1:Int)) else if b<0 then(⟨5,l,k,g⟩,-1) else if J5 a 0 l<0∧l.length=128 then(⟨5,l,k,g⟩,-2) else(⟨5,Xi a (Jp (Y3 a l+Jp b)) false l,k,g⟩,Jp (Y3 a l+Jp b)))=(⟨5,L',k,g⟩,n')):=by
  refine Qc ?_;have h:=aa.o;unfold Yh at h;rw[zaa (by simp),zaa (by simp)] at h
  simpa using h
 clear U O C S aa;show Calls prog _ _ w fun e w'=>Zec B w (.slice ao l.length cap) L' n' e w'
 have ae:=Zby b;by_cases E:0<=a∧a<=255
 ·have D:=Qc (zan E)
  have R:Hid (¬ (a<0∨255<a)):=by
   show ¬ (a<0∨255<a);omega
  clear E;by_cases hb:b<0
  ·have c:Hid (L'=l∧n'=-1):=by
    have h:=H.o;rw[zaa R.o,zab hb] at h
    injection h with j f
    injection j with _ h3
    exact⟨h3.symm,f.symm⟩
   go_enter func179,ntmps179
   go_wp2_with fail
   refine(P.o _ _ _).mono ?_;rintro e W1 ⟨a1,Y,rfl,t,u,d⟩;have x:=Qc (Mv.ofBelow d (.slice ao l.length cap));have m:=Qc (N.o.below d zL);clear d
   go_wp2_with fail
   refine(V.o _ _ _ _ _ _ t u).mono ?_;rintro e G ⟨rfl,rfl⟩;rw[D.o];go_wp2;go_ret2;exact⟨_,Zk c.o.2.symm,by rw[c.o.1];exact m.o,x.o⟩
  ·go_enter func179,ntmps179
   go_wp2_with fail
   refine(P.o _ _ _).mono ?_;rintro e W1 ⟨a1,Y,rfl,t,u,d⟩;have x:=Qc (Mv.ofBelow d (.slice ao l.length cap));have m:=Qc (N.o.below d zL);clear d
   go_wp2_with fail
   refine(V.o _ _ _ _ _ _ t u).mono ?_;rintro e G ⟨rfl,rfl⟩;rw[D.o];clear t u
   go_wp2_with fail
   refine(ac.o _ m.o).mono ?_;rintro e G ⟨rfl,I⟩;have F:=Qc (x.o.trans (Mv.ofBelow I _));have K:=Qc (m.o.below I zL);have X:B<=G.heap.size:=zau hB F.o.size;clear I x m;by_cases i:Z4 a l=false∧l.length=128
   ·have c:Hid (L'=l∧n'=-2):=by
     have h:=H.o;rw[zaa R.o,zaa (show ¬ b<0 by omega),zab ⟨(Zbu a l).2 i.1,i.2⟩] at h
     injection h with j f
     injection j with _ h3
     exact⟨h3.symm,f.symm⟩
    have Q:=Qc (zan i.2);rw[i.1];clear i
    go_wp2_with fail
    refine(ab.o _).mono ?_;rintro e J ⟨rfl,rfl⟩;rw[Q.o];go_wp2;go_ret2;exact⟨_,Zk c.o.2.symm,by rw[c.o.1];exact K.o,F.o⟩
   ·have c:Hid (L'=Xi a (Jp (Y3 a l+Jp b)) false l∧n'=Jp (Y3 a l+Jp b)):=by
     have h:=H.o;rw[zaa R.o,zaa (show ¬ b<0 by omega),zaa (fun h=>i ⟨(Zbu a l).1 h.1,h.2⟩)] at h
     injection h with j f
     injection j with _ h3
     exact⟨h3.symm,f.symm⟩
    generalize Y3 a l=y at *
    cases hh:Z4 a l
    ·have Q:=Qc (zai (fun h=>i ⟨hh,h⟩))
     clear i hh
     go_wp2_with fail
     refine(ab.o _).mono ?_;rintro e J ⟨rfl,rfl⟩;rw[Q.o]
     go_wp2_with(first | (go_at_call 173;refine(HC.o _ _).mono ?_;rintro e w3 ⟨rfl,rfl⟩) | (go_at_call 178;refine(Z.o _ _ K.o X).mono ?_;rintro e J ⟨v3,rfl,z,A⟩;have M:=Qc (F.o.trans A);have T:=Qc z;clear z A))
     go_ret2;exact⟨_,Zk c.o.2.symm,by rw[c.o.1];exact T.o,M.o⟩
    ·clear i hh
     go_wp2_with(first | (go_at_call 173;refine(HC.o _ _).mono ?_;rintro e w3 ⟨rfl,rfl⟩) | (go_at_call 178;refine(Z.o _ _ K.o X).mono ?_;rintro e J ⟨v3,rfl,z,A⟩;have M:=Qc (F.o.trans A);have T:=Qc z;clear z A))
     go_ret2;exact⟨_,Zk c.o.2.symm,by rw[c.o.1];exact T.o,M.o⟩
 ·have D:=Qc (zai E)
  have c:Hid (L'=l∧n'=-1):=by
   have h:=H.o;rw[zab (show a<0∨255<a by omega)] at h
   injection h with j f
   injection j with _ h3
   exact⟨h3.symm,f.symm⟩
  clear E
  go_enter func179,ntmps179
  go_wp2_with fail
  refine(P.o _ _ _).mono ?_;rintro e W1 ⟨a1,Y,rfl,t,u,d⟩;have x:=Qc (Mv.ofBelow d (.slice ao l.length cap));have m:=Qc (N.o.below d zL);clear d
  go_wp2_with fail
  refine(V.o _ _ _ _ _ _ t u).mono ?_;rintro e G ⟨rfl,rfl⟩;rw[D.o];go_wp2;go_ret2;exact⟨_,Zk c.o.2.symm,by rw[c.o.1];exact m.o,x.o⟩
theorem ZxB (v:Value) (l:List Int) (ak a b:Int) (m:Bool) (g:Int) (B:Nat) (w:World) (ho:Qt w B v l) (Y:B<=w.heap.size) (Z:Qu 0 (-1) l) (aK:l.length<=128):
 Calls prog 180 #[v,.int .i64 a,.int .i64 b] w fun e w'=>Zec B w v (De ⟨5,l,m,g⟩ ⟨ak,a,b⟩).1.L (De ⟨5,l,m,g⟩ ⟨ak,a,b⟩).2 e w':=by
 have hi:=ZaC (by decide) (by decide) Z
 have HO:=Qc ho;have HW:=Qc (fun p q W=>G9 p q W)
 have HS:=Qc (fun n l2 d a2 b2 W p1 p2=>ZdB n l2 d a2 b2 W p1 p2)
 have aj:Hid (∀ k W,Qt W B v l->Calls prog 175 #[v,.int .i64 k] W fun e w'=>e=.returned (.tuple #[.int .i64 (Y3 k l),.bool (Z4 k l)])∧Below W.heap.size W w'):=fun k W h=>by
  rw[ZhE];exact Zhn v l k _ _ W (h.rd hi) Z (by omega)
 obtain⟨ao,cap,rfl⟩:=ho.shape;have ai:Hid (∀ W,Calls prog 177 #[.slice ao l.length cap] W fun e w'=>e=.returned (.bool (decide (l.length=128)))∧w'=W):=fun W=>ZlS ao l.length cap W
 obtain⟨L',n',hE⟩:∃ L' n',De ⟨5,l,m,g⟩ ⟨ak,a,b⟩=(⟨5,L',m,g⟩,n'):=by
  unfold De
  repeat' split
  all_goals exact⟨_,_,rfl⟩
 rw[hE];have V:=Qc hE;have U:=Qc Z;have HI:=Qc hi;clear hE ho Z hi;show Calls prog _ _ w fun e w'=>Zec B w (.slice ao l.length cap) L' n' e w'
 by_cases X:0<=a∧a<=65535
 ·have HN:=Qc (zan X)
  obtain⟨aw,aH⟩:=X;by_cases hb:b<0
  ·have c:Hid (L'=l∧n'=0):=by
    have h:=V.o;unfold De at h;rw[zab (.inr (.inr hb))] at h
    injection h with f d
    injection f with _ h3
    exact⟨h3.symm,d.symm⟩
   go_enter func180,ntmps180
   go_wp2_with fail
   refine(HW.o _ _ _).mono ?_;rintro e W1 ⟨a1,b1,rfl,D,H,j⟩;have I:=Qc (Mv.ofBelow j (.slice ao l.length cap));have u:=Qc (HO.o.below j zL);clear j
   go_wp2_with fail
   refine(HS.o _ _ _ _ _ _ D H).mono ?_;rintro e W2 ⟨rfl,rfl⟩;rw[HN.o];go_wp2;go_ret2;exact⟨_,Zk c.o.2.symm,by rw[c.o.1];exact u.o,I.o⟩
  ·have aL:0<=b:=by omega
   have t:Hid ((if J5 (a / 256) 0 l<0∨Y3 (a / 256) l<b then((⟨5,l,m,g⟩:St),(0:Int)) else if a / 256=a % 256 then(⟨5,l,m,g⟩,1) else if(J5 (a % 256) 0 l<0∧l.length=128)∨1099511627776<Y3 (a % 256) l+b then(⟨5,l,m,g⟩,0) else(⟨5,Xi (a % 256) (Y3 (a % 256) l+b) false (Xi (a / 256) (Y3 (a / 256) l-b) false l),m,g⟩,1))=(⟨5,L',m,g⟩,n')):=by
    have h:=V.o;unfold De at h;rw[zaa (by simp;omega)] at h
    exact h
   clear V hb;have ay:Hid (a.tdiv 256=a / 256):=Int.tdiv_eq_ediv_of_nonneg aw;have ax:Hid (a.tmod 256=a % 256):=zcx aw;have aE:0<=a / 256:=by omega
   have au:a / 256<=255:=by omega
   have aD:0<=a % 256:=by omega
   have aC:a % 256<=255:=by omega
   have aG:=ZaW U.o (a / 256);have aB:=ZaW U.o (a % 256);obtain⟨F,hF⟩:=zg7 (a / 256);obtain⟨T,hT⟩:=zg7 (a % 256);rw[<-hF] at ay t aE au aG;rw[<-hT] at ax t aD aC aB;clear hF hT;have aI:=ay.o;have aJ:=ax.o
   go_enter func180,ntmps180
   go_wp2_with fail
   refine(HW.o _ _ _).mono ?_;rintro e W1 ⟨a1,b1,rfl,D,H,j⟩;have I:=Qc (Mv.ofBelow j (.slice ao l.length cap));have u:=Qc (HO.o.below j zL);clear j
   go_wp2_with fail
   refine(HS.o _ _ _ _ _ _ D H).mono ?_;rintro e W2 ⟨rfl,rfl⟩;rw[HN.o];clear D H
   go_wp2_with fail
   refine(aj.o _ _ u.o).mono ?_;rintro e W2 ⟨rfl,am⟩;have J:=Qc (I.o.trans (Mv.ofBelow am _));have C:=Qc (u.o.below am zL);have aA:B<=W2.heap.size:=zau Y J.o.size;clear am I u
   cases hh:Z4 F l
   ·have c:Hid (L'=l∧n'=0):=by
     have h:=t.o;rw[zab (.inl ((Zbu F l).2 hh))] at h
     injection h with f d
     injection f with _ h3
     exact⟨h3.symm,d.symm⟩
    clear hh;go_wp2;go_ret2;exact⟨_,Zk c.o.2.symm,by rw[c.o.1];exact C.o,J.o⟩
   ·have E:Hid (¬ J5 F 0 l<0):=fun h=>by rw[(Zbu F l).1 h] at hh;cases hh
    clear hh;by_cases ae:Y3 F l<b
    ·have c:Hid (L'=l∧n'=0):=by
      have h:=t.o;rw[zab (.inr ae)] at h
      injection h with f d
      injection f with _ h3
      exact⟨h3.symm,d.symm⟩
     clear E;go_wp2;go_ret2;exact⟨_,Zk c.o.2.symm,by rw[c.o.1];exact C.o,J.o⟩
    ·by_cases A:F=T
     ·have hq:(F == T)=true:=zbi.2 A
      have c:Hid (L'=l∧n'=1):=by
       have h:=t.o;rw[zaa (fun h=>h.elim E.o ae),zab A] at h
       injection h with f d
       injection f with _ h3
       exact⟨h3.symm,d.symm⟩
      clear E A;go_wp2;go_ret2;exact⟨_,Zk c.o.2.symm,by rw[c.o.1];exact C.o,J.o⟩
     ·have hq:(F == T)=false:=zah.2 A
      have ab:=Qc A;have aa:=Qc ae;clear A
      go_wp2_with fail
      refine(aj.o _ _ C.o).mono ?_;rintro e W3 ⟨rfl,al⟩;have G:=Qc (J.o.trans (Mv.ofBelow al _));have S:=Qc (C.o.below al zL);have ar:B<=W3.heap.size:=zau Y G.o.size;clear al J C aA;by_cases i:Z4 T l=false∧l.length=128
      ·have M:=Qc (zan i.2)
       have c:Hid (L'=l∧n'=0):=by
        have h:=t.o;rw[zaa (fun h=>by have:=E.o;have:=aa.o;omega),zaa ab.o,zab (.inl ⟨(Zbu T l).2 i.1,i.2⟩)] at h
        injection h with f d
        injection f with _ h3
        exact⟨h3.symm,d.symm⟩
       rw[i.1];clear i
       go_wp2_with fail
       refine(ai.o _).mono ?_;rintro e W4 ⟨rfl,rfl⟩;rw[M.o];go_wp2;go_ret2;exact⟨_,Zk c.o.2.symm,by rw[c.o.1];exact S.o,G.o⟩
      ·by_cases az:1099511627776<Y3 T l+b
       ·have c:Hid (L'=l∧n'=0):=by
         have h:=t.o;rw[zaa (fun h=>by have:=E.o;have:=aa.o;omega),zaa ab.o,zab (.inr az)] at h
         injection h with f d
         injection f with _ h3
         exact⟨h3.symm,d.symm⟩
        cases hh:Z4 T l
        ·have M:=Qc (zai (fun h=>i ⟨hh,h⟩))
         clear i hh
         go_wp2_with fail
         refine(ai.o _).mono ?_;rintro e W4 ⟨rfl,rfl⟩;rw[M.o];go_wp2;go_ret2;exact⟨_,Zk c.o.2.symm,by rw[c.o.1];exact S.o,G.o⟩
        ·clear i hh
         go_wp2;go_ret2;exact⟨_,Zk c.o.2.symm,by rw[c.o.1];exact S.o,G.o⟩
       ·have aF:=Qc az
        have c:Hid (L'=Xi T (Y3 T l+b) false (Xi F (Y3 F l-b) false l)∧n'=1):=by
         have h:=t.o;rw[zaa (fun h=>by have:=E.o;have:=aa.o;omega),zaa ab.o,zaa (fun h=>h.elim (fun x=>i ⟨(Zbu T l).1 x.1,x.2⟩) (fun x=>by have:=aF.o;omega))] at h
         injection h with f d
         injection f with _ h3
         exact⟨h3.symm,d.symm⟩
        have an:Hid (Qu 0 (-1) (Xi F (Y3 F l-b) false l)):=Zbc F _ 0 (by omega) (by omega) au l (-1) U.o (by omega)
        have av:Hid ((Xi F (Y3 F l-b) false l).length<=1000000):=by
         have:=Zgo F (Y3 F l-b) l false;show(Xi F (Y3 F l-b) false l).length<=1000000;omega
        have ap:Hid (∀ W,Qt W B (.slice ao l.length cap) l->B<=W.heap.size->Calls prog 178 #[.slice ao l.length cap,.int .i64 F,.int .i64 (Y3 F l-b)] W fun e w'=>∃ v',e=.returned v'∧Qt w' B v' (Xi F (Y3 F l-b) false l)∧Mv W w' (.slice ao l.length cap) v'):=fun W f d=>Zho _ l F _ _ _ B W f d HI.o U.o (by omega)
        have aq:Hid (∀ O W,Qt W B O (Xi F (Y3 F l-b) false l)->B<=W.heap.size->Calls prog 178 #[O,.int .i64 T,.int .i64 (Y3 T l+b)] W fun e w'=>∃ v',e=.returned v'∧Qt w' B v' (Xi T (Y3 T l+b) false (Xi F (Y3 F l-b) false l))∧Mv W w' O v'):=fun O W f d=>Zho O _ T _ _ _ B W f d (ZaC (by decide) (by decide) an.o) an.o av.o
        generalize Xi T (Y3 T l+b) false (Xi F (Y3 F l-b) false l)=L2 at *;generalize Xi F (Y3 F l-b) false l=L1 at *;generalize Y3 F l=y at *;generalize Y3 T l=z at *;clear an av t aj
        cases hh:Z4 T l
        ·have M:=Qc (zai (fun h=>i ⟨hh,h⟩))
         clear i hh
         go_wp2_with fail
         refine(ai.o _).mono ?_;rintro e W4 ⟨rfl,rfl⟩;rw[M.o]
         go_wp2_with fail
         refine(ap.o _ S.o ar).mono ?_;rintro e W5 ⟨v5,rfl,K,P⟩;have N:=Qc (G.o.trans P);have ac:=Qc K;have af:B<=W5.heap.size:=zau Y N.o.size;clear K P
         go_wp2_with fail
         refine(aq.o _ _ ac.o af).mono ?_;rintro e W6 ⟨v6,rfl,Q,R⟩;have ad:=Qc (N.o.trans R);have ag:=Qc Q;clear Q R;go_wp2;go_ret2;exact⟨_,Zk c.o.2.symm,by rw[c.o.1];exact ag.o,ad.o⟩
        ·clear i hh
         go_wp2_with fail
         refine(ap.o _ S.o ar).mono ?_;rintro e W5 ⟨v5,rfl,K,P⟩;have N:=Qc (G.o.trans P);have ac:=Qc K;have af:B<=W5.heap.size:=zau Y N.o.size;clear K P
         go_wp2_with fail
         refine(aq.o _ _ ac.o af).mono ?_;rintro e W6 ⟨v6,rfl,Q,R⟩;have ad:=Qc (N.o.trans R);have ag:=Qc Q;clear Q R;go_wp2;go_ret2;exact⟨_,Zk c.o.2.symm,by rw[c.o.1];exact ag.o,ad.o⟩
 ·have HN:=Qc (zai X)
  have c:Hid (L'=l∧n'=0):=by
   have h:=V.o;unfold De at h;rw[zab (show a<0∨65535<a∨b<0 by omega)] at h
   injection h with f d
   injection f with _ h3
   exact⟨h3.symm,d.symm⟩
  clear X
  go_enter func180,ntmps180
  go_wp2_with fail
  refine(HW.o _ _ _).mono ?_;rintro e W1 ⟨a1,b1,rfl,D,H,j⟩;have I:=Qc (Mv.ofBelow j (.slice ao l.length cap));have u:=Qc (HO.o.below j zL);clear j
  go_wp2_with fail
  refine(HS.o _ _ _ _ _ _ D H).mono ?_;rintro e W2 ⟨rfl,rfl⟩;rw[HN.o];go_wp2;go_ret2;exact⟨_,Zk c.o.2.symm,by rw[c.o.1];exact u.o,I.o⟩
theorem Zvm (a:Qu least (-1) l) (h:Z4 key l=true):0<=key∧key<=255:=by
 unfold Z4 at h
 cases hg:Yj key l with
 | none=>rw[hg] at h;simp at h
 | some x=>
  have:=ZhF a hg;omega
theorem ZpG (v:Value) (l:List Int) (o:Opn) (c:Bool) (g:Int) (B:Nat) (w:World) (z:Qt w B v l) (P:B<=w.heap.size) (i:Qu 0 (-1) l) (I:l.length<=128):
 Calls prog 128 #[v,opV o] w fun e w'=>Zec B w v (Yh ⟨5,l,c,g⟩ o).1.L (Yh ⟨5,l,c,g⟩ o).2 e w':=by
 obtain⟨d,a,b⟩:=o;have D:=ZaC (by decide) (by decide) i
 have m:=Qc z;have A:Hid (∀ X,Mv w (w.alloc X) v v):=fun X=>Mv.alloc w v X
 show Calls prog _ #[_,.agg #[.int .i64 d,.int .i64 a,.int .i64 b]] w _;by_cases u:d=7
 ·subst u
  have F:Hid (∀ W,Qt W B v l->Calls prog 175 #[v,.int .i64 a] W fun e w'=>e=.returned (.tuple #[.int .i64 ((Yj a l).getD 0),.bool (Z4 a l)])∧Below W.heap.size W w'):=fun W h=>Zhn v l a _ _ W (h.rd D) i (by omega)
  have k:Hid (Yh ⟨5,l,c,g⟩ ⟨7,a,b⟩=(⟨5,l,c,g⟩,ZqU a l)):=by
   refine Qc ?_;unfold Yh;rw[zaa (by simp),zaa (by simp)]
   by_cases J:a<0∨255<a
   ·rw[zab J]
    have j:Z4 a l=false:=by
     cases h:Z4 a l
     ·rfl
     ·have:=Zvm i h
      omega
    rw[ZlT j]
   ·rw[zaa J,zab rfl]
  rw[k.o];clear k z i D
  cases j:Z4 a l
  ·have x:=Qc (ZlT j)
   rw[x.o];rw[j] at F;clear x j;generalize (Yj a l).getD 0=y at *
   go_enter func128,ntmps128
   go_wp2_with fail
   refine(F.o _ (m.o.alloc _)).mono ?_;rintro e H ⟨rfl,f⟩;have q:=Qc ((A.o _).trans (Mv.ofBelow f _));have p:=Qc ((m.o.alloc _).below f zL);clear f;go_wp2;go_ret2;exact⟨_,rfl,p.o,q.o⟩
  ·have x:=Qc (Zvl j)
   rw[x.o];rw[j] at F;clear x j;generalize (Yj a l).getD 0=y at *
   go_enter func128,ntmps128
   go_wp2_with fail
   refine(F.o _ (m.o.alloc _)).mono ?_;rintro e H ⟨rfl,f⟩;have q:=Qc ((A.o _).trans (Mv.ofBelow f _));have p:=Qc ((m.o.alloc _).below f zL);clear f;go_wp2;go_ret2;exact⟨_,rfl,p.o,q.o⟩
 ·have N:(d == 7)=false:=zah.2 u
  by_cases C:d=8
  ·subst C
   have G:Hid (∀ X,Calls prog 179 #[v,.int .i64 a,.int .i64 b] (w.alloc X) fun e w'=>Zec B (w.alloc X) v (Yh ⟨5,l,c,g⟩ ⟨8,a,b⟩).1.L (Yh ⟨5,l,c,g⟩ ⟨8,a,b⟩).2 e w'):=fun X=>ZpF v l a b c g B (w.alloc X) (m.o.alloc X) (by simp;omega) i I
   generalize (Yh ⟨5,l,c,g⟩ ⟨8,a,b⟩).1.L=L' at *;generalize (Yh ⟨5,l,c,g⟩ ⟨8,a,b⟩).2=n at *;clear z D i u N
   go_enter func128,ntmps128
   go_wp2_with fail
   refine(G.o _).mono ?_;rintro e H ⟨M,rfl,E,f⟩;have p:=Qc E;have q:=Qc ((A.o _).trans f);clear E f;go_wp2;go_ret2;exact⟨_,rfl,p.o,q.o⟩
  ·have O:(d == 8)=false:=zah.2 C
   by_cases t:d=9
   ·have k:Hid (Yh ⟨5,l,c,g⟩ ⟨d,a,b⟩=De ⟨5,l,c,g⟩ ⟨d,a,b⟩):=zab t
    rw[k.o];have K:(d == 9)=true:=zbi.2 t;have G:Hid (∀ X,Calls prog 180 #[v,.int .i64 a,.int .i64 b] (w.alloc X) fun e w'=>Zec B (w.alloc X) v (De ⟨5,l,c,g⟩ ⟨d,a,b⟩).1.L (De ⟨5,l,c,g⟩ ⟨d,a,b⟩).2 e w'):=fun X=>ZxB v l d a b c g B (w.alloc X) (m.o.alloc X) (by simp;omega) i I
    generalize (De ⟨5,l,c,g⟩ ⟨d,a,b⟩).1.L=L' at *;generalize (De ⟨5,l,c,g⟩ ⟨d,a,b⟩).2=n at *;clear z D i u C t k
    go_enter func128,ntmps128
    go_wp2_with fail
    refine(G.o _).mono ?_;rintro e H ⟨M,rfl,E,f⟩;have p:=Qc E;have q:=Qc ((A.o _).trans f);clear E f;go_wp2;go_ret2;exact⟨_,rfl,p.o,q.o⟩
   ·have K:(d == 9)=false:=zah.2 t
    have k:Hid (Yh ⟨5,l,c,g⟩ ⟨d,a,b⟩=(⟨5,l,c,g⟩,0)):=by
     refine Qc ?_;unfold Yh;rw[zaa t,zab ⟨u,C⟩]
    rw[k.o];clear z D i u C t k
    go_enter func128,ntmps128
    go_wp2;go_ret2;exact⟨_,rfl,m.o.alloc _,A.o _⟩
theorem ZxC (kind:Int) (ao:Option Addr) (n cap:Nat) (T:Bool) (g a:Int) (w:World):
 Calls prog 123 #[.agg #[.int .i64 kind,.slice ao n cap,.bool T,.int .i64 g],.int .i64 a] w fun e w'=>e=.returned (.agg #[.int .i64 kind,.slice ao n cap,.bool true,.int .i64 (if 0<=a∧a<=2 then a else g)])∧Below w.heap.size w w':=by
 have F:=Qc (fun p q W=>G9 p q W)
 have G:=Qc (fun n R Y S L W H U=>ZdB n R Y S L W H U)
 have k:Hid (∀ x y,Below w.heap.size w ((w.alloc x).alloc y)):=fun x y=>((zac _ _).alloc zL x).alloc (by simp) y
 by_cases f:0<=a∧a<=2
 ·rw[zab f]
  have m:=Qc (zan f);clear f
  go_enter func123,ntmps123
  go_wp2_with fail
  refine(F.o _ _ _).mono ?_;rintro e c ⟨B,t,rfl,i,j,d⟩;have b:Zpb c w.heap.size _ _:=(Zpb.made w _ _).below d (by simp)
  have P:=(b.s 0).1;have J:=(b.s 1).1;have X:=(b.s 2).1;have Q:=(b.s 3).1;have V:=(b.s 2).2;have O:=(b.s 3).2;have z:=(b.r 0).1;have C:=(b.r 1).1;have D:=(b.r 2).1;have l:=(b.r 3).1;have M:=(b.r 0).2;have N:=(b.r 1).2;have I:=(b.r 2).2;have K:=(b.r 3).2;have E:=Qc ((k.o _ _).trans (d.mono (k.o _ _).size));have u:Hid (∀ x,(c.setCell ⟨w.heap.size,2,none⟩ x).cell? ⟨B,0,none⟩=some (.int .i64 0)):=fun x=>(zbu _ _ _ _ (by simp)).trans i
  have A:Hid (∀ x,(c.setCell ⟨w.heap.size,2,none⟩ x).cell? ⟨t,0,none⟩=some (.int .i64 2)):=fun x=>(zbu _ _ _ _ (by simp)).trans j
  clear d b i j
  go_wp2_with fail
  refine(G.o _ _ _ _ _ _ (u.o _) (A.o _)).mono ?_;rintro e Z ⟨rfl,rfl⟩;rw[m.o];go_wp2;refine zax (v:=.agg #[.int .i64 kind,.slice ao n cap,.bool true,.int .i64 a]) (by simp[results,Tryz.results123,go_sem,z,C,D,l]) rfl ?_
  exact⟨rfl,((((((E.o.setCell zL _).setCell zL _).setCell (zdt _) _).setCell (zdt _) _).setCell (zdt _) _).setCell (zdt _) _)⟩
 ·rw[zaa f]
  have m:=Qc (zai f);clear f
  go_enter func123,ntmps123
  go_wp2_with fail
  refine(F.o _ _ _).mono ?_;rintro e c ⟨B,t,rfl,i,j,d⟩;have b:Zpb c w.heap.size _ _:=(Zpb.made w _ _).below d (by simp)
  have P:=(b.s 0).1;have J:=(b.s 1).1;have X:=(b.s 2).1;have Q:=(b.s 3).1;have V:=(b.s 2).2;have O:=(b.s 3).2;have z:=(b.r 0).1;have C:=(b.r 1).1;have D:=(b.r 2).1;have l:=(b.r 3).1;have M:=(b.r 0).2;have N:=(b.r 1).2;have I:=(b.r 2).2;have K:=(b.r 3).2;have E:=Qc ((k.o _ _).trans (d.mono (k.o _ _).size));have u:Hid (∀ x,(c.setCell ⟨w.heap.size,2,none⟩ x).cell? ⟨B,0,none⟩=some (.int .i64 0)):=fun x=>(zbu _ _ _ _ (by simp)).trans i
  have A:Hid (∀ x,(c.setCell ⟨w.heap.size,2,none⟩ x).cell? ⟨t,0,none⟩=some (.int .i64 2)):=fun x=>(zbu _ _ _ _ (by simp)).trans j
  clear d b i j
  go_wp2_with fail
  refine(G.o _ _ _ _ _ _ (u.o _) (A.o _)).mono ?_;rintro e Z ⟨rfl,rfl⟩;rw[m.o];go_wp2;refine zax (v:=.agg #[.int .i64 kind,.slice ao n cap,.bool true,.int .i64 g]) (by simp[results,Tryz.results123,go_sem,z,C,D,l]) rfl ?_
  exact⟨rfl,(((((E.o.setCell zL _).setCell (zdt _) _).setCell (zdt _) _).setCell (zdt _) _).setCell (zdt _) _)⟩
end Go.Proofs.YtnahjngbneicaaaGreatDoor
