import Derived.Test.YtnahjngbneicaaaGreatDoorPack5
namespace Go.Proofs.YtnahjngbneicaaaGreatDoor
open _root_.Go.Proofs.Tryz
open List (length_append)
set_option maxHeartbeats 4000000
set_option maxRecDepth 100000
open Go.RowKit
variable {l:List Int} {a key least n p:Int} {w w':World} {B B' C b o:Nat} {cs:Array Value} {t:List Ent} {v:Value} {r:Rec}
theorem Zno (g cap:Nat) (l:List Ent) (B:Nat) (w:World) (Z:Xn w B (.slice (some ⟨g,0,none⟩) l.length cap) l) (hB:B<=w.heap.size) (i:Nat) (hi:i<l.length) (al:cap<l.length+1) (ao:l.length<=100000) (e:Ent) (I:Int) (hI:I=(i:Nat)) (N:Nat) (hN:N=w.heap.size):
 Calls prog 88 #[.slice (some ⟨g,0,none⟩) l.length cap,.int .i64 I,.slice (some ⟨N,0,none⟩) 1 1] (w.alloc (.cells (Gq e) 85)) fun x w'=>Zzs w B (l.take i++(e::l.drop i)) x w':=by
 subst hI;rcases Z.row with ⟨f,-⟩ | ⟨g',aH,cur,f,aq,ac,V,hn,hm,hs,S⟩
 ·cases f
 injection f with f _ h3
 injection f with f
 injection f with f
 subst f h3;clear Z;obtain⟨i0,ae,ad,ah,q⟩:=info_parts ZgV;have hv:(w.alloc (.cells (Gq e) 85)).heap[N]?=some (.cells (Gq e) 85 (0,0)):=by rw[hN];exact heap_alloc_new w _
 have M:(w.alloc (.cells (Gq e) 85)).heap[g]?=some (.cells cur 85 (0,0)):=(Below.heap_alloc _ _ _ ac).trans V;have Y:Hid (Below B w (w.alloc (.cells (Gq e) 85))):=(Below.refl _ _).alloc hB _;have an:(w.alloc (.cells (Gq e) 85)).heap.size=w.heap.size+1:=by simp
 generalize w.alloc (.cells (Gq e) 85)=W at *;have J:(Qg [e]).length=3:=Xh [e];have T:(Qg (l.drop i)).length=(l.length-i)*3:=by rw[Xh,List.length_drop]
 have p:((Qg l).take (i*3)).length=i*3:=by rw[List.length_take,Xh];omega
 have ak:(Builtin.firstCells i0.size i (.slice (some ⟨g,0,none⟩) i cap)).run prog W.drew=.ok ((Qg l).take (i*3)).toArray W.drew:=by
  rw[ah]
  exact run_firstCells_some W.drew 3 i ⟨g,0,none⟩ i cap ((Qg l).take (i*3)) p (fun j v a=>by
   have C:j<i*3:=by rw[<-p];exact(List.getElem?_eq_some_iff.1 a).1
   rw[List.getElem?_take_of_lt C] at a;rw[Addr.add_lit,Nat.zero_add,cell_of_row W.drew g j _ _ _ M,S j (by omega)]
   exact a)
 have H:i+(l.length+1-i)=l.length+1:=by omega
 have ai:(l.length:Int)+1-(i:Int)=((l.length+1-i:Nat):Int):=by omega
 obtain⟨G,y⟩:∃ G,G=grownCap W (l.length+1) cap 85:=⟨_,rfl⟩;obtain⟨b,D⟩:∃ b,b=((Qg l).take (i*3)).toArray++Builtin.zeroCells (Value.agg #[.int .i64 0,.int .i64 0,.int .i64 0]).cells (l.length+1-i)++Builtin.zeroCells (Value.agg #[.int .i64 0,.int .i64 0,.int .i64 0]).cells (G-(l.length+1)):=⟨_,rfl⟩
 have ap:∀ ty,(Builtin.append_ #[39,3] ty #[.slice (some ⟨g,0,none⟩) i cap,.int .i64 ((l.length:Int)+1-(i:Int))]).run prog W=.ok (.slice (some ⟨W.heap.size,0,none⟩) (l.length+1) G) ((W.alloc (.cells b 85)).drew):=fun ty=>by
  have h:=Lib.run_append_grow_zeros W 39 3 ty 85 i0 _ .i64 .i64 underlying39 underlying3 ae ad (some ⟨g,0,none⟩) i cap _ ak (l.length+1-i) (by omega) (by omega) (by omega) (by omega) (by rw[q];omega) (by rw[q,H];exact growslice_fits_wide al (by omega))
  rw[H,<-y,<-D,<-ai] at h;exact h
 have am:l.length+1<=G:=by rw[y];exact grownCap_ge W _ _ _
 have af:G<=maxLen:=by rw[y];exact grownCap_le_maxLen W (l.length+1) cap 85 (by unfold maxLen;omega)
 have L:∀ n,(Builtin.zeroCells (Value.agg #[.int .i64 0,.int .i64 0,.int .i64 0]).cells n).size=n*3:=fun n=>by
  rw[<-Array.length_toList,Zko,Gk]
 have U:b.size=G*3:=by
  rw[D,Array.size_append,Array.size_append,L,L,List.size_toArray,p];omega
 have aj:∀ j,j<i*3->b[j]?=(Qg l)[j]?:=fun j a=>by
  rw[D,Array.append_assoc,Array.getElem?_append_left (by rw[List.size_toArray,p];exact a),List.getElem?_toArray,List.getElem?_take_of_lt a]
 have t:(W.alloc (.cells b 85)).drew.heap[W.heap.size]?=some (.cells b 85 (0,0)):=heap_alloc_new W _;have K:(W.alloc (.cells b 85)).drew.heap[N]?=some (.cells (Gq e) 85 (0,0)):=(Below.heap_alloc W _ N (by omega)).trans hv
 have Q:(W.alloc (.cells b 85)).drew.heap[g]?=some (.cells cur 85 (0,0)):=(Below.heap_alloc W _ g (by omega)).trans M
 have R:Hid (Below B w (W.alloc (.cells b 85)).drew):=ZZ (Zib (Y.o.alloc (by omega) _))
 have z:B<=W.heap.size:=by omega
 have ar:N≠W.heap.size:=by omega
 have ag:g≠W.heap.size:=by omega
 obtain⟨d,E⟩:∃ d,d=(W.alloc (.cells b 85)).drew:=⟨_,rfl⟩;rw[<-E] at t K Q R
 have X:∀ ty m,(Builtin.copy_ #[39,39] ty #[.slice (some ⟨W.heap.size,i*3,none⟩) (l.length+1-i) m,.slice (some ⟨N,0,none⟩) 1 1]).run prog d=.ok (goInt (Nat.min 1 (l.length+1-i))) (d.setCells W.heap.size (i*3) (Qg [e])):=fun ty m=>
  ZaO d _ _ ty 85 3 W.heap.size (i*3) (l.length+1-i) m ⟨N,0,none⟩ 1 1 (Qg [e]) underlying39 ZgW (by rw[J];simp only [Nat.min_def];split <;> omega)
   (fun j v a=>by
    rw[Addr.add_lit,Nat.zero_add,cell_of_row d N _ _ _ _ K]
    have:(Qg [e])[j]?=(Gq e)[j]?:=by
     have C:j<3:=by rw[<-J];exact(List.getElem?_eq_some_iff.1 a).1
     have:=Zv [e] 0 j (by simp) C
     rwa [Nat.zero_mul,Nat.zero_add] at this
    rw[<-this]
    exact a)
   (fun j a=>by
    rw[cell_of_row d _ _ _ _ _ t,Array.getElem?_eq_getElem (by omega)]
    rfl) (fun j a=>frozen_of_row d _ _ _ _ t) (Zac _)
 obtain⟨c,u⟩:∃ c,c=(d.setCells W.heap.size (i*3) (Qg [e])).drew:=⟨_,rfl⟩;have A:c.heap[W.heap.size]?=some (.cells (Zfm b (i*3) (Qg [e])) 85 (0,0)):=by rw[u];exact Xy _ _ _ _ d b t
 have ab:c.heap[g]?=some (.cells cur 85 (0,0)):=by
  rw[u];exact(Zar W.heap.size _ _ d g ag).trans Q
 have aa:Hid (Below B w c):=ZZ (by rw[u];exact Zib (Gy z _ _ _ R.o))
 have F:∀ ty m sc,(Builtin.copy_ #[39,39] ty #[.slice (some ⟨W.heap.size,(i+1)*3,none⟩) (l.length-i) m,.slice (some ⟨g,i*3,none⟩) (l.length-i) sc]).run prog c=.ok (goInt (Nat.min (l.length-i) (l.length-i))) (c.setCells W.heap.size ((i+1)*3) (Qg (l.drop i))):=fun ty m sc=>
  ZaO c _ _ ty 85 3 W.heap.size ((i+1)*3) (l.length-i) m ⟨g,i*3,none⟩ (l.length-i) sc (Qg (l.drop i)) underlying39 ZgW (by rw[T];simp only [Nat.min_def];split <;> omega)
   (fun j v a=>by
    have C:j<(l.length-i)*3:=by rw[<-T];exact(List.getElem?_eq_some_iff.1 a).1
    rw[Addr.add_lit,cell_of_row c g _ _ _ _ ab,S _ (by omega)]
    rw[Zcg,List.getElem?_drop] at a
    exact a)
   (fun j a=>by
    rw[cell_of_row c _ _ _ _ _ A,Array.getElem?_eq_getElem (by rw[Xr];omega)]
    rfl) (fun j a=>frozen_of_row c _ _ _ _ A) (Zac _)
 have O:Hid (Zzs w B (l.take i++(e::l.drop i)) (.returned (.slice (some ⟨W.heap.size,0,none⟩) (l.length+1) G)) (c.setCells W.heap.size ((i+1)*3) (Qg (l.drop i)))):=ZZ (by
  refine⟨_,rfl,Xn.ofRow (ZaZ l i (by omega) e).symm z (Xy _ _ _ _ c _ A) (by rw[ZaZ l i (by omega) e];exact am) af (by rw[Xr,Xr];exact U) (fun j a=>?_),?_⟩
  ·rw[ZaZ l i (by omega) e] at a
   refine Zkr l i (by omega) e (fun j=>(Zfm (Zfm b (i*3) (Qg [e])) ((i+1)*3) (Qg (l.drop i)))[j]?) (fun k P=>?_) (fun k P=>?_) (fun k P=>?_) j a
   ·show(Zfm (Zfm b (i*3) (Qg [e])) ((i+1)*3) (Qg (l.drop i)))[k]?=_
    rw[Yq _ _ _ _ (by rw[Xr];omega),if_neg (by omega),Yq _ _ _ _ (by omega),if_neg (by omega)]
    exact aj k P
   ·show(Zfm (Zfm b (i*3) (Qg [e])) ((i+1)*3) (Qg (l.drop i)))[i*3+k]?=_
    rw[Yq _ _ _ _ (by rw[Xr];omega),if_neg (by omega),Yq _ _ _ _ (by omega),if_pos (by omega),Nat.add_sub_cancel_left]
   ·show(Zfm (Zfm b (i*3) (Qg [e])) ((i+1)*3) (Qg (l.drop i)))[(i+1)*3+k]?=_
    rw[Yq _ _ _ _ (by rw[Xr];omega),if_pos (by omega),Nat.add_sub_cancel_left]
  ·exact Gy z _ _ _ aa.o)
 rw[u] at O F;rw[E] at O F X;clear u E ab A t K Q U aj L aa R ak D S hs V M hv hm Y T J p q ah ad ae y ar ag af ai H an hN z;have aO:prog.follows .mixedOrders=true:=by kernel_rfl
 have q:¬ ((i:Int)=(l.length:Int)):=by omega
 have aK:((i:Int) == (l.length:Int))=false:=beq_eq_false_iff_ne.2 q;have az:IntKind.i64.wrap ((i:Int)+1)=(i:Int)+1:=by rw[IntKind.wrap_i64];omega
 have aI:IntKind.i64.wrap ((l.length:Int)+1)=(l.length:Int)+1:=by rw[IntKind.wrap_i64];omega
 have ax:(0:Int)<=(i:Int)+1:=by omega
 have aD:i<=l.length:=by omega
 have aC:(i:Int)<=(l.length:Int):=by omega
 have aL:(i:Int)<=(cap:Int):=by omega
 have av:i<=cap:=by omega
 have aN:((i:Int)+1).toNat=i+1:=by omega
 have p:((l.length:Int)+1).toNat=l.length+1:=by omega
 have au:¬ (G=i+1):=by omega
 have aG:(i:Int)<=(l.length:Int)+1:=by omega
 have aJ:¬ (cap=i):=by omega
 have aM:¬ (G=i):=by omega
 have aw:(cap:Int)<(l.length:Int)+1:=by omega
 have ay:(i:Int)+1<=(l.length:Int)+1:=by omega
 have aB:(l.length:Int)<=100000:=by omega
 have aE:IntKind.i64.wrap ((l.length:Int)+1-(i:Int))=(l.length:Int)+1-(i:Int):=by rw[IntKind.wrap_i64];omega
 clear hB aq ac ao;generalize Qg (l.drop i)=aA at *;generalize Qg [e]=aF at *;generalize l.take i++(e::l.drop i)=LL at *
 go_enter func88,ntmps88
 go_wp2_with(first
  | (at_builtin;refine Lib.wpList_append_run _ rfl _ _ _ _ rfl _ _ rfl rfl _ _ (ap _) ?_)
  | (at_builtin;refine wpList_copy_runI _ rfl _ _ 39 39 rfl _ _ rfl rfl (X _ _) ?_))
 go_region_law_o (refine step_copy_runI rfl _ _ 39 39 rfl _ _ (by simp[Act.eval,Act.put]) (by simp[Act.eval,Act.put]) (F _ _ _) ?_)
 go_wp2;go_ret;exact O.o
theorem Zpk (v:Value) (l:List Ent) (B:Nat) (w:World) (a:Xn w B v l) (b:B<=w.heap.size) (f:l.length<=100000) (i:Nat) (m:i<=l.length) (e:Ent) (j:Zlx e) (I:Int) (d:I=(i:Nat)) (N:Nat) (c:N=w.heap.size):
 Calls prog 88 #[v,.int .i64 I,.slice (some ⟨N,0,none⟩) 1 1] (w.alloc (.cells (Gq e) 85)) fun x w'=>Zzs w B (l.take i++(e::l.drop i)) x w':=by
 by_cases h:i=l.length
 ·subst h
  exact Zpj v l B w a b f e j I d N c
 ·rcases a.row with ⟨-,rfl⟩ | ⟨g,cap,cur,rfl,-⟩
  ·exact absurd (by simpa using m) (by simpa using h)
  ·by_cases k:l.length+1<=cap
   ·exact Znn g cap l B w a b i (by omega) k e I d N c
   ·exact Zno g cap l B w a b i (by omega) (by omega) f e I d N c
theorem J0 {l:List UInt8} (a:0<=n) (b:n<4611686018427387904):Zsd l n=l++Lib.uvarint n.toNat:=if_pos ⟨a,b⟩
theorem Zwv (h:I64 n):(Lib.uvarint (Lib.zigzag n)).length<=10:=Lib.uvarint_length64 (Zbd h)
theorem Gh {n:Nat} (h:n<4611686018427387904):(Lib.uvarint n).length<=10:=Lib.uvarint_length64 (by omega)
theorem Zpl (w:World) (X Y:Obj):((w.alloc X).alloc Y).heap[w.heap.size+1]?=some Y:=by
 have h:=heap_alloc_new (w.alloc X) Y;have e:(w.alloc X).heap.size=w.heap.size+1:=by simp
 rwa [e] at h
def ZuM (w:World) (l:List UInt8) (e:Ending) (w':World):Prop:=
 e=.returned (.tuple #[opV (Xc l).1,.int .i64 ((Xc l).2:Nat)])∧Below w.heap.size w w'
def Zso (r:Rec):Value:=.agg #[.int .i64 r.idx,.int .i64 r.proc,.int .i64 r.seq,.int .i64 r.op.code,.int .i64 r.op.a,.int .i64 r.op.b,.int .i64 r.resp]
def Ja (r:Rec):Array Value:=#[.int .i64 r.idx,.int .i64 r.proc,.int .i64 r.seq,.int .i64 r.op.code,.int .i64 r.op.a,.int .i64 r.op.b,.int .i64 r.resp]
def Zcx (r:Rec):Prop:=I64 r.idx∧I64 r.proc∧I64 r.seq∧Zyw r.op∧I64 r.resp
def Br (w:World) (b:Nat) (cs:Array Value):Prop:=w.heap[b]?=some (.cells cs 62 (0,0))
theorem Br.lt (h:Br w b cs):b<w.heap.size:=(Array.getElem?_eq_some_iff.1 h).1
theorem Br.below (h:Br w b cs) (a:Below B w w') (c:w.heap.size<=B):Br w' b cs:=(a.block b (by have:=h.lt;omega)).trans h
theorem Br.cell (h:Br w b cs) (j:Nat):w.cell? ⟨b,j,none⟩=cs[j]?∧w.frozen? ⟨b,j,none⟩=false:=⟨cell_of_row w b j _ _ _ h,frozen_of_row w b j _ _ h⟩
theorem ZuN (r:Rec) (R:Nat) (e:Ent) (W:World) (d:Br W R (Ja r)):
 Calls prog 84 #[Zsj e,.pointer (some ⟨R,0,none⟩)] W fun x w'=>x=.returned (.bool (decide (e.proc=r.proc)))∧Below W.heap.size W w':=by
 have f:Hid (∀ X,Below W.heap.size W (W.alloc X)):=fun X=>(Below.refl _ _).alloc zL X
 have j:R<W.heap.size:=(Array.getElem?_eq_some_iff.1 d).1
 have g:Hid (∀ X,(W.alloc X).cell? ⟨R,1,none⟩=some (.int .i64 r.proc)):=ZZ (fun X=>by
  rw[(f.o X).cell (p:=⟨R,1,none⟩) j]
  exact cell_of_row W R 1 _ _ _ d)
 obtain⟨a,l,k⟩:=e;unfold Zsj;simp only;have m:=g.o;generalize r.proc=b at *;clear d g;by_cases h:a=b
 ·have c:Hid (decide (a=b)=true):=decide_eq_true h
  have i:(a == b)=true:=beq_iff_eq.2 h;rw[c.o];clear c h
  go_enter func84,ntmps84
  go_wp2;go_ret;exact⟨rfl,f.o _⟩
 ·have c:Hid (decide (a=b)=false):=decide_eq_false h
  have i:(a == b)=false:=beq_eq_false_iff_ne.2 h;rw[c.o];clear c h
  go_enter func84,ntmps84
  go_wp2;go_ret;exact⟨rfl,f.o _⟩
theorem ZuO (r:Rec) (R:Nat) (e:Ent) (W:World) (c:Br W R (Ja r)):
 Calls prog 85 #[Zsj e,.pointer (some ⟨R,0,none⟩)] W fun x w'=>x=.returned (.bool (decide (r.proc<e.proc)))∧Below W.heap.size W w':=by
 have b:Hid (∀ X,Below W.heap.size W (W.alloc X)):=fun X=>(Below.refl _ _).alloc zL X
 have i:R<W.heap.size:=(Array.getElem?_eq_some_iff.1 c).1
 have g:Hid (∀ X,(W.alloc X).cell? ⟨R,1,none⟩=some (.int .i64 r.proc)):=ZZ (fun X=>by
  rw[(b.o X).cell (p:=⟨R,1,none⟩) i]
  exact cell_of_row W R 1 _ _ _ c)
 obtain⟨d,k,j⟩:=e;unfold Zsj;simp only;have l:=g.o;generalize r.proc=f at *;clear c g;by_cases h:f<d
 ·have a:Hid (decide (f<d)=true):=decide_eq_true h
  rw[a.o];clear a
  go_enter func85,ntmps85
  go_wp2;go_ret;exact⟨rfl,b.o _⟩
 ·have a:Hid (decide (f<d)=false):=decide_eq_false h
  rw[a.o];clear a
  go_enter func85,ntmps85
  go_wp2;go_ret;exact⟨rfl,b.o _⟩
theorem Zsp {k:Int} (h:Zyj (fun e=>decide (p<e.proc)) t k):(k<0∧G8 p t=t.length)∨(0<=k∧k=(G8 p t:Nat)):=by
 rcases h with ⟨rfl,h⟩ | ⟨i,rfl,c,d,b⟩
 ·exact .inl ⟨by omega,Zkn (fun j a=>of_decide_eq_false (h j a))⟩
 ·refine .inr ⟨by omega,?_⟩
  rw[Zni c (fun j a=>of_decide_eq_false (d j a)) (of_decide_eq_true b)]
theorem Zxc {P:Ent->Prop} (h:∀ e ∈ t,P e):∀ e ∈ Zpd p t,P e:=fun e a=>h e (List.mem_filter.1 a).1
theorem ZuP (v:Value) (t:List Ent) (r:Rec) (w:World) (J:RdE w v t) (j:Zcx r) (G:t.length<=2000):
 Calls prog 43 #[v,Zso r] w fun e w'=>∃ v',e=.returned v'∧Xn w' w.heap.size v' (ZcF t ⟨r.proc,r.seq,r.resp⟩)∧Below w.heap.size w w':=by
 have U:∀ e ∈ t,Zlx e:=J.choose_spec.choose_spec.2.2.2.2.1;have C:=ZZ U;have HX:Hid (Br (w.alloc (.cells (Ja r) 62)) w.heap.size (Ja r)):=ZZ (heap_alloc_new w _);have R:Hid (Below w.heap.size w (w.alloc (.cells (Ja r) 62))):=ZZ ((Below.refl _ _).alloc zL _);have ae:(w.alloc (.cells (Ja r) 62)).heap.size=w.heap.size+1:=by simp
 have X:=ZZ (J.below R.o zL);have aj:Hid (Zlx ⟨r.proc,r.seq,r.resp⟩):=ZZ ⟨j.2.1,j.2.2.1,j.2.2.2.2⟩;have V:∀ args W,(callFunc 84 args).run prog W=.ok (.enter 84 args) W:=enters_of func84 (by kernel_rfl) rfl
 have Y:∀ args W,(callFunc 85 args).run prog W=.ok (.enter 85 args) W:=enters_of func85 (by kernel_rfl) rfl
 have al:=ZZ V;have ad:=ZZ Y;have aa:Hid (ZcF t ⟨r.proc,r.seq,r.resp⟩=(Zpd r.proc t).take (G8 r.proc (Zpd r.proc t))++(⟨r.proc,r.seq,r.resp⟩::(Zpd r.proc t).drop (G8 r.proc (Zpd r.proc t)))):=ZZ (Znh ⟨r.proc,r.seq,r.resp⟩ t);have Z:Hid (t.filter (fun e=>!decide (e.proc=r.proc))=Zpd r.proc t):=ZZ (by unfold Zpd;simp)
 have af:=ZZ (fun W e h=>ZuN r w.heap.size e W h)
 have ah:=ZZ (fun W e h=>ZuO r w.heap.size e W h)
 have n:Hid (∀ W,Below (w.heap.size+1) (w.alloc (.cells (Ja r) 62)) W->Br W w.heap.size (Ja r)):=ZZ (fun W h=>(h.block w.heap.size (by omega)).trans HX.o)
 have ao:∀ (fn:Fn) (first cap:Array Value) (w:World),(Instr.makeFunc fn first cap).run prog w=.ok (.func fn first cap) w:=fun _ _ _ _=>rfl
 have am:=ZZ (fun W v l h h2=>ZfJ v l W h h2)
 clear V Y U j J;unfold Zso Ja at *
 go_enter func43,ntmps43
 go_wp2_with fail
 refine(am.o _ _ t X.o (by omega)).mono ?_
 rintro x W1 ⟨v1,rfl,H,q⟩;rw[ae] at H q;have P:=ZZ H;have m:=ZZ q;clear H q;have Q:=ZZ (Zif 84 w.heap.size (fun e=>decide (e.proc=r.proc)) v1 t (w.heap.size+1) W1 P.o C.o (by have:=m.o.size;omega) (by omega) al.o (fun W e h=>af.o W e (n.o W (m.o.trans h))))
 go_wp2_with fail
 refine Q.o.mono ?_;rintro x W2 ⟨v2,rfl,K,O⟩;rw[Z.o] at K;have c:=ZZ K;have b:=ZZ (m.o.trans O);have ac:=ZZ (Zxc (p:=r.proc) C.o);have E:(Zpd r.proc t).length<=2000:=Nat.le_trans (Zxa _ _) G;clear K O Q P m X C Z;obtain⟨a,T⟩:∃ a,a=Zpd r.proc t:=⟨_,rfl⟩;rw[<-T] at c ac aa E;clear T;have S:=ZZ (Zdt 85 w.heap.size (fun e=>decide (r.proc<e.proc)) v2 a W2 (c.o.rd ac.o) ad.o (fun W e h=>ah.o W e (n.o W (b.o.trans (h.mono (by have:=b.o.size;omega))))))
 obtain⟨va,vc,ak⟩:=c.o.shape;subst ak
 go_wp2_with fail
 refine S.o.mono ?_;rintro x y ⟨k,rfl,z,F⟩;have ag:=ZZ (c.o.below F zL);have A:=ZZ (b.o.trans (F.mono (by have:=b.o.size;omega)))
 have L:=ZZ (n.o y A.o);have ab:=ZZ (R.o.trans (A.o.mono (by omega)))
 have ai:w.heap.size+1<=y.heap.size:=by have:=A.o.size;omega
 clear F S c b;obtain⟨q1,f1⟩:=L.o.cell 1;obtain⟨q2,f2⟩:=L.o.cell 2;obtain⟨q4,f4⟩:=L.o.cell 6;have B:=Zng r.proc a;have i:=ZZ (fun I hI N hN=>Zpk (.slice va a.length vc) a (w.heap.size+1) y ag.o ai (by omega) (G8 r.proc a) B ⟨r.proc,r.seq,r.resp⟩ aj.o I hI N hN)
 rw[<-aa.o] at i;unfold Gq at i;have ap:(a.length:Int)<=2000:=by omega
 rcases Zsp z with ⟨hk,g⟩ | ⟨hk,g⟩
 ·clear z
  have D:=ZZ g;clear g B E G
  go_wp2_with fail
  refine(i.o _ (by rw[D.o]) _ rfl).mono ?_
  rintro x W4 ⟨v4,rfl,d,f⟩;have u:=ZZ (d.mono (B':=w.heap.size) (by omega))
  have M:=ZZ (ab.o.trans (f.mono (by omega)))
  clear d f;go_wp2;go_ret;exact⟨_,rfl,u.o,M.o⟩
 ·clear z
  have an:¬ k<0:=by omega
  have D:=ZZ g;clear g B E G
  go_wp2_with fail
  refine(i.o _ D.o _ rfl).mono ?_;rintro x W4 ⟨v4,rfl,d,f⟩;have u:=ZZ (d.mono (B':=w.heap.size) (by omega))
  have M:=ZZ (ab.o.trans (f.mono (by omega)))
  clear d f;go_wp2;go_ret;exact⟨_,rfl,u.o,M.o⟩
def Bn (w:World) (b:Nat) (cs:Array Value):Prop:=w.heap[b]?=some (.cells cs 41 (0,0))
theorem Bn.lt (h:Bn w b cs):b<w.heap.size:=(Array.getElem?_eq_some_iff.1 h).1
theorem Bn.below (h:Bn w b cs) (a:Below B w w') (c:w.heap.size<=B):Bn w' b cs:=(a.block b (by have:=h.lt;omega)).trans h
theorem Bn.cell (h:Bn w b cs) (j:Nat):w.cell? ⟨b,j,none⟩=cs[j]?∧w.frozen? ⟨b,j,none⟩=false:=⟨cell_of_row w b j _ _ _ h,frozen_of_row w b j _ _ h⟩
theorem ZdR (w:World) (X Y:Obj):((w.alloc X).alloc Y).heap[w.heap.size+1]?=some Y:=by
 have h:=heap_alloc_new (w.alloc X) Y;have e:(w.alloc X).heap.size=w.heap.size+1:=by simp
 rw[e] at h;exact h
def Zpm (a b:Q0):Prop:=Zmw a.st b.st∧a.idx=b.idx∧a.tab=b.tab
instance (a b:Q0):Decidable (Zpm a b):=by unfold Zpm;infer_instance
theorem Zks {l:List Ent} {q:Nat} (h:q<l.length):l.take (q+1)=l.take q++[l.getD q Xi]:=by
 rw[List.take_add_one];simp[List.getD,h]
theorem RdE.but {l:List Ent} (h:RdE w v l) {R T:Nat} (q:But R T w w') (hn:l=[]∨∀ b,v.ownBlock=some b->b≠R∧b≠T):RdE w' v l:=by
 obtain⟨ao,cap,rfl,k,m,i,g,a⟩:=h;refine⟨ao,cap,rfl,k,m,i,g,?_⟩;rcases a with a | ⟨b,p,f,n⟩
 ·exact .inl a
 ·by_cases c:l=[]
  ·exact .inl c
  ·refine .inr ⟨b,p,f,fun j t=>?_⟩
   have d:=n j t;rcases hn with hn | hn
   ·exact absurd hn c
   ·have e:=hn b (by rw[f];rfl)
    exact d.keep (q.block b d.lt e.1 e.2)
theorem RdE.block {l:List Ent} (h:RdE w v l):l=[]∨∀ b,v.ownBlock=some b->b<w.heap.size:=by
 obtain⟨ao,cap,rfl,k,m,j,i,a⟩:=h;rcases a with a | ⟨b,n,rfl,f⟩
 ·exact .inl a
 ·by_cases d:l=[]
  ·exact .inl d
  ·refine .inr fun c g=>?_
   have e:b=c:=by simpa[Value.ownBlock] using g
   rw[<-e];exact(f 0 (List.length_pos_iff.2 d)).lt
theorem RdI.old (h:RdI w v l):l=[]∨∀ b,v.ownBlock=some b->b<w.heap.size:=by
 rcases h.block with h | ⟨_,b,d,e⟩
 ·exact .inl h
 ·refine .inr fun c a=>?_
  rw[d] at a
  injection a with a
  omega
theorem Xn.fresh {l:List Ent} (h:Xn w B v l):∀ b,v.ownBlock=some b->B<=b:=fun b a=>(World.ownsRow.lt h b a).1
def Zch (w:World) (r:Q0 × Int) (e:Ending) (w':World):Prop:=
 ∃ vl vt,e=.returned (.tuple #[.agg #[.int .i64 r.1.idx,.int .i64 r.1.st.kind,vl,.bool r.1.st.shut,.int .i64 r.1.st.eng,vt],.int .i64 r.2])∧RdI w' vl r.1.st.L∧I64 r.1.st.kind∧I64 r.1.st.eng∧RdE w' vt r.1.tab∧I64 r.1.idx∧(∀ b,vl.ownBlock=some b->w.heap.size<=b)∧(∀ b,vt.ownBlock=some b->w.heap.size<=b)∧Below w.heap.size w w'
theorem Zch.zero (n:Int) (a:Below w.heap.size w w'):Zch w (Yb,n) (.returned (.tuple #[.agg #[.int .i64 0,.int .i64 0,.slice none 0 0,.bool false,.int .i64 0,.slice none 0 0],.int .i64 n])) w':=
 ⟨_,_,rfl,RdI.nil _,(Qo (by decide) (by decide):I64 0),(Qo (by decide) (by decide):I64 0),RdE.nil _,(Qo (by decide) (by decide):I64 0),fun b a=>by simp[Value.ownBlock] at a,fun b a=>by simp[Value.ownBlock] at a,a⟩
theorem SnV.below {s:Q0} (h:SnV w v s) {B:Nat} (b:Below B w w') (a:w.heap.size<=B):SnV w' v s:=by
 obtain⟨k,d,e,g,c,f,i,j⟩:=h;exact⟨k,d,e,g.below b a,c,f,i.below b a,j⟩
def six (w:World) (R:Nat) (x0 x1 x2 x3 x4 x5:Value):World:=(((((w.setCell ⟨R,0,none⟩ x0).setCell ⟨R,1,none⟩ x1).setCell ⟨R,2,none⟩ x2).setCell ⟨R,3,none⟩ x3).setCell ⟨R,4,none⟩ x4).setCell ⟨R,5,none⟩ x5
theorem ZeF {b:World} (h:Below C b w) (R:Nat) (a:C<=R) (g d c e i f:Value):Below C b (six w R g d c e i f):=
 (((((h.setCell a _).setCell a _).setCell a _).setCell a _).setCell a _).setCell a _
theorem Zbf {f:World} (h:Below C f w) (R:Nat) (i:C<=R) (e b a c g d:Value):Below C f ((((((w.setCell ⟨R,0,none⟩ e).setCell ⟨R,1,none⟩ b).setCell ⟨R,2,none⟩ a).setCell ⟨R,3,none⟩ c).setCell ⟨R,4,none⟩ g).setCell ⟨R,5,none⟩ d):=ZeF h R i e b a c g d
theorem ZqQ (w:World) (R:Nat) (e b a c f d:Value):But R R w (six w R e b a c f d):=
 ((((((But.refl R R w).set _ _ (.inl rfl) _).set _ _ (.inl rfl) _).set _ _ (.inl rfl) _).set _ _ (.inl rfl) _).set _ _ (.inl rfl) _).set _ _ (.inl rfl) _
theorem Bn.set (h:Bn w b cs) (j:Nat) (x:Value):Bn (w.setCell ⟨b,j,none⟩ x) b (cs.setIfInBounds j x):=by
 have:=heap_setCell_same w b j _ _ x h;unfold Bn;simpa using this
theorem Bn.other {c:Nat} (h:Bn w b cs) (j:Nat) (x:Value) (a:b≠c):Bn (w.setCell ⟨c,j,none⟩ x) b cs:=(Below.heap_setCell _ _ _ _ a).trans h
def ZjI (w:World) (b o:Nat) (r:Rec):Prop:=
 w.cell? ⟨b,o,none⟩=some (.int .i64 r.idx)∧w.cell? ⟨b,o+1,none⟩=some (.int .i64 r.proc)∧w.cell? ⟨b,o+2,none⟩=some (.int .i64 r.seq)∧w.cell? ⟨b,o+3,none⟩=some (.int .i64 r.op.code)∧w.cell? ⟨b,o+4,none⟩=some (.int .i64 r.op.a)∧w.cell? ⟨b,o+5,none⟩=some (.int .i64 r.op.b)∧w.cell? ⟨b,o+6,none⟩=some (.int .i64 r.resp)
theorem ZjI.lt (h:ZjI w b o r):b<w.heap.size:=World.block_lt_of_cell? w ⟨b,o,none⟩ h.1
theorem ZjI.keep (h:ZjI w b o r) (c:w'.heap[b]?=w.heap[b]?):ZjI w' b o r:=by
 have d:∀ i,w'.cell? ⟨b,i,none⟩=w.cell? ⟨b,i,none⟩:=fun i=>World.cell?_of_block (a:=⟨b,i,none⟩) c
 unfold ZjI at h ⊢;simp only [d];exact h
def RdR (w:World) (v:Value) (l:List Rec):Prop:=
 ∃ ao cap,v=.slice ao l.length cap∧l.length<=cap∧cap<=maxLen∧(ao=none->cap=0)∧(∀ r ∈ l,Zcx r)∧
  (l=[]∨∃ b off,ao=some ⟨b,off,none⟩∧∀ j,j<l.length->ZjI w b (off+j*7) (l.getD j Qi))
theorem RdR.nil (w:World):RdR w (.slice none 0 0) []:=⟨none,0,rfl,Nat.le_refl _,Nat.zero_le _,fun _=>rfl,(fun r h=>by simp at h),.inl rfl⟩
theorem RdR.below {l:List Rec} (h:RdR w v l) {B:Nat} (k:Below B w w') (t:w.heap.size<=B):RdR w' v l:=by
 obtain⟨ao,cap,p,e,f,m,d,a⟩:=h;refine⟨ao,cap,p,e,f,m,d,?_⟩;rcases a with a | ⟨b,i,q,g⟩
 ·exact .inl a
 ·refine .inr ⟨b,i,q,fun j n=>?_⟩
  have c:=g j n;exact c.keep (k.block b (by have:=c.lt;omega))
def Qt:List Rec->List Value
 | []=>[]
 | r::t=>(Ja r).toList++Qt t
theorem Zl:∀ l:List Rec,(Qt l).length=l.length*7
 | []=>rfl
 | r::t=>by
  rw[Qt,length_append,Zl t,List.length_cons];simp[Ja];omega
theorem ZaA:∀ a b:List Rec,Qt (a++b)=Qt a++Qt b
 | [],_=>rfl
 | r::t,b=>by rw[List.cons_append,Qt,ZaA t b,Qt,List.append_assoc]
theorem Zbv:∀ (l:List Rec) (j k:Nat),j<l.length->k<7->(Qt l)[j*7+k]?=(Ja (l.getD j Qi))[k]?
 | r::t,0,k,_,hk=>by
  rw[Qt,Nat.zero_mul,Nat.zero_add,List.getElem?_append_left (by simp[Ja];omega)]
  simp[List.getD]
 | r::t,j+1,k,hj,hk=>by
  have e:(j+1)*7+k=(Ja r).toList.length+(j*7+k):=by simp[Ja];omega
  rw[Qt,e,List.getElem?_append_right (by omega),Nat.add_sub_cancel_left,Zbv t j k (by simpa using hj) hk]
  simp[List.getD]
theorem Zbw (l:List Rec):∀ u ∈ Qt l,u.oneCell'=true:=by
 induction l with
 | nil=>intro u a;simp[Qt] at a
 | cons r t b=>
  intro u a;rw[Qt] at a;rcases List.mem_append.1 a with h | h
  ·simp[Ja] at h
   rcases h with rfl | rfl | rfl | rfl | rfl | rfl | rfl <;> rfl
  ·exact b u h
def Xj (w:World) (B:Nat) (v:Value) (l:List Rec):Prop:=w.ownsRow B 62 7 v l.length (Qt l)
theorem Xj.nil (w:World) (B:Nat):Xj w B (.slice none 0 0) []:=World.ownsRow_nil w B 62 7
theorem Xj.rd {l:List Rec} (h:Xj w B v l) (c:∀ r ∈ l,Zcx r):RdR w v l:=by
 rcases h.2 with ⟨b,d⟩ | ⟨g,cap,cur,b,t,q,n,m,x,y⟩
 ·exact⟨none,0,by rw[b,d],by omega,Nat.zero_le _,fun _=>rfl,c,.inl (List.eq_nil_of_length_eq_zero d)⟩
 ·refine⟨some ⟨g,0,none⟩,cap,b,n,m,(fun e=>by cases e),c,.inr ⟨g,0,rfl,fun j p=>?_⟩⟩
  have a:∀ k u,k<7->(Ja (l.getD j Qi))[k]?=some u->w.cell? ⟨g,0+j*7+k,none⟩=some u:=fun k u f i=>by
   have:=World.ownsRow.cells h (g:=g) (by rw[b];rfl) (j*7+k) u ((Zbv l j k p f).trans i)
   rw[Addr.add_lit] at this;rw[Nat.add_assoc];exact this
  exact⟨a 0 _ (by decide) rfl,a 1 _ (by decide) rfl,a 2 _ (by decide) rfl,a 3 _ (by decide) rfl,a 4 _ (by decide) rfl,a 5 _ (by decide) rfl,a 6 _ (by decide) rfl⟩
theorem Xj.below {l:List Rec} (h:Xj w B v l) (e:Below B' w w') (i:w.heap.size<=B'):Xj w' B v l:=by
 obtain⟨f,a⟩:=h;refine⟨f,?_⟩;rcases a with a | ⟨g,cap,cur,d,c,b,r⟩
 ·exact .inl a
 ·have j:g<w.heap.size:=(Array.getElem?_eq_some_iff.1 b).1
  exact .inr ⟨g,cap,cur,d,c,by rw[e.block g (by omega)];exact b,r⟩
theorem Xj.mono {l:List Rec} (h:Xj w B v l) (d:B'<=B):Xj w B' v l:=by
 obtain⟨c,a⟩:=h;refine⟨c,?_⟩;rcases a with a | ⟨g,cap,cur,b,e,r⟩
 ·exact .inl a
 ·exact .inr ⟨g,cap,cur,b,by omega,r⟩
theorem Xj.shape {l:List Rec} (h:Xj w B v l):∃ ao cap,v=.slice ao l.length cap:=by
 rcases h.2 with ⟨a,b⟩ | ⟨g,cap,cur,a,_⟩
 ·exact⟨none,0,by rw[a,b]⟩
 ·exact⟨_,_,a⟩
theorem Zdg:(prog.info? 62).map (fun i=>(i.zero,i.size,i.bytes))=some (some (.agg #[.int .i64 0,.int .i64 0,.int .i64 0,.int .i64 0,.int .i64 0,.int .i64 0,.int .i64 0]),7,56):=by kernel_rfl
theorem ZjJ (w:World) (ty:TypeId) (B:Nat) (v:Value) (l:List Rec) (h:Xj w B v l) (r:Rec) (q:l.length<=1000000) (i:B<=w.heap.size):
 ∃ v' w',(Builtin.append_ #[29,29] ty #[v,.slice (some ⟨w.heap.size,0,none⟩) 1 1]).run prog (w.alloc (.cells (Ja r) 62))=.ok v' w'∧Xj w' B v' (l++[r])∧Below B w w':=by
 obtain⟨b,c,m,e,d⟩:=info_parts Zdg
 obtain⟨v',w',f,p,g,_⟩:=run_append_own (P:=prog) (w.alloc (.cells (Ja r) 62)) B 29 ty 62 b _ 7 56 underlying29 c m e d rfl (by decide) v l.length (Qt l) (h.alloc _)
  ⟨w.heap.size,0,none⟩ 1 1 (Qt [r]) (Zl [r]) (fun j u n=>by
   rw[Addr.add_lit,Nat.zero_add,cell_of_row _ w.heap.size j _ 62 (0,0) (heap_alloc_new w _)]
   simpa[Qt] using n) (Zbw [r]) (by unfold maxLen;omega) (by omega) (by simp;omega)
 refine⟨v',w',f,?_,?_⟩
 ·unfold Xj
  rw[length_append,ZaA];exact p
 ·exact((Below.refl _ _).alloc i _).grown g (by simp;omega) (fun k a=>(World.ownsRow.lt h k a).1)
theorem ZfK (w:World) {b:Array Oper} {rest:List Oper} {o:Oper} {a:Act} {Q:Exit->Act->World->Prop} (k:o.guard=none) (s x:Operand)
 (p:o.op=.call { callee:=.builtin .append,args:=#[s,x],argTypes:=#[29,29] })
 (B:Nat) (v:Value) (l:List Rec) (e:a.eval s=v) (f:Xj w B v l) (r:Rec) (c:a.eval x=.slice (some ⟨w.heap.size,0,none⟩) 1 1)
 (g:l.length<=1000000) (n:B<=w.heap.size)
 (h:∀ v' w',Xj w' B v' (l++[r])->Below B w w'->wpList prog b Q rest (a.put o.dst v') w'):wpList prog b Q (o::rest) a (w.alloc (.cells (Ja r) 62)):=
 wpList_plain k fun _ d=>by
  obtain⟨v',w',m,i,j⟩:=ZjJ w o.type B v l f r g n;unfold Oper.wp execOp;simp only [p,resolve,invoke,builtin,Sem.run_bind,Sem.run_pure,Result.andThen_ok,List.map_toArray,List.map_cons,List.map_nil,e,c,m];exact d _ _ (h v' w' i j)
theorem ZeG:prog.elem 29=62:=by kernel_rfl
theorem Zba:prog.underlying 29=some (.slice (prog.elem 29)):=by rw[ZeG];exact underlying29
theorem ZlB (w:World):(sizeOf 62).run prog w=.ok 7 w:=by
 obtain⟨c,a,_,b,_⟩:=info_parts Zdg;simp[sizeOf,typeInfo,a,b]
theorem Br.set (h:Br w b cs) (j:Nat) (x:Value):Br (w.setCell ⟨b,j,none⟩ x) b (cs.setIfInBounds j x):=by
 have:=heap_setCell_same w b j _ _ x h;unfold Br;simpa using this
theorem Zdu (n lo c:Int) (a b:Nat) (w:World) (j:w.cell? ⟨a,0,none⟩=some (.int .i64 lo)) (i:w.cell? ⟨b,0,none⟩=some (.int .i64 c)):
 Calls prog 170 #[.int .i64 n,.pointer (some ⟨a,0,none⟩),.pointer (some ⟨b,0,none⟩)] w fun e w'=>e=.returned (.bool (decide (lo<=n∧n<=c)))∧w'=w:=by
 have g:Hid ((decide (lo<=n) && decide (n<=c))=decide (lo<=n∧n<=c)):=(Bool.decide_and _ _).symm;have f:Hid (lo<=n->decide (n<=c)=decide (lo<=n∧n<=c)):=fun h=>by rw[<-g.o,decide_eq_true h,Bool.true_and]
 by_cases d:lo<=n
 ·go_enter func170,ntmps170
  go_wp2;go_ret;exact⟨Y6 (f.o d),rfl⟩
 ·go_enter func170,ntmps170
  go_wp2;go_ret;exact⟨Y6 (by rw[decide_eq_false (Int.not_le.2 d),Bool.false_and]),rfl⟩
theorem Gz (lo c:Int) (w:World):
 Calls prog 121 #[.int .i64 lo,.int .i64 c] w fun e w'=>∃ a b,e=.returned (.func (.func 170) #[] #[.pointer (some ⟨a,0,none⟩),.pointer (some ⟨b,0,none⟩)])∧w'.cell? ⟨a,0,none⟩=some (.int .i64 lo)∧w'.cell? ⟨b,0,none⟩=some (.int .i64 c)∧Below w.heap.size w w':=by
 have f:∀ (fn:Fn) (first cap:Array Value) (w:World),(Instr.makeFunc fn first cap).run prog w=.ok (.func fn first cap) w:=fun _ _ _ _=>rfl
 have d:Hid (∀ x y,Below w.heap.size w ((w.alloc x).alloc y)):=fun x y=>((Below.refl _ _).alloc zL x).alloc (by simp) y
 go_enter func121,ntmps121
 go_wp2;go_ret;refine⟨_,_,rfl,?_,?_,d.o _ _⟩
 ·rw[World.cell?_alloc_past _ _ _ (by simp),World.cell?_alloc_at _ _ _ _ rfl];rfl
 ·rw[World.cell?_alloc_at _ _ _ _ (by simp)];rfl
theorem ZfL (n:Int):max (-1099511627776) (min n 1099511627776)=Jp n:=by
 unfold Jp;split
 ·omega
 ·split <;> omega
theorem ZeH (n:Int) (w:World):Calls prog 173 #[.int .i64 n] w fun e w'=>e=.returned (.int .i64 (Jp n))∧w'=w:=by
 by_cases b:1099511627776<n
 ·go_enter func173,ntmps173
  go_wp2;go_ret;refine⟨Zyv ?_,rfl⟩
  first
   | exact ZfL n
   | (unfold Jp;split <;> (try split) <;> omega)
 by_cases a:n<=-1099511627776
 ·go_enter func173,ntmps173
  go_wp2;go_ret;refine⟨Zyv ?_,rfl⟩
  first
   | exact ZfL n
   | (unfold Jp;split <;> (try split) <;> omega)
 ·go_enter func173,ntmps173
  go_wp2;go_ret;refine⟨Zyv ?_,rfl⟩
  first
   | exact ZfL n
   | (unfold Jp;split <;> (try split) <;> omega)
theorem ZlC (ao:Option Addr) (n cap:Nat) (w:World):Calls prog 177 #[.slice ao n cap] w fun e w'=>e=.returned (.bool (decide (n=128)))∧w'=w:=by
 by_cases h:n=128
 ·have a:Hid (decide (n=128)=true):=decide_eq_true h
  have b:((n:Int) == 128)=true:=beq_iff_eq.2 (by omega)
  clear h
  go_enter func177,ntmps177
  go_wp2;go_ret;exact⟨Y6 a.o.symm,rfl⟩
 ·have a:Hid (decide (n=128)=false):=decide_eq_false h
  have b:((n:Int) == 128)=false:=beq_eq_false_iff_ne.2 (by omega)
  clear h
  go_enter func177,ntmps177
  go_wp2;go_ret;exact⟨Y6 a.o.symm,rfl⟩
theorem ZqR {b:Int} {c d:Bool} (h:a=b) (e:c=d):Ending.returned (.tuple #[.int .i64 a,.bool c])=.returned (.tuple #[.int .i64 b,.bool d]):=by rw[h,e]
theorem ZuQ (v:Value) (l:List Int) (key:Int) (w:World) (C:RdI w v l) (J:l.length % 2=0) (L:l.length<=1000000):
 Calls prog 211 #[v,.int .i64 key] w fun e w'=>e=.returned (.tuple #[.int .i64 (Qw key l),.bool (decide (Qw key l<l.length∧l.getD (Qw key l) 0=key))])∧Below w.heap.size w w':=by
 obtain⟨ao,cap,rfl,-,-,-,-,q⟩:=C;have F:=Qc q;clear q;obtain⟨P,n⟩:∃ P,P=Qw key l:=⟨_,rfl⟩;obtain⟨R,d⟩:∃ R,R=decide (P<l.length∧l.getD P 0=key):=⟨_,rfl⟩;rw[<-n,<-d];have D:=Qc n;have p:=Qc d;clear n d
 go_enter func211,ntmps211
 go_wp2
 go_loop [6] (fun i=>∃ k:Nat,i=.int .i64 k∧k<=l.length∧k % 2=0∧Hid (∀ j,j<k->j % 2=0->l.getD j 0<key)) (fun i=>l.length-(intOf i).toNat)
 case atStart=>exact⟨0,rfl,Nat.zero_le _,rfl,fun j H=>by omega⟩
 case round=>
  obtain⟨k,rfl,z,G,u⟩:=hrel;have t:Hid (P=k+Qw key (l.drop k)):=D.o.trans (ZhE key l k J G z u.out);by_cases b:k<l.length
  ·rcases F.o with I | ⟨g,M,rfl,x⟩
   ·rw[I] at b;simp at b
   have E:=x k b;clear x;obtain⟨y,c⟩:∃ y,y=l.getD k 0:=⟨_,rfl⟩;rw[<-c] at E;have f:=Qc c;clear c;by_cases A:key<=y
   ·have a:Hid (P=k):=t.o.trans (by rw[ZoO key l k (by omega) (by rw[<-f.o];exact A)];exact Nat.add_zero k)
    have m:Hid (R=(y == key)):=by
     rw[p.o,a.o,<-f.o];by_cases e:y=key
     ·rw[beq_iff_eq.2 e];exact decide_eq_true ⟨b,e⟩
     ·rw[beq_eq_false_iff_ne.2 e];exact decide_eq_false (fun h=>e h.2)
    have K:(k:Int)<(l.length:Int):=by omega
    go_wp2
    go_quiet(fail)
    go_wp2;go_ret2;exact⟨ZqR (by rw[a.o]) m.o.symm,Xo (Below.refl _ _) _⟩
   ·go_wp2
    go_round
    case rel=>
     refine⟨k+2,by go_num,by omega,by omega,fun j H B=>?_⟩
     by_cases e:j=k
     ·rw[e,<-f.o];omega
     ·exact u.out j (by omega) B
    case measure=>simp[intOf];omega
  ·have a:Hid (P=l.length):=by
    have e:k=l.length:=by omega
    rw[t.o,e,List.drop_length];exact rfl
   have m:Hid (R=false):=p.o.trans (decide_eq_false (fun h=>by have:=h.1;rw[a.o] at this;omega))
   go_wp2;go_ret2;exact⟨ZqR (by rw[a.o]) m.o.symm,Below.refl _ _⟩
theorem ZfM (v:Value) (l:List Int) (key least lo:Int) (w:World) (c:RdI w v l) (a:Qu least lo l) (b:l.length<=1000000):
 Calls prog 211 #[v,.int .i64 key] w fun e w'=>e=.returned (.tuple #[.int .i64 (Qw key l),.bool (Zw key l)])∧Below w.heap.size w w':=by
 rw[(ZbM key least l lo a).1];exact ZuQ v l key w c (ZbJ a) b
theorem ZaB:∀ {l:List Int} {lo:Int},-1099511627776<=least->-1<=lo->Qu least lo l->∀ x ∈ l,I64 x
 | [],_,_,_,_,x,hx=>by simp at hx
 | [_],_,_,_,h,_,_=>by simp[Qu] at h
 | a::b::r,lo,hl,hlo,h,x,hx=>by
  unfold Qu at h;have c:=ZaB (l:=r) (lo:=a) hl (by omega) h.2.2.2.2 x
  simp at hx;rcases hx with rfl | rfl | hx
  ·exact Qo (by omega) (by omega)
  ·exact Qo (by omega) (by omega)
  ·exact c hx
theorem ZgX (v:Value) (l:List Int) (key least lo:Int) (w:World) (p:RdI w v l) (k:Qu least lo l) (B:l.length<=1000000):
 Calls prog 175 #[v,.int .i64 key] w fun e w'=>e=.returned (.tuple #[.int .i64 ((Yh key l).getD 0),.bool (Zw key l)])∧Below w.heap.size w w':=by
 have c:Hid (Calls prog 211 #[v,.int .i64 key] w fun e w'=>e=.returned (.tuple #[.int .i64 (Qw key l),.bool (Zw key l)])∧Below w.heap.size w w'):=ZfM v l key least lo w p k B
 have j:=Qc (ZbM key least l lo k).2;obtain⟨ao,cap,rfl,-,-,-,-,q⟩:=p;have u:=Qc q;obtain⟨G,m⟩:∃ G,G=(Yh key l).getD 0:=⟨_,rfl⟩;rw[<-m];have i:=Qc m;clear q k m
 cases hh:Zw key l
 ·rw[hh] at c
  have f:Hid (0=G):=by
   have:Yh key l=none:=by
    unfold Zw at hh
    cases h:Yh key l with
    | none=>rfl
    | some x=>rw[h] at hh;simp at hh
   rw[i.o,this];exact rfl
  clear hh j
  go_enter func175,ntmps175
  go_wp2_with fail
  refine c.o.mono ?_;rintro e A ⟨rfl,a⟩;have d:=Qc a;clear a;go_wp2;go_ret2;exact⟨ZqR f.o rfl,d.o⟩
 ·rw[hh] at c
  obtain⟨z,b⟩:=j.o hh
  have f:Hid (l.getD (Qw key l+1) 0=G):=by
   rw[i.o,z];exact rfl
  rcases u.o with D | ⟨g,t,rfl,n⟩
  ·rw[D] at b;simp at b
  have C:Hid (∀ W,Below w.heap.size w W->W.cell? ⟨g,t+(Qw key l+1),none⟩=some (.int .i64 (l.getD (Qw key l+1) 0))):=fun W h=>(h.cell (World.block_lt_of_cell? w ⟨g,t+(Qw key l+1),none⟩ (n _ b))).trans (n _ b)
  clear hh j z u n i;generalize l.getD (Qw key l+1) 0=y at *;generalize Qw key l=P at *;have F:(P:Int)+1<(l.length:Int):=by omega
  clear b
  go_enter func175,ntmps175
  go_wp2_with fail
  refine c.o.mono ?_;rintro e A ⟨rfl,a⟩;have d:=Qc a;have E:=C.o _ a;clear a;go_wp2;go_ret2;exact⟨ZqR f.o rfl,d.o⟩
theorem ZgY (v:Value) (l:List Int) (key n least lo:Int) (B:Nat) (w:World) (i:Qs w B v l) (Q:B<=w.heap.size) (u:∀ x ∈ l,I64 x) (c:Qu least lo l) (C:l.length<=1000000):
 Calls prog 178 #[v,.int .i64 key,.int .i64 n] w fun e w'=>∃ v',e=.returned v'∧Qs w' B v' (Xg key n false l)∧Mv w w' v v':=by
 have j:Hid (Calls prog 211 #[v,.int .i64 key] w fun e w'=>e=.returned (.tuple #[.int .i64 (Qw key l),.bool (Zw key l)])∧Below w.heap.size w w'):=ZfM v l key least lo w (i.rd u) c C
 have k:=(ZhD key l (ZbJ c)).1;have m:=Qc (ZbM key least l lo c).2;have p:=Qc i
 cases hh:Zw key l
 ·rw[hh] at j
  have a:=Qc (Zgf key n least l lo c hh)
  have E:Hid (∀ W,Qs W B v l->B<=W.heap.size->Calls prog 212 #[v,.int .i64 (Qw key l),.slice (some ⟨W.heap.size,0,none⟩) 2 2] (W.alloc (.cells #[.int .i64 key,.int .i64 n] 3)) fun e w'=>∃ v',e=.returned v'∧Qs w' B v' (l.take (Qw key l)++([key,n]++l.drop (Qw key l)))∧Mv W w' v v'):=
   fun W q f=>Zph v l B W q f C (Qw key l) k _ rfl key n _ rfl
  obtain⟨L',b⟩:∃ L',L'=Xg key n false l:=⟨_,rfl⟩;rw[<-b];rw[<-b] at a;have G:=Qc a.o.symm;rw[G.o] at E;clear b a G i c m hh k;generalize Qw key l=P at *
  go_enter func178,ntmps178
  go_wp2_with fail
  refine j.o.mono ?_;rintro e z ⟨rfl,h⟩;have d:=Qc h;clear h
  go_wp2_with fail
  refine(E.o z (p.o.below d.o zL) (Nat.le_trans Q d.o.size)).mono ?_;rintro e W2 ⟨V,rfl,A,t⟩;have S:=Qc ((Mv.ofBelow d.o v).trans t);have R:=Qc A;clear t A;go_wp2;go_ret;exact⟨_,rfl,R.o,S.o⟩
 ·rw[hh] at j
  have a:=Qc (ZmH key n least l lo c hh);obtain⟨q,f⟩:=m.o hh;obtain⟨L',b⟩:∃ L',L'=Xg key n false l:=⟨_,rfl⟩;rw[<-b];rw[<-b] at a;have J:=i.put _ f n;obtain⟨g,cap,rfl,-,-,aa,Y,-,-⟩:=J
  have M:Hid (∀ W,Below w.heap.size w W->W.cell? ⟨g,Qw key l+1,none⟩=some (.int .i64 (l.getD (Qw key l+1) 0))∧W.frozen? ⟨g,Qw key l+1,none⟩=false∧Qs (W.setCell ⟨g,Qw key l+1,none⟩ (.int .i64 n)) B (.slice (some ⟨g,0,none⟩) l.length cap) L'∧Mv w (W.setCell ⟨g,Qw key l+1,none⟩ (.int .i64 n)) (.slice (some ⟨g,0,none⟩) l.length cap) (.slice (some ⟨g,0,none⟩) l.length cap)):=fun W H=>by
   obtain⟨g',X,D,L,N,h5,Z,K,T⟩:=(p.o.below H zL).put _ f n;simp only [Value.slice.injEq,Option.some.injEq,Addr.mk.injEq] at D;obtain⟨⟨rfl,_⟩,_,rfl⟩:=D;exact⟨L,N,by rw[a.o];exact K,(Mv.ofBelow H _).trans T⟩
  clear b a i c m hh k q p u;generalize l.getD (Qw key l+1) 0=y at *;generalize Qw key l=P at *;have ab:(P:Int)+1<(l.length:Int):=by omega
  clear f
  go_enter func178,ntmps178
  go_wp2_with fail
  refine j.o.mono ?_;rintro e z ⟨rfl,h⟩;obtain⟨U,f1,I,F⟩:=M.o _ h;have O:=Qc I;have d:=Qc F;clear h I F;go_wp2;go_ret;exact⟨_,rfl,O.o,d.o⟩
theorem Zxd (v:Value) (l:List Int) (key least lo:Int) (B:Nat) (w:World) (g:Qs w B v l) (m:∀ x ∈ l,I64 x) (a:Qu least lo l) (y:l.length<=1000000):
 Calls prog 176 #[v,.int .i64 key] w fun e w'=>∃ v',e=.returned v'∧Qs w' B v' (Yp key l)∧Mv w w' v v':=by
 have f:Hid (Calls prog 211 #[v,.int .i64 key] w fun e w'=>e=.returned (.tuple #[.int .i64 (Qw key l),.bool (Zw key l)])∧Below w.heap.size w w'):=ZfM v l key least lo w (g.rd m) a y
 have k:=(ZhD key l (ZbJ a)).1;have h:=Qc (ZbM key least l lo a).2;have u:=Qc g
 cases hh:Zw key l
 ·rw[hh] at f
  have b:=Qc (Zgg key least l lo a hh);rw[b.o];clear b g a h hh k m;generalize Qw key l=P at *
  go_enter func176,ntmps176
  go_wp2_with fail
  refine f.o.mono ?_;rintro e n ⟨rfl,d⟩;have c:=Qc d;clear d;go_wp2;go_ret;exact⟨_,rfl,u.o.below c.o zL,Mv.ofBelow c.o v⟩
 ·rw[hh] at f
  have b:=Qc (Zgh key least l lo a hh);obtain⟨F,A⟩:=h.o hh
  have q:Hid (∀ W J,Qs W B v l->J=((Qw key l+2:Nat):Int)->Calls prog 210 #[v,.int .i64 (Qw key l),.int .i64 J] W fun e w'=>∃ v',e=.returned v'∧Qs w' B v' (l.take (Qw key l)++l.drop (Qw key l+2))∧Mv W w' v v'):=
   fun W J z C=>Zic v l B W z (Qw key l) (Qw key l+2) (by omega) (by omega) _ _ rfl C
  obtain⟨L',i⟩:∃ L',L'=Yp key l:=⟨_,rfl⟩;rw[<-i];rw[<-i] at b;have t:=Qc b.o.symm;rw[t.o] at q;clear i b t g a h hh k F;generalize Qw key l=P at *;have G:(P:Int)+1<(l.length:Int):=by omega
  clear A
  go_enter func176,ntmps176
  go_wp2_with fail
  refine f.o.mono ?_;rintro e n ⟨rfl,d⟩;have c:=Qc d;clear d
  go_wp2_with fail
  refine(q.o n _ (u.o.below c.o zL) (by omega)).mono ?_
  rintro e H ⟨I,rfl,p,j⟩;have E:=Qc ((Mv.ofBelow c.o v).trans j);have D:=Qc p;clear j p;go_wp2;go_ret;exact⟨_,rfl,D.o,E.o⟩
def ZdS (B:Nat) (w:World) (v:Value) (L:List Int) (n:Int) (e:Ending) (w':World):Prop:=
 ∃ v',e=.returned (.tuple #[v',.int .i64 n])∧Qs w' B v' L∧Mv w w' v v'
theorem Qs.alloc (h:Qs w B v l) (X:Obj):Qs (w.alloc X) B v l:=World.ownsRow.alloc h X
theorem Qs.single (h:Qs w B v l) (b:l.length=1):
 ∃ g cap,v=.slice (some ⟨g,0,none⟩) 1 cap∧(∀ X,(w.alloc X).cell? ⟨g,0,none⟩=some (.int .i64 (l.getD 0 0))∧(w.alloc X).frozen? ⟨g,0,none⟩=false)∧g<w.heap.size∧
  ∀ X n,Qs ((w.setCell ⟨g,0,none⟩ (.int .i64 n)).alloc X) B v [n]∧Mv w ((w.setCell ⟨g,0,none⟩ (.int .i64 n)).alloc X) v v:=by
 obtain⟨g,cap,rfl,-,-,m,j,-,-⟩:=h.put 0 (by omega) 0
 refine⟨g,cap,by rw[b],fun X=>?_,j,fun X n=>?_⟩
 ·obtain⟨g',i,a,d,f,_⟩:=(h.alloc X).put 0 (by omega) 0
  simp only [Value.slice.injEq,Option.some.injEq,Addr.mk.injEq] at a;obtain⟨⟨rfl,_⟩,_,rfl⟩:=a;exact⟨d,f⟩
 ·obtain⟨g',i,a,d,f,_,_,c,k⟩:=h.put 0 (by omega) n
  simp only [Value.slice.injEq,Option.some.injEq,Addr.mk.injEq] at a;obtain⟨⟨rfl,_⟩,_,rfl⟩:=a
  have e:l.set 0 n=[n]:=by
   match l,b with
   | [_],_=>rfl
  rw[e] at c;exact⟨c.alloc X,k.trans (Mv.alloc _ _ X)⟩
theorem Zpn (v:Value) (l:List Int) (o:Opn) (d:Bool) (g:Int) (B:Nat) (w:World) (p:Qs w B v l) (q:l.length=1) (F:-1099511627776<=l.getD 0 0) (C:l.getD 0 0<=1099511627776):
 Calls prog 124 #[v,opV o] w fun e w'=>e=.returned (.int .i64 (Zef ⟨0,l,d,g⟩ o).2)∧Qs w' B v (Zef ⟨0,l,d,g⟩ o).1.L∧Mv w w' v v:=by
 obtain⟨f,a,b⟩:=o;have x:=Qc p;have t:Hid (∀ X,Mv w (w.alloc X) v v):=fun X=>Mv.alloc w v X
 have E:=Qc (fun n w=>ZeH n w)
 obtain⟨c,cap,rfl,m,I,y⟩:=p.single q;have D:=Qc y;have z:=fun X=>(m X).1
 have G:=fun X=>(m X).2
 clear y p m;obtain⟨n,k⟩:∃ n,n=l.getD 0 0:=⟨_,rfl⟩;rw[<-k] at F C;simp only [<-k] at z;have u:=Qc k;have J:=ZbW a;clear k q;show Calls prog _ #[_,.agg #[.int .i64 f,.int .i64 a,.int .i64 b]] w _;by_cases j:f=1
 ·subst j
  have i:Hid (Zef ⟨0,l,d,g⟩ ⟨1,a,b⟩=(⟨0,[Jp (n+Jp a)],d,g⟩,n)):=by rw[u.o];exact if_pos ⟨rfl,rfl⟩
  rw[i.o]
  go_enter func124,ntmps124
  go_wp2_with(first | (go_at_call 173;refine(E.o _ _).mono ?_;rintro e H ⟨rfl,rfl⟩))
  go_ret;exact⟨rfl,D.o _ _⟩
 ·have K:(f == 1)=false:=beq_eq_false_iff_ne.2 j
  by_cases h:f=7
  ·have A:(f == 7)=true:=beq_iff_eq.2 h
   have i:Hid (Zef ⟨0,l,d,g⟩ ⟨f,a,b⟩=(⟨0,l,d,g⟩,n)):=by
    rw[u.o];unfold Zef;rw[if_neg (by simp;omega),if_neg (by simp),if_pos h]
    exact rfl
   rw[i.o];clear j h
   go_enter func124,ntmps124
   go_wp2;go_ret;exact⟨rfl,x.o.alloc _,t.o _⟩
  ·have A:(f == 7)=false:=beq_eq_false_iff_ne.2 h
   have i:Hid (Zef ⟨0,l,d,g⟩ ⟨f,a,b⟩=(⟨0,l,d,g⟩,0)):=by
    unfold Zef;rw[if_neg (by simp;omega),if_neg (by simp),if_neg h]
    exact rfl
   rw[i.o];clear j h
   go_enter func124,ntmps124
   go_wp2;go_ret;exact⟨rfl,x.o.alloc _,t.o _⟩
theorem Znp (v:Value) (l:List Int) (o:Opn) (d:Bool) (g:Int) (B:Nat) (w:World) (p:Qs w B v l) (q:l.length=1):
 Calls prog 125 #[v,opV o] w fun e w'=>e=.returned (.int .i64 (Zef ⟨1,l,d,g⟩ o).2)∧Qs w' B v (Zef ⟨1,l,d,g⟩ o).1.L∧Mv w w' v v:=by
 obtain⟨f,a,b⟩:=o;have x:=Qc p;have t:Hid (∀ X,Mv w (w.alloc X) v v):=fun X=>Mv.alloc w v X
 have D:=Qc (fun n w=>ZeH n w)
 obtain⟨c,cap,rfl,k,G,y⟩:=p.single q;have C:=Qc y;have z:=fun X=>(k X).1
 have E:=fun X=>(k X).2
 clear y p k;obtain⟨n,m⟩:∃ n,n=l.getD 0 0:=⟨_,rfl⟩;simp only [<-m] at z;have u:=Qc m;clear m q;show Calls prog _ #[_,.agg #[.int .i64 f,.int .i64 a,.int .i64 b]] w _;by_cases j:f=2
 ·subst j
  have i:Hid (Zef ⟨1,l,d,g⟩ ⟨2,a,b⟩=(⟨1,[Jp a],d,g⟩,n)):=by rw[u.o];exact rfl
  rw[i.o]
  go_enter func125,ntmps125
  go_wp2_with(first | (go_at_call 173;refine(D.o _ _).mono ?_;rintro e F ⟨rfl,rfl⟩))
  go_ret;exact⟨rfl,C.o _ _⟩
 ·have H:(f == 2)=false:=beq_eq_false_iff_ne.2 j
  by_cases h:f=7
  ·have A:(f == 7)=true:=beq_iff_eq.2 h
   have i:Hid (Zef ⟨1,l,d,g⟩ ⟨f,a,b⟩=(⟨1,l,d,g⟩,n)):=by
    rw[u.o];unfold Zef;rw[if_neg (by simp),if_neg (by simp;omega),if_pos h]
    exact rfl
   rw[i.o];clear j h
   go_enter func125,ntmps125
   go_wp2;go_ret;exact⟨rfl,x.o.alloc _,t.o _⟩
  ·have A:(f == 7)=false:=beq_eq_false_iff_ne.2 h
   have i:Hid (Zef ⟨1,l,d,g⟩ ⟨f,a,b⟩=(⟨1,l,d,g⟩,0)):=by
    unfold Zef;rw[if_neg (by simp),if_neg (by simp;omega),if_neg h]
    exact rfl
   rw[i.o];clear j h
   go_enter func125,ntmps125
   go_wp2;go_ret;exact⟨rfl,x.o.alloc _,t.o _⟩
theorem ZyL (kind:Int) (O:kind=2∨kind=3) (v:Value) (l:List Int) (f:Bool) (g a b:Int) (B:Nat) (w:World) (k:Qs w B v l) (m:∀ x ∈ l,I64 x) (N:l.length<=64):
 Calls prog 174 #[.int .i64 kind,v] w fun e w'=>ZdS B w v (Zq ⟨kind,l,f,g⟩ ⟨4,a,b⟩).1.L (Zq ⟨kind,l,f,g⟩ ⟨4,a,b⟩).2 e w':=by
 have t:=Qc k;have F:=k.shape;by_cases d:l.length=0
 ·have j:Hid (Zq ⟨kind,l,f,g⟩ ⟨4,a,b⟩=(⟨kind,l,f,g⟩,-1)):=by
   unfold Zq;rw[if_neg (by simp),if_pos rfl,if_pos d]
   exact rfl
  rw[j.o];obtain⟨ao,cap,rfl⟩:=F;rw[d]
  have S:Hid (Qs w B (.slice ao 0 cap) l):=by
   have h:=t.o
   rwa [d] at h
  clear t k d j m N
  go_enter func174,ntmps174
  go_wp2;go_ret2;exact⟨_,rfl,S.o,Mv.refl _ _⟩
 ·have V:((l.length:Int) == 0)=false:=beq_eq_false_iff_ne.2 (by omega)
  have E:l≠[]:=fun h=>d (by rw[h];rfl)
  have R:=k.rd m;obtain⟨ao,cap,rfl⟩:=F
  have u:Hid (∀ i:Nat,i<l.length->∀ I J,I=(i:Int)->J=((i+1:Nat):Int)->Calls prog 210 #[.slice ao l.length cap,.int .i64 I,.int .i64 J] w fun e w'=>∃ v',e=.returned v'∧Qs w' B v' (l.take i++l.drop (i+1))∧Mv w w' (.slice ao l.length cap) v'):=
   fun i m I J X T=>Zic _ l B w t.o i (i+1) (by omega) (by omega) I J X T
  obtain⟨ab,aa,G,-,-,-,-,U⟩:=R;simp only [Value.slice.injEq] at G;obtain⟨rfl,-,rfl⟩:=G;rcases U with P | ⟨c,ac,rfl,z⟩
  ·exact absurd P E
  rcases O with rfl | rfl
  ·have j:Hid (Zq ⟨2,l,f,g⟩ ⟨4,a,b⟩=(⟨2,l.take 0++l.drop (0+1),f,g⟩,l.getD 0 0)):=by
    unfold Zq;rw[if_neg (by simp),if_pos rfl,if_neg d,if_pos rfl]
    exact rfl
   rw[j.o];have A:=z 0 (by omega)
   rw[Nat.add_zero] at A;have q:=Qc (u.o 0 (by omega))
   have Y:(0:Int)<(l.length:Int):=by omega
   generalize l.getD 0 0=y at *;generalize l.take 0++l.drop (0+1)=L' at *;clear z u j d E k m t
   go_enter func174,ntmps174
   go_wp2_with fail
   refine(q.o _ _ (by simp) (by simp)).mono ?_
   rintro e Q ⟨W,rfl,n,p⟩;have D:=Qc n;have C:=Qc p;clear n p;go_wp2;go_ret2;exact⟨_,rfl,D.o,C.o⟩
  ·have j:Hid (Zq ⟨3,l,f,g⟩ ⟨4,a,b⟩=(⟨3,l.take (l.length-1)++l.drop (l.length-1+1),f,g⟩,l.getD (l.length-1) 0)):=by
    unfold Zq;rw[if_neg (by simp),if_pos rfl,if_neg d,if_neg (by simp)]
    have e:l.drop (l.length-1+1)=[]:=List.drop_of_length_le (by omega)
    rw[e,List.append_nil];exact rfl
   rw[j.o];have A:=z (l.length-1) (by omega)
   have q:=Qc (u.o (l.length-1) (by omega))
   obtain⟨M,H⟩:∃ M,M=l.length-1:=⟨_,rfl⟩;rw[<-H] at A q ⊢;have K:l.length=M+1:=by omega
   generalize l.getD M 0=y at *;generalize l.take M++l.drop (M+1)=L' at *;clear z u j d E k m t H V;rw[K] at q ⊢;have Z:(M:Int)<64:=by omega
   clear K N
   go_enter func174,ntmps174
   go_wp2_with fail
   refine(q.o _ _ (by simp) (by simp)).mono ?_
   rintro e Q ⟨W,rfl,n,p⟩;have D:=Qc n;have C:=Qc p;clear n p;go_wp2;go_ret2;exact⟨_,rfl,D.o,C.o⟩
theorem Zh {b:Int} (h:a=b):Ending.returned (.tuple #[v,.int .i64 a])=.returned (.tuple #[v,.int .i64 b]):=by rw[h]
theorem Zxe (kind:Int) (m:kind=2∨kind=3) (v:Value) (l:List Int) (o:Opn) (c:Bool) (g:Int) (B:Nat) (w:World) (h:Qs w B v l) (T:B<=w.heap.size) (p:∀ x ∈ l,I64 x) (y:l.length<=64):
 Calls prog 126 #[.int .i64 kind,v,opV o] w fun e w'=>ZdS B w v (Zq ⟨kind,l,c,g⟩ o).1.L (Zq ⟨kind,l,c,g⟩ o).2 e w':=by
 obtain⟨f,a,b⟩:=o;have z:=Qc h;have u:Hid (∀ X,Mv w (w.alloc X) v v):=fun X=>Mv.alloc w v X
 have O:=Qc (fun n w=>ZeH n w)
 show Calls prog _ #[_,_,.agg #[.int .i64 f,.int .i64 a,.int .i64 b]] w _;by_cases j:f=3
 ·subst j
  obtain⟨ao,cap,rfl⟩:=h.shape;by_cases A:l.length=64
  ·have d:Hid (Zq ⟨kind,l,c,g⟩ ⟨3,a,b⟩=(⟨kind,l,c,g⟩,-1)):=by
    unfold Zq;rw[if_pos rfl,if_pos A];exact rfl
   rw[d.o];have M:((l.length:Int) == 64)=true:=beq_iff_eq.2 (by omega)
   clear A d h p y m
   go_enter func126,ntmps126
   go_wp2;go_ret2;exact⟨_,rfl,z.o.alloc _,u.o _⟩
  ·have d:Hid (Zq ⟨kind,l,c,g⟩ ⟨3,a,b⟩=(⟨kind,l++[Jp a],c,g⟩,(l.length:Int)+1)):=by
    unfold Zq;rw[if_pos rfl,if_neg A];exact rfl
   rw[d.o];have M:((l.length:Int) == 64)=false:=beq_eq_false_iff_ne.2 (by omega)
   obtain⟨L',C⟩:∃ L',L'=l++[Jp a]:=⟨_,rfl⟩;rw[<-C];have Q:=Qc C;have N:Hid ((L'.length:Int)=(l.length:Int)+1):=by rw[C,length_append];exact rfl
   clear A d h p m C
   go_enter func126,ntmps126
   go_wp2_with(first | (go_at_call 173;refine(O.o _ _).mono ?_;rintro e S ⟨rfl,rfl⟩) | (at_builtin;refine Zep _ rfl _ _ rfl B _ l rfl (z.o.alloc _) _ _ rfl (by simp[Act.eval]) (by omega) (by simp;omega) ?_))
   intro P H i F G;have t:=Mv.app F (by simp) G
   clear F G;rw[<-Q.o] at i;have E:=Qc i;obtain⟨R,U,rfl⟩:=i.shape;have D:=Qc ((u.o _).trans t);clear i t;go_wp2;go_ret2;exact⟨_,Zh N.o,E.o,D.o⟩
 ·have I:(f == 3)=false:=beq_eq_false_iff_ne.2 j
  by_cases k:f=4
  ·subst k
   have K:Hid (∀ X,Calls prog 174 #[.int .i64 kind,v] (w.alloc X) fun e w'=>ZdS B (w.alloc X) v (Zq ⟨kind,l,c,g⟩ ⟨4,a,b⟩).1.L (Zq ⟨kind,l,c,g⟩ ⟨4,a,b⟩).2 e w'):=fun X=>ZyL kind m v l c g a b B (w.alloc X) (z.o.alloc X) p y
   generalize (Zq ⟨kind,l,c,g⟩ ⟨4,a,b⟩).1.L=L' at *;generalize (Zq ⟨kind,l,c,g⟩ ⟨4,a,b⟩).2=n at *;clear h p y m j I
   go_enter func126,ntmps126
   go_wp2_with fail
   refine(K.o _).mono ?_;rintro e H ⟨P,rfl,i,t⟩;have E:=Qc i;have D:=Qc ((u.o _).trans t);clear i t;go_wp2;go_ret2;exact⟨_,rfl,E.o,D.o⟩
  ·have V:(f == 4)=false:=beq_eq_false_iff_ne.2 k
   obtain⟨ao,cap,rfl⟩:=h.shape;by_cases q:f=7
   ·have J:(f == 7)=true:=beq_iff_eq.2 q
    have d:Hid (Zq ⟨kind,l,c,g⟩ ⟨f,a,b⟩=(⟨kind,l,c,g⟩,(l.length:Int))):=by
     unfold Zq;rw[if_neg j,if_neg k,if_pos q];exact rfl
    rw[d.o];clear h p y m j k q d
    go_enter func126,ntmps126
    go_wp2;go_ret2;exact⟨_,rfl,z.o.alloc _,u.o _⟩
   ·have J:(f == 7)=false:=beq_eq_false_iff_ne.2 q
    have d:Hid (Zq ⟨kind,l,c,g⟩ ⟨f,a,b⟩=(⟨kind,l,c,g⟩,0)):=by
     unfold Zq;rw[if_neg j,if_neg k,if_neg q];exact rfl
    rw[d.o];clear h p y m j k q d
    go_enter func126,ntmps126
    go_wp2;go_ret2;exact⟨_,rfl,z.o.alloc _,u.o _⟩
theorem Qs.drew (h:Qs w B v l):Qs w.drew B v l:=h
theorem Zbx (key:Int) (l:List Int):J1 key 0 l<0↔Zw key l=false:=by
 rw[Zen];unfold Zw
 cases Yh key l <;> simp
theorem ZuR (h:Zw key l=true):Zrv key l=(Yh key l).getD 0:=by
 rw[ZoI];unfold Zw at h
 cases hg:Yh key l with
 | none=>rw[hg] at h;simp at h
 | some x=>rfl
theorem ZlD (h:Zw key l=false):Zrv key l=-1:=by
 rw[ZoI];unfold Zw at h
 cases hg:Yh key l with
 | none=>rfl
 | some x=>rw[hg] at h;simp at h
theorem Zsq (v:Value) (l:List Int) (o:Opn) (Z:Bool) (g:Int) (B:Nat) (w:World) (ho:Qs w B v l) (hB:B<=w.heap.size) (S:Qu (-1099511627776) (-1) l) (ah:l.length<=128):
 Calls prog 127 #[v,opV o] w fun e w'=>ZdS B w v (Z5 ⟨4,l,Z,g⟩ o).1.L (Z5 ⟨4,l,Z,g⟩ o).2 e w':=by
 obtain⟨c,a,b⟩:=o;have hi:=ZaB (by decide) (by decide) S
 have HO:=Qc ho;have ab:Hid (∀ X,Mv w (w.alloc X) v v):=fun X=>Mv.alloc w v X
 have HC:=Qc (fun n w=>ZeH n w)
 have HW:=Qc (fun p q W=>Gz p q W)
 have HS:=Qc (fun n l2 i a2 b2 W R p2=>Zdu n l2 i a2 b2 W R p2)
 have aa:Hid (∀ W,Qs W B v l->Calls prog 175 #[v,.int .i64 a] W fun e w'=>e=.returned (.tuple #[.int .i64 ((Yh a l).getD 0),.bool (Zw a l)])∧Below W.heap.size W w'):=fun W h=>ZgX v l a _ _ W (h.rd hi) S (by omega)
 have ag:Hid (∀ n W,Qs W B v l->B<=W.heap.size->Calls prog 178 #[v,.int .i64 a,.int .i64 n] W fun e w'=>∃ v',e=.returned v'∧Qs w' B v' (Xg a n false l)∧Mv W w' v v'):=fun n W f i=>ZgY v l a n _ _ B W f i hi S (by omega)
 have ae:Hid (∀ W,Qs W B v l->B<=W.heap.size->Calls prog 176 #[v,.int .i64 a] W fun e w'=>∃ v',e=.returned v'∧Qs w' B v' (Yp a l)∧Mv W w' v v'):=fun W f _=>Zxd v l a _ _ B W f hi S (by omega)
 obtain⟨ao,cap,rfl⟩:=ho.shape;have af:Hid (∀ W,Calls prog 177 #[.slice ao l.length cap] W fun e w'=>e=.returned (.bool (decide (l.length=128)))∧w'=W):=fun W=>ZlC ao l.length cap W
 obtain⟨L',n',hE⟩:∃ L' n',Z5 ⟨4,l,Z,g⟩ ⟨c,a,b⟩=(⟨4,L',Z,g⟩,n'):=by
  unfold Z5
  repeat' split
  all_goals exact⟨_,_,rfl⟩
 rw[hE];have D:=Qc hE;clear hE ho S hi;show Calls prog _ #[_,.agg #[.int .i64 c,.int .i64 a,.int .i64 b]] w fun e w'=>ZdS B w (.slice ao l.length cap) L' n' e w'
 by_cases hk:0<=a∧a<=255
 ·have Y:=Qc (decide_eq_true hk)
  have H:Hid (¬ (a<0∨255<a)):=by
   show ¬ (a<0∨255<a);omega
  clear hk
  cases hh:Zw a l
  ·have ac:=Qc ((Zbx a l).2 hh)
   have P:=Qc (ZlD hh);rw[hh] at aa;clear hh;generalize (Yh a l).getD 0=y at *
   go_enter func127,ntmps127
   go_wp2_with fail
   refine(HW.o _ _ _).mono ?_;rintro e U ⟨a1,b1,rfl,J,I,k⟩;have j:=(k.block w.heap.size (by simp)).trans (heap_alloc_new w _)
   have R:=cell_of_row U w.heap.size 1 _ _ _ j;have K:=Qc j;have O:=Qc ((ab.o _).trans (Mv.ofBelow k _));have G:=Qc ((HO.o.alloc _).below k zL);clear k j
   go_wp2_with fail
   refine(HS.o _ _ _ _ _ _ J I).mono ?_;rintro e u ⟨rfl,rfl⟩;rw[Y.o];clear J I
   go_wp2_with fail
   refine(aa.o _ G.o).mono ?_;rintro e u ⟨rfl,F⟩;have j:=(F.block w.heap.size (Array.getElem?_eq_some_iff.1 K.o).1).trans K.o;have p0:=cell_of_row u w.heap.size 0 _ _ _ j;have q1:=cell_of_row u w.heap.size 1 _ _ _ j;have q2:=cell_of_row u w.heap.size 2 _ _ _ j;have x:=Qc (O.o.trans (Mv.ofBelow F _));have E:=Qc (G.o.below F zL);have V:B<=u.heap.size:=Nat.le_trans hB x.o.size;clear F j K O G R;by_cases m:c=7
   ·have d:Hid (L'=l∧n'=-1):=by
     have h:=D.o;unfold Z5 at h;rw[if_neg H.o,if_neg (show ¬ (c≠7∧c≠6∧c≠5) by omega),if_neg (show ¬ c=6 by omega),if_neg (show ¬ c=5 by omega),P.o] at h
     injection h with f i
     injection f with _ h3
     exact⟨h3.symm,i.symm⟩
    have e7:(c == 7)=true:=beq_iff_eq.2 m;clear m;go_wp2;go_ret2;exact⟨_,Zh d.o.2.symm,by rw[d.o.1];exact E.o,x.o⟩
   ·have e7:(c == 7)=false:=beq_eq_false_iff_ne.2 m
    by_cases z:c=6
    ·have d:Hid (L'=Yp a l∧n'=-1):=by
      have h:=D.o;unfold Z5 at h;rw[if_neg H.o,if_neg (show ¬ (c≠7∧c≠6∧c≠5) by omega),if_pos (show c=6 by omega),P.o] at h
      injection h with f i
      injection f with _ h3
      exact⟨h3.symm,i.symm⟩
     have e6:(c == 6)=true:=beq_iff_eq.2 z;clear z m
     go_wp2_with fail
     refine(ae.o _ E.o V).mono ?_;rintro e T ⟨v3,rfl,A,C⟩;have M:=Qc (x.o.trans C);have N:=Qc A;clear A C;go_wp2;go_ret2;exact⟨_,Zh d.o.2.symm,by rw[d.o.1];exact N.o,M.o⟩
    ·have e6:(c == 6)=false:=beq_eq_false_iff_ne.2 z
     by_cases t:c=5
     ·have e5:(c == 5)=true:=beq_iff_eq.2 t
      by_cases Q:l.length=128
      ·have d:Hid (L'=l∧n'=-2):=by
        have h:=D.o;unfold Z5 at h;rw[if_neg H.o,if_neg (show ¬ (c≠7∧c≠6∧c≠5) by omega),if_neg (show ¬ c=6 by omega),if_pos t,if_pos ⟨ac.o,Q⟩] at h
        injection h with f i
        injection f with _ h3
        exact⟨h3.symm,i.symm⟩
       have ad:=Qc (decide_eq_true Q);clear t z m Q
       go_wp2_with fail
       refine(af.o _).mono ?_;rintro e T ⟨rfl,rfl⟩;rw[ad.o];go_wp2;go_ret2;exact⟨_,Zh d.o.2.symm,by rw[d.o.1];exact E.o,x.o⟩
      ·have d:Hid (L'=Xg a (Jp b) false l∧n'=-1):=by
        have h:=D.o;unfold Z5 at h;rw[if_neg H.o,if_neg (show ¬ (c≠7∧c≠6∧c≠5) by omega),if_neg (show ¬ c=6 by omega),if_pos t,if_neg (fun h=>Q h.2),P.o] at h
        injection h with f i
        injection f with _ h3
        exact⟨h3.symm,i.symm⟩
       have ad:=Qc (decide_eq_false Q);clear Q;clear t z m
       go_wp2_with fail
       refine(af.o _).mono ?_;rintro e T ⟨rfl,rfl⟩;rw[ad.o];go_wp2
       go_region_with
        (first
         | (go_at_call 173;refine(HC.o _ _).mono ?_;rintro e w3 ⟨rfl,rfl⟩)
         | (go_at_call 178;refine(ag.o _ _ E.o.drew V).mono ?_;rintro e T ⟨v3,rfl,A,C⟩;have M:=Qc (x.o.drew.trans C);have N:=Qc A;clear A C))
       all_goals
        go_wp2;go_ret2;exact⟨_,Zh d.o.2.symm,by rw[d.o.1];exact N.o,M.o⟩
     ·have e5:(c == 5)=false:=beq_eq_false_iff_ne.2 t
      have d:Hid (L'=l∧n'=0):=by
       have h:=D.o;unfold Z5 at h;rw[if_neg H.o,if_pos (show(c≠7∧c≠6∧c≠5) by omega)] at h
       injection h with f i
       injection f with _ h3
       exact⟨h3.symm,i.symm⟩
      clear t z m;go_wp2;go_ret2;exact⟨_,Zh d.o.2.symm,by rw[d.o.1];exact E.o,x.o⟩
  ·have ac:Hid (¬ J1 a 0 l<0):=fun h=>by rw[(Zbx a l).1 h] at hh;cases hh
   have P:=Qc (ZuR hh);rw[hh] at aa;clear hh;generalize (Yh a l).getD 0=y at *
   go_enter func127,ntmps127
   go_wp2_with fail
   refine(HW.o _ _ _).mono ?_;rintro e U ⟨a1,b1,rfl,J,I,k⟩;have j:=(k.block w.heap.size (by simp)).trans (heap_alloc_new w _)
   have R:=cell_of_row U w.heap.size 1 _ _ _ j;have K:=Qc j;have O:=Qc ((ab.o _).trans (Mv.ofBelow k _));have G:=Qc ((HO.o.alloc _).below k zL);clear k j
   go_wp2_with fail
   refine(HS.o _ _ _ _ _ _ J I).mono ?_;rintro e u ⟨rfl,rfl⟩;rw[Y.o];clear J I
   go_wp2_with fail
   refine(aa.o _ G.o).mono ?_;rintro e u ⟨rfl,F⟩;have j:=(F.block w.heap.size (Array.getElem?_eq_some_iff.1 K.o).1).trans K.o;have p0:=cell_of_row u w.heap.size 0 _ _ _ j;have q1:=cell_of_row u w.heap.size 1 _ _ _ j;have q2:=cell_of_row u w.heap.size 2 _ _ _ j;have x:=Qc (O.o.trans (Mv.ofBelow F _));have E:=Qc (G.o.below F zL);have V:B<=u.heap.size:=Nat.le_trans hB x.o.size;clear F j K O G R;by_cases m:c=7
   ·have d:Hid (L'=l∧n'=y):=by
     have h:=D.o;unfold Z5 at h;rw[if_neg H.o,if_neg (show ¬ (c≠7∧c≠6∧c≠5) by omega),if_neg (show ¬ c=6 by omega),if_neg (show ¬ c=5 by omega),P.o] at h
     injection h with f i
     injection f with _ h3
     exact⟨h3.symm,i.symm⟩
    have e7:(c == 7)=true:=beq_iff_eq.2 m;clear m;go_wp2;go_ret2;exact⟨_,Zh d.o.2.symm,by rw[d.o.1];exact E.o,x.o⟩
   ·have e7:(c == 7)=false:=beq_eq_false_iff_ne.2 m
    by_cases z:c=6
    ·have d:Hid (L'=Yp a l∧n'=y):=by
      have h:=D.o;unfold Z5 at h;rw[if_neg H.o,if_neg (show ¬ (c≠7∧c≠6∧c≠5) by omega),if_pos (show c=6 by omega),P.o] at h
      injection h with f i
      injection f with _ h3
      exact⟨h3.symm,i.symm⟩
     have e6:(c == 6)=true:=beq_iff_eq.2 z;clear z m
     go_wp2_with fail
     refine(ae.o _ E.o V).mono ?_;rintro e T ⟨v3,rfl,A,C⟩;have M:=Qc (x.o.trans C);have N:=Qc A;clear A C;go_wp2;go_ret2;exact⟨_,Zh d.o.2.symm,by rw[d.o.1];exact N.o,M.o⟩
    ·have e6:(c == 6)=false:=beq_eq_false_iff_ne.2 z
     by_cases t:c=5
     ·have e5:(c == 5)=true:=beq_iff_eq.2 t
      have d:Hid (L'=Xg a (Jp b) false l∧n'=y):=by
       have h:=D.o;unfold Z5 at h;rw[if_neg H.o,if_neg (show ¬ (c≠7∧c≠6∧c≠5) by omega),if_neg (show ¬ c=6 by omega),if_pos t,if_neg (fun h=>absurd (show J1 a 0 l<0 from h.1) (by have:=ac.o;omega)),P.o] at h
       injection h with f i
       injection f with _ h3
       exact⟨h3.symm,i.symm⟩
      clear t z m;go_wp2
      go_region_with
       (first
        | (go_at_call 173;refine(HC.o _ _).mono ?_;rintro e w3 ⟨rfl,rfl⟩)
        | (go_at_call 178;refine(ag.o _ _ E.o.drew V).mono ?_;rintro e T ⟨v3,rfl,A,C⟩;have M:=Qc (x.o.drew.trans C);have N:=Qc A;clear A C))
      all_goals
       go_wp2;go_ret2;exact⟨_,Zh d.o.2.symm,by rw[d.o.1];exact N.o,M.o⟩
     ·have e5:(c == 5)=false:=beq_eq_false_iff_ne.2 t
      have d:Hid (L'=l∧n'=0):=by
       have h:=D.o;unfold Z5 at h;rw[if_neg H.o,if_pos (show(c≠7∧c≠6∧c≠5) by omega)] at h
       injection h with f i
       injection f with _ h3
       exact⟨h3.symm,i.symm⟩
      clear t z m;go_wp2;go_ret2;exact⟨_,Zh d.o.2.symm,by rw[d.o.1];exact E.o,x.o⟩
 ·have Y:=Qc (decide_eq_false hk)
  have d:Hid (L'=l∧n'=-1):=by
   have h:=D.o;unfold Z5 at h;rw[if_pos (show a<0∨255<a by omega)] at h
   injection h with f i
   injection f with _ h3
   exact⟨h3.symm,i.symm⟩
  clear hk
  go_enter func127,ntmps127
  go_wp2_with fail
  refine(HW.o _ _ _).mono ?_;rintro e U ⟨a1,b1,rfl,J,I,k⟩;have j:=(k.block w.heap.size (by simp)).trans (heap_alloc_new w _)
  have R:=cell_of_row U w.heap.size 1 _ _ _ j;have K:=Qc j;have O:=Qc ((ab.o _).trans (Mv.ofBelow k _));have G:=Qc ((HO.o.alloc _).below k zL);clear k j
  go_wp2_with fail
  refine(HS.o _ _ _ _ _ _ J I).mono ?_;rintro e u ⟨rfl,rfl⟩;rw[Y.o];clear J I;go_wp2;go_ret2;exact⟨_,Zh d.o.2.symm,by rw[d.o.1];exact G.o,O.o⟩
theorem Zpo (v:Value) (l:List Int) (a b:Int) (j:Bool) (g:Int) (B:Nat) (w:World) (T:Qs w B v l) (hB:B<=w.heap.size) (C:Qu 0 (-1) l) (ae:l.length<=128):
 Calls prog 179 #[v,.int .i64 a,.int .i64 b] w fun e w'=>ZdS B w v (Yd ⟨5,l,j,g⟩ ⟨8,a,b⟩).1.L (Yd ⟨5,l,j,g⟩ ⟨8,a,b⟩).2 e w':=by
 have K:=ZaB (by decide) (by decide) C
 have U:=Qc T;have HC:=Qc (fun n w=>ZeH n w)
 have I:=Qc (fun p q W=>Gz p q W)
 have N:=Qc (fun n l2 d a2 b2 W p1 p2=>Zdu n l2 d a2 b2 W p1 p2)
 have ad:Hid (∀ W,Qs W B v l->Calls prog 175 #[v,.int .i64 a] W fun e w'=>e=.returned (.tuple #[.int .i64 (Yz a l),.bool (Zw a l)])∧Below W.heap.size W w'):=fun W h=>by
  rw[Zhp];exact ZgX v l a _ _ W (h.rd K) C (by omega)
 have ab:Hid (∀ n W,Qs W B v l->B<=W.heap.size->Calls prog 178 #[v,.int .i64 a,.int .i64 n] W fun e w'=>∃ v',e=.returned v'∧Qs w' B v' (Xg a n false l)∧Mv W w' v v'):=fun n W k d=>ZgY v l a n _ _ B W k d K C (by omega)
 have ag:=ZaW C a;obtain⟨ao,cap,rfl⟩:=T.shape;have Y:Hid (∀ W,Calls prog 177 #[.slice ao l.length cap] W fun e w'=>e=.returned (.bool (decide (l.length=128)))∧w'=W):=fun W=>ZlC ao l.length cap W
 obtain⟨L',n',O⟩:∃ L' n',Yd ⟨5,l,j,g⟩ ⟨8,a,b⟩=(⟨5,L',j,g⟩,n'):=by
  unfold Yd;rw[if_neg (by simp),if_neg (by simp)]
  repeat' split
  all_goals exact⟨_,_,rfl⟩
 rw[O];have aa:=Qc O
 have H:Hid ((if a<0∨255<a then((⟨5,l,j,g⟩:St),(-1:Int)) else if b<0 then(⟨5,l,j,g⟩,-1) else if J1 a 0 l<0∧l.length=128 then(⟨5,l,j,g⟩,-2) else(⟨5,Xg a (Jp (Yz a l+Jp b)) false l,j,g⟩,Jp (Yz a l+Jp b)))=(⟨5,L',j,g⟩,n')):=by
  refine Qc ?_;have h:=aa.o;unfold Yd at h;rw[if_neg (by simp),if_neg (by simp)] at h
  simpa using h
 clear O T C K aa;show Calls prog _ _ w fun e w'=>ZdS B w (.slice ao l.length cap) L' n' e w'
 have af:=ZbW b;by_cases D:0<=a∧a<=255
 ·have G:=Qc (decide_eq_true D)
  have Q:Hid (¬ (a<0∨255<a)):=by
   show ¬ (a<0∨255<a);omega
  clear D;by_cases hb:b<0
  ·have c:Hid (L'=l∧n'=-1):=by
    have h:=H.o;rw[if_neg Q.o,if_pos hb] at h
    injection h with k d
    injection k with _ h3
    exact⟨h3.symm,d.symm⟩
   go_enter func179,ntmps179
   go_wp2_with fail
   refine(I.o _ _ _).mono ?_;rintro e Z ⟨X,b1,rfl,t,x,f⟩;have u:=Qc (Mv.ofBelow f (.slice ao l.length cap));have m:=Qc (U.o.below f zL);clear f
   go_wp2_with fail
   refine(N.o _ _ _ _ _ _ t x).mono ?_;rintro e E ⟨rfl,rfl⟩;rw[G.o];go_wp2;go_ret2;exact⟨_,Zh c.o.2.symm,by rw[c.o.1];exact m.o,u.o⟩
  ·go_enter func179,ntmps179
   go_wp2_with fail
   refine(I.o _ _ _).mono ?_;rintro e Z ⟨X,b1,rfl,t,x,f⟩;have u:=Qc (Mv.ofBelow f (.slice ao l.length cap));have m:=Qc (U.o.below f zL);clear f
   go_wp2_with fail
   refine(N.o _ _ _ _ _ _ t x).mono ?_;rintro e E ⟨rfl,rfl⟩;rw[G.o];clear t x
   go_wp2_with fail
   refine(ad.o _ m.o).mono ?_;rintro e E ⟨rfl,J⟩;have F:=Qc (u.o.trans (Mv.ofBelow J _));have P:=Qc (m.o.below J zL);have ac:B<=E.heap.size:=Nat.le_trans hB F.o.size;clear J u m;by_cases i:Zw a l=false∧l.length=128
   ·have c:Hid (L'=l∧n'=-2):=by
     have h:=H.o;rw[if_neg Q.o,if_neg (show ¬ b<0 by omega),if_pos ⟨(Zbx a l).2 i.1,i.2⟩] at h
     injection h with k d
     injection k with _ h3
     exact⟨h3.symm,d.symm⟩
    have S:=Qc (decide_eq_true i.2);rw[i.1];clear i
    go_wp2_with fail
    refine(Y.o _).mono ?_;rintro e R ⟨rfl,rfl⟩;rw[S.o];go_wp2;go_ret2;exact⟨_,Zh c.o.2.symm,by rw[c.o.1];exact P.o,F.o⟩
   ·have c:Hid (L'=Xg a (Jp (Yz a l+Jp b)) false l∧n'=Jp (Yz a l+Jp b)):=by
     have h:=H.o;rw[if_neg Q.o,if_neg (show ¬ b<0 by omega),if_neg (fun h=>i ⟨(Zbx a l).1 h.1,h.2⟩)] at h
     injection h with k d
     injection k with _ h3
     exact⟨h3.symm,d.symm⟩
    generalize Yz a l=y at *
    cases hh:Zw a l
    ·have S:=Qc (decide_eq_false (fun h=>i ⟨hh,h⟩))
     clear i hh
     go_wp2_with fail
     refine(Y.o _).mono ?_;rintro e R ⟨rfl,rfl⟩;rw[S.o]
     go_wp2_with(first | (go_at_call 173;refine(HC.o _ _).mono ?_;rintro e w3 ⟨rfl,rfl⟩) | (go_at_call 178;refine(ab.o _ _ P.o ac).mono ?_;rintro e R ⟨v3,rfl,A,z⟩;have M:=Qc (F.o.trans z);have V:=Qc A;clear A z))
     go_ret2;exact⟨_,Zh c.o.2.symm,by rw[c.o.1];exact V.o,M.o⟩
    ·clear i hh
     go_wp2_with(first | (go_at_call 173;refine(HC.o _ _).mono ?_;rintro e w3 ⟨rfl,rfl⟩) | (go_at_call 178;refine(ab.o _ _ P.o ac).mono ?_;rintro e R ⟨v3,rfl,A,z⟩;have M:=Qc (F.o.trans z);have V:=Qc A;clear A z))
     go_ret2;exact⟨_,Zh c.o.2.symm,by rw[c.o.1];exact V.o,M.o⟩
 ·have G:=Qc (decide_eq_false D)
  have c:Hid (L'=l∧n'=-1):=by
   have h:=H.o;rw[if_pos (show a<0∨255<a by omega)] at h
   injection h with k d
   injection k with _ h3
   exact⟨h3.symm,d.symm⟩
  clear D
  go_enter func179,ntmps179
  go_wp2_with fail
  refine(I.o _ _ _).mono ?_;rintro e Z ⟨X,b1,rfl,t,x,f⟩;have u:=Qc (Mv.ofBelow f (.slice ao l.length cap));have m:=Qc (U.o.below f zL);clear f
  go_wp2_with fail
  refine(N.o _ _ _ _ _ _ t x).mono ?_;rintro e E ⟨rfl,rfl⟩;rw[G.o];go_wp2;go_ret2;exact⟨_,Zh c.o.2.symm,by rw[c.o.1];exact m.o,u.o⟩
theorem Zxf (v:Value) (l:List Int) (af a b:Int) (t:Bool) (g:Int) (B:Nat) (w:World) (ho:Qs w B v l) (Z:B<=w.heap.size) (X:Qu 0 (-1) l) (aI:l.length<=128):
 Calls prog 180 #[v,.int .i64 a,.int .i64 b] w fun e w'=>ZdS B w v (Zbl ⟨5,l,t,g⟩ ⟨af,a,b⟩).1.L (Zbl ⟨5,l,t,g⟩ ⟨af,a,b⟩).2 e w':=by
 have hi:=ZaB (by decide) (by decide) X
 have HO:=Qc ho;have HW:=Qc (fun p q W=>Gz p q W)
 have HS:=Qc (fun n l2 d a2 b2 W p1 p2=>Zdu n l2 d a2 b2 W p1 p2)
 have aj:Hid (∀ k W,Qs W B v l->Calls prog 175 #[v,.int .i64 k] W fun e w'=>e=.returned (.tuple #[.int .i64 (Yz k l),.bool (Zw k l)])∧Below W.heap.size W w'):=fun k W h=>by
  rw[Zhp];exact ZgX v l k _ _ W (h.rd hi) X (by omega)
 obtain⟨ao,cap,rfl⟩:=ho.shape;have ah:Hid (∀ W,Calls prog 177 #[.slice ao l.length cap] W fun e w'=>e=.returned (.bool (decide (l.length=128)))∧w'=W):=fun W=>ZlC ao l.length cap W
 obtain⟨L',n',hE⟩:∃ L' n',Zbl ⟨5,l,t,g⟩ ⟨af,a,b⟩=(⟨5,L',t,g⟩,n'):=by
  unfold Zbl
  repeat' split
  all_goals exact⟨_,_,rfl⟩
 rw[hE];have HE:=Qc hE;have U:=Qc X;have HI:=Qc hi;clear hE ho X hi;show Calls prog _ _ w fun e w'=>ZdS B w (.slice ao l.length cap) L' n' e w'
 by_cases hk:0<=a∧a<=65535
 ·have Y:=Qc (decide_eq_true hk)
  obtain⟨aw,aG⟩:=hk;by_cases hb:b<0
  ·have c:Hid (L'=l∧n'=0):=by
    have h:=HE.o;unfold Zbl at h;rw[if_pos (.inr (.inr hb))] at h
    injection h with f d
    injection f with _ h3
    exact⟨h3.symm,d.symm⟩
   go_enter func180,ntmps180
   go_wp2_with fail
   refine(HW.o _ _ _).mono ?_;rintro e W1 ⟨a1,b1,rfl,G,C,j⟩;have H:=Qc (Mv.ofBelow j (.slice ao l.length cap));have u:=Qc (HO.o.below j zL);clear j
   go_wp2_with fail
   refine(HS.o _ _ _ _ _ _ G C).mono ?_;rintro e V ⟨rfl,rfl⟩;rw[Y.o];go_wp2;go_ret2;exact⟨_,Zh c.o.2.symm,by rw[c.o.1];exact u.o,H.o⟩
  ·have aK:0<=b:=by omega
   have m:Hid ((if J1 (a / 256) 0 l<0∨Yz (a / 256) l<b then((⟨5,l,t,g⟩:St),(0:Int)) else if a / 256=a % 256 then(⟨5,l,t,g⟩,1) else if(J1 (a % 256) 0 l<0∧l.length=128)∨1099511627776<Yz (a % 256) l+b then(⟨5,l,t,g⟩,0) else(⟨5,Xg (a % 256) (Yz (a % 256) l+b) false (Xg (a / 256) (Yz (a / 256) l-b) false l),t,g⟩,1))=(⟨5,L',t,g⟩,n')):=by
    have h:=HE.o;unfold Zbl at h;rw[if_neg (by simp;omega)] at h
    exact h
   clear HE hb;have an:Hid (a.tdiv 256=a / 256):=Int.tdiv_eq_ediv_of_nonneg aw;have ax:Hid (a.tmod 256=a % 256):=Int.tmod_eq_emod_of_nonneg aw;have aB:0<=a / 256:=by omega
   have au:a / 256<=255:=by omega
   have aE:0<=a % 256:=by omega
   have aF:a % 256<=255:=by omega
   have az:=ZaW U.o (a / 256);have aC:=ZaW U.o (a % 256);obtain⟨F,hF⟩:∃ F,F=a / 256:=⟨_,rfl⟩;obtain⟨T,hT⟩:∃ T,T=a % 256:=⟨_,rfl⟩;rw[<-hF] at an m aB au az;rw[<-hT] at ax m aE aF aC;clear hF hT;have aH:=an.o;have aJ:=ax.o
   go_enter func180,ntmps180
   go_wp2_with fail
   refine(HW.o _ _ _).mono ?_;rintro e W1 ⟨a1,b1,rfl,G,C,j⟩;have H:=Qc (Mv.ofBelow j (.slice ao l.length cap));have u:=Qc (HO.o.below j zL);clear j
   go_wp2_with fail
   refine(HS.o _ _ _ _ _ _ G C).mono ?_;rintro e V ⟨rfl,rfl⟩;rw[Y.o];clear G C
   go_wp2_with fail
   refine(aj.o _ _ u.o).mono ?_;rintro e V ⟨rfl,aa⟩;have A:=Qc (H.o.trans (Mv.ofBelow aa _));have I:=Qc (u.o.below aa zL);have aD:B<=V.heap.size:=Nat.le_trans Z A.o.size;clear aa H u
   cases hh:Zw F l
   ·have c:Hid (L'=l∧n'=0):=by
     have h:=m.o;rw[if_pos (.inl ((Zbx F l).2 hh))] at h
     injection h with f d
     injection f with _ h3
     exact⟨h3.symm,d.symm⟩
    clear hh;go_wp2;go_ret2;exact⟨_,Zh c.o.2.symm,by rw[c.o.1];exact I.o,A.o⟩
   ·have J:Hid (¬ J1 F 0 l<0):=fun h=>by rw[(Zbx F l).1 h] at hh;cases hh
    clear hh;by_cases ad:Yz F l<b
    ·have c:Hid (L'=l∧n'=0):=by
      have h:=m.o;rw[if_pos (.inr ad)] at h
      injection h with f d
      injection f with _ h3
      exact⟨h3.symm,d.symm⟩
     clear J;go_wp2;go_ret2;exact⟨_,Zh c.o.2.symm,by rw[c.o.1];exact I.o,A.o⟩
    ·by_cases E:F=T
     ·have hq:(F == T)=true:=beq_iff_eq.2 E
      have c:Hid (L'=l∧n'=1):=by
       have h:=m.o;rw[if_neg (fun h=>h.elim J.o ad),if_pos E] at h
       injection h with f d
       injection f with _ h3
       exact⟨h3.symm,d.symm⟩
      clear J E;go_wp2;go_ret2;exact⟨_,Zh c.o.2.symm,by rw[c.o.1];exact I.o,A.o⟩
     ·have hq:(F == T)=false:=beq_eq_false_iff_ne.2 E
      have ai:=Qc E;have ak:=Qc ad;clear E
      go_wp2_with fail
      refine(aj.o _ _ I.o).mono ?_;rintro e W3 ⟨rfl,ag⟩;have D:=Qc (A.o.trans (Mv.ofBelow ag _));have P:=Qc (I.o.below ag zL);have ar:B<=W3.heap.size:=Nat.le_trans Z D.o.size;clear ag A I aD;by_cases i:Zw T l=false∧l.length=128
      ·have R:=Qc (decide_eq_true i.2)
       have c:Hid (L'=l∧n'=0):=by
        have h:=m.o;rw[if_neg (fun h=>by have:=J.o;have:=ak.o;omega),if_neg ai.o,if_pos (.inl ⟨(Zbx T l).2 i.1,i.2⟩)] at h
        injection h with f d
        injection f with _ h3
        exact⟨h3.symm,d.symm⟩
       rw[i.1];clear i
       go_wp2_with fail
       refine(ah.o _).mono ?_;rintro e W4 ⟨rfl,rfl⟩;rw[R.o];go_wp2;go_ret2;exact⟨_,Zh c.o.2.symm,by rw[c.o.1];exact P.o,D.o⟩
      ·by_cases av:1099511627776<Yz T l+b
       ·have c:Hid (L'=l∧n'=0):=by
         have h:=m.o;rw[if_neg (fun h=>by have:=J.o;have:=ak.o;omega),if_neg ai.o,if_pos (.inr av)] at h
         injection h with f d
         injection f with _ h3
         exact⟨h3.symm,d.symm⟩
        cases hh:Zw T l
        ·have R:=Qc (decide_eq_false (fun h=>i ⟨hh,h⟩))
         clear i hh
         go_wp2_with fail
         refine(ah.o _).mono ?_;rintro e W4 ⟨rfl,rfl⟩;rw[R.o];go_wp2;go_ret2;exact⟨_,Zh c.o.2.symm,by rw[c.o.1];exact P.o,D.o⟩
        ·clear i hh
         go_wp2;go_ret2;exact⟨_,Zh c.o.2.symm,by rw[c.o.1];exact P.o,D.o⟩
       ·have aA:=Qc av
        have c:Hid (L'=Xg T (Yz T l+b) false (Xg F (Yz F l-b) false l)∧n'=1):=by
         have h:=m.o;rw[if_neg (fun h=>by have:=J.o;have:=ak.o;omega),if_neg ai.o,if_neg (fun h=>h.elim (fun x=>i ⟨(Zbx T l).1 x.1,x.2⟩) (fun x=>by have:=aA.o;omega))] at h
         injection h with f d
         injection f with _ h3
         exact⟨h3.symm,d.symm⟩
        have al:Hid (Qu 0 (-1) (Xg F (Yz F l-b) false l)):=Zbc F _ 0 (by omega) (by omega) au l (-1) U.o (by omega)
        have ay:Hid ((Xg F (Yz F l-b) false l).length<=1000000):=by
         have:=Zgd F (Yz F l-b) l false;show(Xg F (Yz F l-b) false l).length<=1000000;omega
        have aq:Hid (∀ W,Qs W B (.slice ao l.length cap) l->B<=W.heap.size->Calls prog 178 #[.slice ao l.length cap,.int .i64 F,.int .i64 (Yz F l-b)] W fun e w'=>∃ v',e=.returned v'∧Qs w' B v' (Xg F (Yz F l-b) false l)∧Mv W w' (.slice ao l.length cap) v'):=fun W f d=>ZgY _ l F _ _ _ B W f d HI.o U.o (by omega)
        have ap:Hid (∀ M W,Qs W B M (Xg F (Yz F l-b) false l)->B<=W.heap.size->Calls prog 178 #[M,.int .i64 T,.int .i64 (Yz T l+b)] W fun e w'=>∃ v',e=.returned v'∧Qs w' B v' (Xg T (Yz T l+b) false (Xg F (Yz F l-b) false l))∧Mv W w' M v'):=fun M W f d=>ZgY M _ T _ _ _ B W f d (ZaB (by decide) (by decide) al.o) al.o ay.o
        generalize Xg T (Yz T l+b) false (Xg F (Yz F l-b) false l)=L2 at *;generalize Xg F (Yz F l-b) false l=L1 at *;generalize Yz F l=y at *;generalize Yz T l=z at *;clear al ay m aj
        cases hh:Zw T l
        ·have R:=Qc (decide_eq_false (fun h=>i ⟨hh,h⟩))
         clear i hh
         go_wp2_with fail
         refine(ah.o _).mono ?_;rintro e W4 ⟨rfl,rfl⟩;rw[R.o]
         go_wp2_with fail
         refine(aq.o _ P.o ar).mono ?_;rintro e W5 ⟨v5,rfl,N,K⟩;have O:=Qc (D.o.trans K);have ac:=Qc N;have ab:B<=W5.heap.size:=Nat.le_trans Z O.o.size;clear N K
         go_wp2_with fail
         refine(ap.o _ _ ac.o ab).mono ?_;rintro e W6 ⟨v6,rfl,Q,S⟩;have am:=Qc (O.o.trans S);have ae:=Qc Q;clear Q S;go_wp2;go_ret2;exact⟨_,Zh c.o.2.symm,by rw[c.o.1];exact ae.o,am.o⟩
        ·clear i hh
         go_wp2_with fail
         refine(aq.o _ P.o ar).mono ?_;rintro e W5 ⟨v5,rfl,N,K⟩;have O:=Qc (D.o.trans K);have ac:=Qc N;have ab:B<=W5.heap.size:=Nat.le_trans Z O.o.size;clear N K
         go_wp2_with fail
         refine(ap.o _ _ ac.o ab).mono ?_;rintro e W6 ⟨v6,rfl,Q,S⟩;have am:=Qc (O.o.trans S);have ae:=Qc Q;clear Q S;go_wp2;go_ret2;exact⟨_,Zh c.o.2.symm,by rw[c.o.1];exact ae.o,am.o⟩
 ·have Y:=Qc (decide_eq_false hk)
  have c:Hid (L'=l∧n'=0):=by
   have h:=HE.o;unfold Zbl at h;rw[if_pos (show a<0∨65535<a∨b<0 by omega)] at h
   injection h with f d
   injection f with _ h3
   exact⟨h3.symm,d.symm⟩
  clear hk
  go_enter func180,ntmps180
  go_wp2_with fail
  refine(HW.o _ _ _).mono ?_;rintro e W1 ⟨a1,b1,rfl,G,C,j⟩;have H:=Qc (Mv.ofBelow j (.slice ao l.length cap));have u:=Qc (HO.o.below j zL);clear j
  go_wp2_with fail
  refine(HS.o _ _ _ _ _ _ G C).mono ?_;rintro e V ⟨rfl,rfl⟩;rw[Y.o];go_wp2;go_ret2;exact⟨_,Zh c.o.2.symm,by rw[c.o.1];exact u.o,H.o⟩
theorem ZuS (a:Qu least (-1) l) (h:Zw key l=true):0<=key∧key<=255:=by
 unfold Zw at h
 cases hg:Yh key l with
 | none=>rw[hg] at h;simp at h
 | some x=>
  have:=Zlh a hg;omega
theorem Zpp (v:Value) (l:List Int) (o:Opn) (c:Bool) (g:Int) (B:Nat) (w:World) (E:Qs w B v l) (O:B<=w.heap.size) (i:Qu 0 (-1) l) (J:l.length<=128):
 Calls prog 128 #[v,opV o] w fun e w'=>ZdS B w v (Yd ⟨5,l,c,g⟩ o).1.L (Yd ⟨5,l,c,g⟩ o).2 e w':=by
 obtain⟨d,a,b⟩:=o;have x:=ZaB (by decide) (by decide) i
 have q:=Qc E;have D:Hid (∀ X,Mv w (w.alloc X) v v):=fun X=>Mv.alloc w v X
 show Calls prog _ #[_,.agg #[.int .i64 d,.int .i64 a,.int .i64 b]] w _;by_cases u:d=7
 ·subst u
  have F:Hid (∀ W,Qs W B v l->Calls prog 175 #[v,.int .i64 a] W fun e w'=>e=.returned (.tuple #[.int .i64 ((Yh a l).getD 0),.bool (Zw a l)])∧Below W.heap.size W w'):=fun W h=>ZgX v l a _ _ W (h.rd x) i (by omega)
  have k:Hid (Yd ⟨5,l,c,g⟩ ⟨7,a,b⟩=(⟨5,l,c,g⟩,Zrv a l)):=by
   refine Qc ?_;unfold Yd;rw[if_neg (by simp),if_neg (by simp)]
   by_cases I:a<0∨255<a
   ·rw[if_pos I]
    have j:Zw a l=false:=by
     cases h:Zw a l
     ·rfl
     ·have:=ZuS i h
      omega
    rw[ZlD j]
   ·rw[if_neg I,if_pos rfl]
  rw[k.o];clear k E i x
  cases j:Zw a l
  ·have z:=Qc (ZlD j)
   rw[z.o];rw[j] at F;clear z j;generalize (Yh a l).getD 0=y at *
   go_enter func128,ntmps128
   go_wp2_with fail
   refine(F.o _ (q.o.alloc _)).mono ?_;rintro e G ⟨rfl,f⟩;have m:=Qc ((D.o _).trans (Mv.ofBelow f _));have p:=Qc ((q.o.alloc _).below f zL);clear f;go_wp2;go_ret2;exact⟨_,rfl,p.o,m.o⟩
  ·have z:=Qc (ZuR j)
   rw[z.o];rw[j] at F;clear z j;generalize (Yh a l).getD 0=y at *
   go_enter func128,ntmps128
   go_wp2_with fail
   refine(F.o _ (q.o.alloc _)).mono ?_;rintro e G ⟨rfl,f⟩;have m:=Qc ((D.o _).trans (Mv.ofBelow f _));have p:=Qc ((q.o.alloc _).below f zL);clear f;go_wp2;go_ret2;exact⟨_,rfl,p.o,m.o⟩
 ·have K:(d == 7)=false:=beq_eq_false_iff_ne.2 u
  by_cases C:d=8
  ·subst C
   have H:Hid (∀ X,Calls prog 179 #[v,.int .i64 a,.int .i64 b] (w.alloc X) fun e w'=>ZdS B (w.alloc X) v (Yd ⟨5,l,c,g⟩ ⟨8,a,b⟩).1.L (Yd ⟨5,l,c,g⟩ ⟨8,a,b⟩).2 e w'):=fun X=>Zpo v l a b c g B (w.alloc X) (q.o.alloc X) (by simp;omega) i J
   generalize (Yd ⟨5,l,c,g⟩ ⟨8,a,b⟩).1.L=L' at *;generalize (Yd ⟨5,l,c,g⟩ ⟨8,a,b⟩).2=n at *;clear E x i u K
   go_enter func128,ntmps128
   go_wp2_with fail
   refine(H.o _).mono ?_;rintro e G ⟨N,rfl,A,f⟩;have p:=Qc A;have m:=Qc ((D.o _).trans f);clear A f;go_wp2;go_ret2;exact⟨_,rfl,p.o,m.o⟩
  ·have P:(d == 8)=false:=beq_eq_false_iff_ne.2 C
   by_cases t:d=9
   ·have k:Hid (Yd ⟨5,l,c,g⟩ ⟨d,a,b⟩=Zbl ⟨5,l,c,g⟩ ⟨d,a,b⟩):=if_pos t
    rw[k.o];have M:(d == 9)=true:=beq_iff_eq.2 t;have H:Hid (∀ X,Calls prog 180 #[v,.int .i64 a,.int .i64 b] (w.alloc X) fun e w'=>ZdS B (w.alloc X) v (Zbl ⟨5,l,c,g⟩ ⟨d,a,b⟩).1.L (Zbl ⟨5,l,c,g⟩ ⟨d,a,b⟩).2 e w'):=fun X=>Zxf v l d a b c g B (w.alloc X) (q.o.alloc X) (by simp;omega) i J
    generalize (Zbl ⟨5,l,c,g⟩ ⟨d,a,b⟩).1.L=L' at *;generalize (Zbl ⟨5,l,c,g⟩ ⟨d,a,b⟩).2=n at *;clear E x i u C t k
    go_enter func128,ntmps128
    go_wp2_with fail
    refine(H.o _).mono ?_;rintro e G ⟨N,rfl,A,f⟩;have p:=Qc A;have m:=Qc ((D.o _).trans f);clear A f;go_wp2;go_ret2;exact⟨_,rfl,p.o,m.o⟩
   ·have M:(d == 9)=false:=beq_eq_false_iff_ne.2 t
    have k:Hid (Yd ⟨5,l,c,g⟩ ⟨d,a,b⟩=(⟨5,l,c,g⟩,0)):=by
     refine Qc ?_;unfold Yd;rw[if_neg t,if_pos ⟨u,C⟩]
    rw[k.o];clear E x i u C t k
    go_enter func128,ntmps128
    go_wp2;go_ret2;exact⟨_,rfl,q.o.alloc _,D.o _⟩
theorem Zxg (kind:Int) (ao:Option Addr) (n cap:Nat) (O:Bool) (g a:Int) (w:World):
 Calls prog 123 #[.agg #[.int .i64 kind,.slice ao n cap,.bool O,.int .i64 g],.int .i64 a] w fun e w'=>e=.returned (.agg #[.int .i64 kind,.slice ao n cap,.bool true,.int .i64 (if 0<=a∧a<=2 then a else g)])∧Below w.heap.size w w':=by
 have E:=Qc (fun p q W=>Gz p q W)
 have F:=Qc (fun n M N U V W P J=>Zdu n M N U V W P J)
 have j:Hid (∀ x y,Below w.heap.size w ((w.alloc x).alloc y)):=fun x y=>((Below.refl _ _).alloc zL x).alloc (by simp) y
 by_cases f:0<=a∧a<=2
 ·rw[if_pos f]
  have D:=Qc (decide_eq_true f);clear f
  go_enter func123,ntmps123
  go_wp2_with fail
  refine(E.o _ _ _).mono ?_;rintro e c ⟨l,A,rfl,h,i,d⟩;have b:ZoK c w.heap.size _ _:=(ZoK.made w _ _).below d (by simp)
  have Y:=(b.s 0).1;have H:=(b.s 1).1;have S:=(b.s 2).1;have I:=(b.s 3).1;have G:=(b.s 2).2;have T:=(b.s 3).2;have z:=(b.r 0).1;have m:=(b.r 1).1;have u:=(b.r 2).1;have B:=(b.r 3).1;have Q:=(b.r 0).2;have L:=(b.r 1).2;have K:=(b.r 2).2;have R:=(b.r 3).2;have t:=Qc ((j.o _ _).trans (d.mono (j.o _ _).size));have C:Hid (∀ x,(c.setCell ⟨w.heap.size,2,none⟩ x).cell? ⟨l,0,none⟩=some (.int .i64 0)):=fun x=>(World.cell?_setCell_other _ _ _ _ (by simp)).trans h
  have k:Hid (∀ x,(c.setCell ⟨w.heap.size,2,none⟩ x).cell? ⟨A,0,none⟩=some (.int .i64 2)):=fun x=>(World.cell?_setCell_other _ _ _ _ (by simp)).trans i
  clear d b h i
  go_wp2_with fail
  refine(F.o _ _ _ _ _ _ (C.o _) (k.o _)).mono ?_;rintro e X ⟨rfl,rfl⟩;rw[D.o];go_wp2;refine bodyPost_ret (v:=.agg #[.int .i64 kind,.slice ao n cap,.bool true,.int .i64 a]) (by simp[results,Tryz.results123,go_sem,z,m,u,B]) rfl ?_
  exact⟨rfl,((((((t.o.setCell zL _).setCell zL _).setCell (Nat.le_succ _) _).setCell (Nat.le_succ _) _).setCell (Nat.le_succ _) _).setCell (Nat.le_succ _) _)⟩
 ·rw[if_neg f]
  have D:=Qc (decide_eq_false f);clear f
  go_enter func123,ntmps123
  go_wp2_with fail
  refine(E.o _ _ _).mono ?_;rintro e c ⟨l,A,rfl,h,i,d⟩;have b:ZoK c w.heap.size _ _:=(ZoK.made w _ _).below d (by simp)
  have Y:=(b.s 0).1;have H:=(b.s 1).1;have S:=(b.s 2).1;have I:=(b.s 3).1;have G:=(b.s 2).2;have T:=(b.s 3).2;have z:=(b.r 0).1;have m:=(b.r 1).1;have u:=(b.r 2).1;have B:=(b.r 3).1;have Q:=(b.r 0).2;have L:=(b.r 1).2;have K:=(b.r 2).2;have R:=(b.r 3).2;have t:=Qc ((j.o _ _).trans (d.mono (j.o _ _).size));have C:Hid (∀ x,(c.setCell ⟨w.heap.size,2,none⟩ x).cell? ⟨l,0,none⟩=some (.int .i64 0)):=fun x=>(World.cell?_setCell_other _ _ _ _ (by simp)).trans h
  have k:Hid (∀ x,(c.setCell ⟨w.heap.size,2,none⟩ x).cell? ⟨A,0,none⟩=some (.int .i64 2)):=fun x=>(World.cell?_setCell_other _ _ _ _ (by simp)).trans i
  clear d b h i
  go_wp2_with fail
  refine(F.o _ _ _ _ _ _ (C.o _) (k.o _)).mono ?_;rintro e X ⟨rfl,rfl⟩;rw[D.o];go_wp2;refine bodyPost_ret (v:=.agg #[.int .i64 kind,.slice ao n cap,.bool true,.int .i64 g]) (by simp[results,Tryz.results123,go_sem,z,m,u,B]) rfl ?_
  exact⟨rfl,(((((t.o.setCell zL _).setCell (Nat.le_succ _) _).setCell (Nat.le_succ _) _).setCell (Nat.le_succ _) _).setCell (Nat.le_succ _) _)⟩
end Go.Proofs.YtnahjngbneicaaaGreatDoor
