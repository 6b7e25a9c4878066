import Derived.Test.YtnahjngbneicaaaGreatDoorPack5
namespace Go.Proofs.YtnahjngbneicaaaGreatDoor
open _root_.Go.Proofs.Tryz
open List (length_append)
set_option maxHeartbeats 4000000
set_option maxRecDepth 100000
open Go.RowKit
variable {l:List Int} {a key least n p:Int} {w w':World} {B B' C b o:Nat} {cs:Array Value} {t:List Ent} {v:Value} {r:Rec}
theorem Zno (g cap:Nat) (l:List Ent) (B:Nat) (w:World) (X:Xn w B (.slice (some ⟨g,0,none⟩) l.length cap) l) (hB:B<=w.heap.size) (i:Nat) (hi:i<l.length) (au:cap<l.length+1) (ap:l.length<=100000) (e:Ent) (I:Int) (hI:I=(i:Nat)) (N:Nat) (V:N=w.heap.size):
 Calls prog 88 #[.slice (some ⟨g,0,none⟩) l.length cap,.int .i64 I,.slice (some ⟨N,0,none⟩) 1 1] (w.alloc (.cells (Gq e) 85)) fun x w'=>Zzs w B (l.take i++(e::l.drop i)) x w':=by
 subst hI;rcases X.row with ⟨f,-⟩ | ⟨g',aw,cur,f,ar,ad,hg,hn,hm,hs,H⟩
 ·cases f
 injection f with f _ h3
 injection f with f
 injection f with f
 subst f h3;clear X;obtain⟨i0,aa,ak,ac,u⟩:=info_parts ZgV;have hv:(w.alloc (.cells (Gq e) 85)).heap[N]?=some (.cells (Gq e) 85 (0,0)):=by rw[V];exact heap_alloc_new w _
 have F:(w.alloc (.cells (Gq e) 85)).heap[g]?=some (.cells cur 85 (0,0)):=(Below.heap_alloc _ _ _ ad).trans hg;have ae:Hid (Below B w (w.alloc (.cells (Gq e) 85))):=(Below.refl _ _).alloc hB _;have am:(w.alloc (.cells (Gq e) 85)).heap.size=w.heap.size+1:=by simp
 generalize w.alloc (.cells (Gq e) 85)=W at *;have T:(Qg [e]).length=3:=Xh [e];have P:(Qg (l.drop i)).length=(l.length-i)*3:=by rw[Xh,List.length_drop]
 have p:((Qg l).take (i*3)).length=i*3:=by rw[List.length_take,Xh];omega
 have ag:(Builtin.firstCells i0.size i (.slice (some ⟨g,0,none⟩) i cap)).run prog W.drew=.ok ((Qg l).take (i*3)).toArray W.drew:=by
  rw[ac]
  exact run_firstCells_some W.drew 3 i ⟨g,0,none⟩ i cap ((Qg l).take (i*3)) p (fun j v a=>by
   have D:j<i*3:=by rw[<-p];exact(List.getElem?_eq_some_iff.1 a).1
   rw[List.getElem?_take_of_lt D] at a;rw[Addr.add_lit,Nat.zero_add,cell_of_row W.drew g j _ _ _ F,H j (by omega)]
   exact a)
 have J:i+(l.length+1-i)=l.length+1:=by omega
 have aj:(l.length:Int)+1-(i:Int)=((l.length+1-i:Nat):Int):=by omega
 obtain⟨G,A⟩:∃ G,G=grownCap W (l.length+1) cap 85:=⟨_,rfl⟩;obtain⟨b,z⟩:∃ b,b=((Qg l).take (i*3)).toArray++Builtin.zeroCells (Value.agg #[.int .i64 0,.int .i64 0,.int .i64 0]).cells (l.length+1-i)++Builtin.zeroCells (Value.agg #[.int .i64 0,.int .i64 0,.int .i64 0]).cells (G-(l.length+1)):=⟨_,rfl⟩
 have aq:∀ ty,(Builtin.append_ #[39,3] ty #[.slice (some ⟨g,0,none⟩) i cap,.int .i64 ((l.length:Int)+1-(i:Int))]).run prog W=.ok (.slice (some ⟨W.heap.size,0,none⟩) (l.length+1) G) ((W.alloc (.cells b 85)).drew):=fun ty=>by
  have h:=Lib.run_append_grow_zeros W 39 3 ty 85 i0 _ .i64 .i64 underlying39 underlying3 aa ak (some ⟨g,0,none⟩) i cap _ ag (l.length+1-i) (by omega) (by omega) (by omega) (by omega) (by rw[u];omega) (by rw[u,J];exact growslice_fits_wide au (by omega))
  rw[J,<-A,<-z,<-aj] at h;exact h
 have an:l.length+1<=G:=by rw[A];exact grownCap_ge W _ _ _
 have Y:G<=maxLen:=by rw[A];exact grownCap_le_maxLen W (l.length+1) cap 85 (by unfold maxLen;omega)
 have O:∀ n,(Builtin.zeroCells (Value.agg #[.int .i64 0,.int .i64 0,.int .i64 0]).cells n).size=n*3:=fun n=>by
  rw[<-Array.length_toList,Zko,Gk]
 have ab:b.size=G*3:=by
  rw[z,Array.size_append,Array.size_append,O,O,List.size_toArray,p];omega
 have U:∀ j,j<i*3->b[j]?=(Qg l)[j]?:=fun j a=>by
  rw[z,Array.append_assoc,Array.getElem?_append_left (by rw[List.size_toArray,p];exact a),List.getElem?_toArray,List.getElem?_take_of_lt a]
 have t:(W.alloc (.cells b 85)).drew.heap[W.heap.size]?=some (.cells b 85 (0,0)):=heap_alloc_new W _;have S:(W.alloc (.cells b 85)).drew.heap[N]?=some (.cells (Gq e) 85 (0,0)):=(Below.heap_alloc W _ N (by omega)).trans hv
 have L:(W.alloc (.cells b 85)).drew.heap[g]?=some (.cells cur 85 (0,0)):=(Below.heap_alloc W _ g (by omega)).trans F
 have E:Hid (Below B w (W.alloc (.cells b 85)).drew):=ZZ (Zib (ae.o.alloc (by omega) _))
 have C:B<=W.heap.size:=by omega
 have ao:N≠W.heap.size:=by omega
 have af:g≠W.heap.size:=by omega
 obtain⟨d,R⟩:∃ d,d=(W.alloc (.cells b 85)).drew:=⟨_,rfl⟩;rw[<-R] at t S L E
 have al:∀ ty m,(Builtin.copy_ #[39,39] ty #[.slice (some ⟨W.heap.size,i*3,none⟩) (l.length+1-i) m,.slice (some ⟨N,0,none⟩) 1 1]).run prog d=.ok (goInt (Nat.min 1 (l.length+1-i))) (d.setCells W.heap.size (i*3) (Qg [e])):=fun ty m=>
  ZaO d _ _ ty 85 3 W.heap.size (i*3) (l.length+1-i) m ⟨N,0,none⟩ 1 1 (Qg [e]) underlying39 ZgW (by rw[T];simp only [Nat.min_def];split <;> omega)
   (fun j v a=>by
    rw[Addr.add_lit,Nat.zero_add,cell_of_row d N _ _ _ _ S]
    have:(Qg [e])[j]?=(Gq e)[j]?:=by
     have D:j<3:=by rw[<-T];exact(List.getElem?_eq_some_iff.1 a).1
     have:=Zv [e] 0 j (by simp) D
     rwa [Nat.zero_mul,Nat.zero_add] at this
    rw[<-this]
    exact a)
   (fun j a=>by
    rw[cell_of_row d _ _ _ _ _ t,Array.getElem?_eq_getElem (by omega)]
    rfl) (fun j a=>frozen_of_row d _ _ _ _ t) (Zac _)
 obtain⟨c,q⟩:∃ c,c=(d.setCells W.heap.size (i*3) (Qg [e])).drew:=⟨_,rfl⟩;have y:c.heap[W.heap.size]?=some (.cells (Zfm b (i*3) (Qg [e])) 85 (0,0)):=by rw[q];exact Xy _ _ _ _ d b t
 have ai:c.heap[g]?=some (.cells cur 85 (0,0)):=by
  rw[q];exact(Zar W.heap.size _ _ d g af).trans L
 have Z:Hid (Below B w c):=ZZ (by rw[q];exact Zib (Gy C _ _ _ E.o))
 have K:∀ ty m sc,(Builtin.copy_ #[39,39] ty #[.slice (some ⟨W.heap.size,(i+1)*3,none⟩) (l.length-i) m,.slice (some ⟨g,i*3,none⟩) (l.length-i) sc]).run prog c=.ok (goInt (Nat.min (l.length-i) (l.length-i))) (c.setCells W.heap.size ((i+1)*3) (Qg (l.drop i))):=fun ty m sc=>
  ZaO c _ _ ty 85 3 W.heap.size ((i+1)*3) (l.length-i) m ⟨g,i*3,none⟩ (l.length-i) sc (Qg (l.drop i)) underlying39 ZgW (by rw[P];simp only [Nat.min_def];split <;> omega)
   (fun j v a=>by
    have D:j<(l.length-i)*3:=by rw[<-P];exact(List.getElem?_eq_some_iff.1 a).1
    rw[Addr.add_lit,cell_of_row c g _ _ _ _ ai,H _ (by omega)]
    rw[Zcg,List.getElem?_drop] at a
    exact a)
   (fun j a=>by
    rw[cell_of_row c _ _ _ _ _ y,Array.getElem?_eq_getElem (by rw[Xr];omega)]
    rfl) (fun j a=>frozen_of_row c _ _ _ _ y) (Zac _)
 have M:Hid (Zzs w B (l.take i++(e::l.drop i)) (.returned (.slice (some ⟨W.heap.size,0,none⟩) (l.length+1) G)) (c.setCells W.heap.size ((i+1)*3) (Qg (l.drop i)))):=ZZ (by
  refine⟨_,rfl,Xn.ofRow (ZaZ l i (by omega) e).symm C (Xy _ _ _ _ c _ y) (by rw[ZaZ l i (by omega) e];exact an) Y (by rw[Xr,Xr];exact ab) (fun j a=>?_),?_⟩
  ·rw[ZaZ l i (by omega) e] at a
   refine Zkr l i (by omega) e (fun j=>(Zfm (Zfm b (i*3) (Qg [e])) ((i+1)*3) (Qg (l.drop i)))[j]?) (fun k Q=>?_) (fun k Q=>?_) (fun k Q=>?_) j a
   ·show(Zfm (Zfm b (i*3) (Qg [e])) ((i+1)*3) (Qg (l.drop i)))[k]?=_
    rw[Yq _ _ _ _ (by rw[Xr];omega),if_neg (by omega),Yq _ _ _ _ (by omega),if_neg (by omega)]
    exact U k Q
   ·show(Zfm (Zfm b (i*3) (Qg [e])) ((i+1)*3) (Qg (l.drop i)))[i*3+k]?=_
    rw[Yq _ _ _ _ (by rw[Xr];omega),if_neg (by omega),Yq _ _ _ _ (by omega),if_pos (by omega),Nat.add_sub_cancel_left]
   ·show(Zfm (Zfm b (i*3) (Qg [e])) ((i+1)*3) (Qg (l.drop i)))[(i+1)*3+k]?=_
    rw[Yq _ _ _ _ (by rw[Xr];omega),if_pos (by omega),Nat.add_sub_cancel_left]
  ·exact Gy C _ _ _ Z.o)
 rw[q] at M K;rw[R] at M K al;clear q R ai y t S L ab U O Z E ag z H hs hg F hv hm ae P T p u ac ak aa A ao af Y aj J am V C;have aN:prog.follows .mixedOrders=true:=by kernel_rfl
 have u:¬ ((i:Int)=(l.length:Int)):=by omega
 have aI:((i:Int) == (l.length:Int))=false:=beq_eq_false_iff_ne.2 u;have av:IntKind.i64.wrap ((i:Int)+1)=(i:Int)+1:=by rw[IntKind.wrap_i64];omega
 have aE:IntKind.i64.wrap ((l.length:Int)+1)=(l.length:Int)+1:=by rw[IntKind.wrap_i64];omega
 have aM:(0:Int)<=(i:Int)+1:=by omega
 have aA:i<=l.length:=by omega
 have aL:(i:Int)<=(l.length:Int):=by omega
 have aB:(i:Int)<=(cap:Int):=by omega
 have aF:i<=cap:=by omega
 have az:((i:Int)+1).toNat=i+1:=by omega
 have p:((l.length:Int)+1).toNat=l.length+1:=by omega
 have aJ:¬ (G=i+1):=by omega
 have aK:(i:Int)<=(l.length:Int)+1:=by omega
 have aD:¬ (cap=i):=by omega
 have aP:¬ (G=i):=by omega
 have ay:(cap:Int)<(l.length:Int)+1:=by omega
 have aC:(i:Int)+1<=(l.length:Int)+1:=by omega
 have aG:(l.length:Int)<=100000:=by omega
 have aH:IntKind.i64.wrap ((l.length:Int)+1-(i:Int))=(l.length:Int)+1-(i:Int):=by rw[IntKind.wrap_i64];omega
 clear hB ar ad ap;generalize Qg (l.drop i)=ax at *;generalize Qg [e]=aO at *;generalize l.take i++(e::l.drop i)=LL at *
 go_enter func88,ntmps88
 go_wp2_with(first
  | (at_builtin;refine Lib.wpList_append_run _ rfl _ _ _ _ rfl _ _ rfl rfl _ _ (aq _) ?_)
  | (at_builtin;refine wpList_copy_runI _ rfl _ _ 39 39 rfl _ _ rfl rfl (al _ _) ?_))
 go_region_law_o (refine step_copy_runI rfl _ _ 39 39 rfl _ _ (by simp[Act.eval,Act.put]) (by simp[Act.eval,Act.put]) (K _ _ _) ?_)
 go_wp2;go_ret;exact M.o
theorem Zpk (v:Value) (l:List Ent) (B:Nat) (w:World) (a:Xn w B v l) (c:B<=w.heap.size) (f:l.length<=100000) (i:Nat) (k:i<=l.length) (e:Ent) (m:Zlx e) (I:Int) (d:I=(i:Nat)) (N:Nat) (b:N=w.heap.size):
 Calls prog 88 #[v,.int .i64 I,.slice (some ⟨N,0,none⟩) 1 1] (w.alloc (.cells (Gq e) 85)) fun x w'=>Zzs w B (l.take i++(e::l.drop i)) x w':=by
 by_cases h:i=l.length
 ·subst h
  exact Zpj v l B w a c f e m I d N b
 ·rcases a.row with ⟨-,rfl⟩ | ⟨g,cap,cur,rfl,-⟩
  ·exact absurd (by simpa using k) (by simpa using h)
  ·by_cases j:l.length+1<=cap
   ·exact Znn g cap l B w a c i (by omega) j e I d N b
   ·exact Zno g cap l B w a c i (by omega) (by omega) f e I d N b
theorem J0 {l:List UInt8} (a:0<=n) (b:n<4611686018427387904):Zsd l n=l++Lib.uvarint n.toNat:=if_pos ⟨a,b⟩
theorem Zwv (h:I64 n):(Lib.uvarint (Lib.zigzag n)).length<=10:=Lib.uvarint_length64 (Zbd h)
theorem Gh {n:Nat} (h:n<4611686018427387904):(Lib.uvarint n).length<=10:=Lib.uvarint_length64 (by omega)
theorem Zpl (w:World) (X Y:Obj):((w.alloc X).alloc Y).heap[w.heap.size+1]?=some Y:=by
 have h:=heap_alloc_new (w.alloc X) Y;have e:(w.alloc X).heap.size=w.heap.size+1:=by simp
 rwa [e] at h
def ZuM (w:World) (l:List UInt8) (e:Ending) (w':World):Prop:=
 e=.returned (.tuple #[opV (Xc l).1,.int .i64 ((Xc l).2:Nat)])∧Below w.heap.size w w'
def Zso (r:Rec):Value:=.agg #[.int .i64 r.idx,.int .i64 r.proc,.int .i64 r.seq,.int .i64 r.op.code,.int .i64 r.op.a,.int .i64 r.op.b,.int .i64 r.resp]
def Ja (r:Rec):Array Value:=#[.int .i64 r.idx,.int .i64 r.proc,.int .i64 r.seq,.int .i64 r.op.code,.int .i64 r.op.a,.int .i64 r.op.b,.int .i64 r.resp]
def Zcx (r:Rec):Prop:=I64 r.idx∧I64 r.proc∧I64 r.seq∧Zyw r.op∧I64 r.resp
def Br (w:World) (b:Nat) (cs:Array Value):Prop:=w.heap[b]?=some (.cells cs 62 (0,0))
theorem Br.lt (h:Br w b cs):b<w.heap.size:=(Array.getElem?_eq_some_iff.1 h).1
theorem Br.below (h:Br w b cs) (a:Below B w w') (c:w.heap.size<=B):Br w' b cs:=(a.block b (by have:=h.lt;omega)).trans h
theorem Br.cell (h:Br w b cs) (j:Nat):w.cell? ⟨b,j,none⟩=cs[j]?∧w.frozen? ⟨b,j,none⟩=false:=⟨cell_of_row w b j _ _ _ h,frozen_of_row w b j _ _ h⟩
theorem ZuN (r:Rec) (R:Nat) (e:Ent) (W:World) (d:Br W R (Ja r)):
 Calls prog 84 #[Zsj e,.pointer (some ⟨R,0,none⟩)] W fun x w'=>x=.returned (.bool (decide (e.proc=r.proc)))∧Below W.heap.size W w':=by
 have f:Hid (∀ X,Below W.heap.size W (W.alloc X)):=fun X=>(Below.refl _ _).alloc zL X
 have i:R<W.heap.size:=(Array.getElem?_eq_some_iff.1 d).1
 have g:Hid (∀ X,(W.alloc X).cell? ⟨R,1,none⟩=some (.int .i64 r.proc)):=ZZ (fun X=>by
  rw[(f.o X).cell (p:=⟨R,1,none⟩) i]
  exact cell_of_row W R 1 _ _ _ d)
 obtain⟨b,k,l⟩:=e;unfold Zsj;simp only;have m:=g.o;generalize r.proc=c at *;clear d g;by_cases h:b=c
 ·have a:Hid (decide (b=c)=true):=decide_eq_true h
  have j:(b == c)=true:=beq_iff_eq.2 h;rw[a.o];clear a h
  go_enter func84,ntmps84
  go_wp2;go_ret;exact⟨rfl,f.o _⟩
 ·have a:Hid (decide (b=c)=false):=decide_eq_false h
  have j:(b == c)=false:=beq_eq_false_iff_ne.2 h;rw[a.o];clear a h
  go_enter func84,ntmps84
  go_wp2;go_ret;exact⟨rfl,f.o _⟩
theorem ZuO (r:Rec) (R:Nat) (e:Ent) (W:World) (c:Br W R (Ja r)):
 Calls prog 85 #[Zsj e,.pointer (some ⟨R,0,none⟩)] W fun x w'=>x=.returned (.bool (decide (r.proc<e.proc)))∧Below W.heap.size W w':=by
 have d:Hid (∀ X,Below W.heap.size W (W.alloc X)):=fun X=>(Below.refl _ _).alloc zL X
 have i:R<W.heap.size:=(Array.getElem?_eq_some_iff.1 c).1
 have g:Hid (∀ X,(W.alloc X).cell? ⟨R,1,none⟩=some (.int .i64 r.proc)):=ZZ (fun X=>by
  rw[(d.o X).cell (p:=⟨R,1,none⟩) i]
  exact cell_of_row W R 1 _ _ _ c)
 obtain⟨f,j,k⟩:=e;unfold Zsj;simp only;have l:=g.o;generalize r.proc=b at *;clear c g;by_cases h:b<f
 ·have a:Hid (decide (b<f)=true):=decide_eq_true h
  rw[a.o];clear a
  go_enter func85,ntmps85
  go_wp2;go_ret;exact⟨rfl,d.o _⟩
 ·have a:Hid (decide (b<f)=false):=decide_eq_false h
  rw[a.o];clear a
  go_enter func85,ntmps85
  go_wp2;go_ret;exact⟨rfl,d.o _⟩
theorem Zsp {k:Int} (h:Zyj (fun e=>decide (p<e.proc)) t k):(k<0∧G8 p t=t.length)∨(0<=k∧k=(G8 p t:Nat)):=by
 rcases h with ⟨rfl,h⟩ | ⟨i,rfl,d,b,c⟩
 ·exact .inl ⟨by omega,Zkn (fun j a=>of_decide_eq_false (h j a))⟩
 ·refine .inr ⟨by omega,?_⟩
  rw[Zni d (fun j a=>of_decide_eq_false (b j a)) (of_decide_eq_true c)]
theorem Zxc {P:Ent->Prop} (h:∀ e ∈ t,P e):∀ e ∈ Zpd p t,P e:=fun e a=>h e (List.mem_filter.1 a).1
theorem ZuP (v:Value) (t:List Ent) (r:Rec) (w:World) (y:RdE w v t) (m:Zcx r) (K:t.length<=2000):
 Calls prog 43 #[v,Zso r] w fun e w'=>∃ v',e=.returned v'∧Xn w' w.heap.size v' (ZcF t ⟨r.proc,r.seq,r.resp⟩)∧Below w.heap.size w w':=by
 have P:∀ e ∈ t,Zlx e:=y.choose_spec.choose_spec.2.2.2.2.1;have E:=ZZ P;have HX:Hid (Br (w.alloc (.cells (Ja r) 62)) w.heap.size (Ja r)):=ZZ (heap_alloc_new w _);have ab:Hid (Below w.heap.size w (w.alloc (.cells (Ja r) 62))):=ZZ ((Below.refl _ _).alloc zL _);have am:(w.alloc (.cells (Ja r) 62)).heap.size=w.heap.size+1:=by simp
 have Q:=ZZ (y.below ab.o zL);have ai:Hid (Zlx ⟨r.proc,r.seq,r.resp⟩):=ZZ ⟨m.2.1,m.2.2.1,m.2.2.2.2⟩;have S:∀ args W,(callFunc 84 args).run prog W=.ok (.enter 84 args) W:=enters_of func84 (by kernel_rfl) rfl
 have Z:∀ args W,(callFunc 85 args).run prog W=.ok (.enter 85 args) W:=enters_of func85 (by kernel_rfl) rfl
 have af:=ZZ S;have al:=ZZ Z;have X:Hid (ZcF t ⟨r.proc,r.seq,r.resp⟩=(Zpd r.proc t).take (G8 r.proc (Zpd r.proc t))++(⟨r.proc,r.seq,r.resp⟩::(Zpd r.proc t).drop (G8 r.proc (Zpd r.proc t)))):=ZZ (Znh ⟨r.proc,r.seq,r.resp⟩ t);have R:Hid (t.filter (fun e=>!decide (e.proc=r.proc))=Zpd r.proc t):=ZZ (by unfold Zpd;simp)
 have ak:=ZZ (fun W e h=>ZuN r w.heap.size e W h)
 have ag:=ZZ (fun W e h=>ZuO r w.heap.size e W h)
 have n:Hid (∀ W,Below (w.heap.size+1) (w.alloc (.cells (Ja r) 62)) W->Br W w.heap.size (Ja r)):=ZZ (fun W h=>(h.block w.heap.size (by omega)).trans HX.o)
 have ao:∀ (fn:Fn) (first cap:Array Value) (w:World),(Instr.makeFunc fn first cap).run prog w=.ok (.func fn first cap) w:=fun _ _ _ _=>rfl
 have an:=ZZ (fun W v l h h2=>ZfJ v l W h h2)
 clear S Z P m y;unfold Zso Ja at *
 go_enter func43,ntmps43
 go_wp2_with fail
 refine(an.o _ _ t Q.o (by omega)).mono ?_
 rintro x W1 ⟨v1,rfl,G,J⟩;rw[am] at G J;have Y:=ZZ G;have i:=ZZ J;clear G J;have ac:=ZZ (Zif 84 w.heap.size (fun e=>decide (e.proc=r.proc)) v1 t (w.heap.size+1) W1 Y.o E.o (by have:=i.o.size;omega) (by omega) af.o (fun W e h=>ak.o W e (n.o W (i.o.trans h))))
 go_wp2_with fail
 refine ac.o.mono ?_;rintro x W2 ⟨v2,rfl,u,aa⟩;rw[R.o] at u;have f:=ZZ u;have c:=ZZ (i.o.trans aa);have O:=ZZ (Zxc (p:=r.proc) E.o);have B:(Zpd r.proc t).length<=2000:=Nat.le_trans (Zxa _ _) K;clear u aa ac Y i Q E R;obtain⟨a,T⟩:∃ a,a=Zpd r.proc t:=⟨_,rfl⟩;rw[<-T] at f O X B;clear T;have V:=ZZ (Zdt 85 w.heap.size (fun e=>decide (r.proc<e.proc)) v2 a W2 (f.o.rd O.o) al.o (fun W e h=>ag.o W e (n.o W (c.o.trans (h.mono (by have:=c.o.size;omega))))))
 obtain⟨va,vc,ae⟩:=f.o.shape;subst ae
 go_wp2_with fail
 refine V.o.mono ?_;rintro x A ⟨k,rfl,D,H⟩;have aj:=ZZ (f.o.below H zL);have q:=ZZ (c.o.trans (H.mono (by have:=c.o.size;omega)))
 have M:=ZZ (n.o A q.o);have U:=ZZ (ab.o.trans (q.o.mono (by omega)))
 have ad:w.heap.size+1<=A.heap.size:=by have:=q.o.size;omega
 clear H V f c;obtain⟨q1,f1⟩:=M.o.cell 1;obtain⟨q2,f2⟩:=M.o.cell 2;obtain⟨q4,f4⟩:=M.o.cell 6;have z:=Zng r.proc a;have j:=ZZ (fun I hI N hN=>Zpk (.slice va a.length vc) a (w.heap.size+1) A aj.o ad (by omega) (G8 r.proc a) z ⟨r.proc,r.seq,r.resp⟩ ai.o I hI N hN)
 rw[<-X.o] at j;unfold Gq at j;have aq:(a.length:Int)<=2000:=by omega
 rcases Zsp D with ⟨hk,g⟩ | ⟨hk,g⟩
 ·clear D
  have L:=ZZ g;clear g z B K
  go_wp2_with fail
  refine(j.o _ (by rw[L.o]) _ rfl).mono ?_
  rintro x W4 ⟨v4,rfl,b,d⟩;have C:=ZZ (b.mono (B':=w.heap.size) (by omega))
  have F:=ZZ (U.o.trans (d.mono (by omega)))
  clear b d;go_wp2;go_ret;exact⟨_,rfl,C.o,F.o⟩
 ·clear D
  have ap:¬ k<0:=by omega
  have L:=ZZ g;clear g z B K
  go_wp2_with fail
  refine(j.o _ L.o _ rfl).mono ?_;rintro x W4 ⟨v4,rfl,b,d⟩;have C:=ZZ (b.mono (B':=w.heap.size) (by omega))
  have F:=ZZ (U.o.trans (d.mono (by omega)))
  clear b d;go_wp2;go_ret;exact⟨_,rfl,C.o,F.o⟩
def Bn (w:World) (b:Nat) (cs:Array Value):Prop:=w.heap[b]?=some (.cells cs 41 (0,0))
theorem Bn.lt (h:Bn w b cs):b<w.heap.size:=(Array.getElem?_eq_some_iff.1 h).1
theorem Bn.below (h:Bn w b cs) (a:Below B w w') (c:w.heap.size<=B):Bn w' b cs:=(a.block b (by have:=h.lt;omega)).trans h
theorem Bn.cell (h:Bn w b cs) (j:Nat):w.cell? ⟨b,j,none⟩=cs[j]?∧w.frozen? ⟨b,j,none⟩=false:=⟨cell_of_row w b j _ _ _ h,frozen_of_row w b j _ _ h⟩
theorem ZdR (w:World) (X Y:Obj):((w.alloc X).alloc Y).heap[w.heap.size+1]?=some Y:=by
 have h:=heap_alloc_new (w.alloc X) Y;have e:(w.alloc X).heap.size=w.heap.size+1:=by simp
 rw[e] at h;exact h
def Zpm (a b:Q0):Prop:=Zmw a.st b.st∧a.idx=b.idx∧a.tab=b.tab
instance (a b:Q0):Decidable (Zpm a b):=by unfold Zpm;infer_instance
theorem Zks {l:List Ent} {q:Nat} (h:q<l.length):l.take (q+1)=l.take q++[l.getD q Xi]:=by
 rw[List.take_add_one];simp[List.getD,h]
theorem RdE.but {l:List Ent} (h:RdE w v l) {R T:Nat} (p:But R T w w') (hn:l=[]∨∀ b,v.ownBlock=some b->b≠R∧b≠T):RdE w' v l:=by
 obtain⟨ao,cap,rfl,k,m,n,t,a⟩:=h;refine⟨ao,cap,rfl,k,m,n,t,?_⟩;rcases a with a | ⟨b,g,f,q⟩
 ·exact .inl a
 ·by_cases d:l=[]
  ·exact .inl d
  ·refine .inr ⟨b,g,f,fun j i=>?_⟩
   have c:=q j i;rcases hn with hn | hn
   ·exact absurd hn d
   ·have e:=hn b (by rw[f];rfl)
    exact c.keep (p.block b c.lt e.1 e.2)
theorem RdE.block {l:List Ent} (h:RdE w v l):l=[]∨∀ b,v.ownBlock=some b->b<w.heap.size:=by
 obtain⟨ao,cap,rfl,j,k,m,n,a⟩:=h;rcases a with a | ⟨b,i,rfl,f⟩
 ·exact .inl a
 ·by_cases d:l=[]
  ·exact .inl d
  ·refine .inr fun c g=>?_
   have e:b=c:=by simpa[Value.ownBlock] using g
   rw[<-e];exact(f 0 (List.length_pos_iff.2 d)).lt
theorem RdI.old (h:RdI w v l):l=[]∨∀ b,v.ownBlock=some b->b<w.heap.size:=by
 rcases h.block with h | ⟨_,b,d,e⟩
 ·exact .inl h
 ·refine .inr fun c a=>?_
  rw[d] at a
  injection a with a
  omega
theorem Xn.fresh {l:List Ent} (h:Xn w B v l):∀ b,v.ownBlock=some b->B<=b:=fun b a=>(World.ownsRow.lt h b a).1
def Zch (w:World) (r:Q0 × Int) (e:Ending) (w':World):Prop:=
 ∃ vl vt,e=.returned (.tuple #[.agg #[.int .i64 r.1.idx,.int .i64 r.1.st.kind,vl,.bool r.1.st.shut,.int .i64 r.1.st.eng,vt],.int .i64 r.2])∧RdI w' vl r.1.st.L∧I64 r.1.st.kind∧I64 r.1.st.eng∧RdE w' vt r.1.tab∧I64 r.1.idx∧(∀ b,vl.ownBlock=some b->w.heap.size<=b)∧(∀ b,vt.ownBlock=some b->w.heap.size<=b)∧Below w.heap.size w w'
theorem Zch.zero (n:Int) (a:Below w.heap.size w w'):Zch w (Yb,n) (.returned (.tuple #[.agg #[.int .i64 0,.int .i64 0,.slice none 0 0,.bool false,.int .i64 0,.slice none 0 0],.int .i64 n])) w':=
 ⟨_,_,rfl,RdI.nil _,(Qo (by decide) (by decide):I64 0),(Qo (by decide) (by decide):I64 0),RdE.nil _,(Qo (by decide) (by decide):I64 0),fun b a=>by simp[Value.ownBlock] at a,fun b a=>by simp[Value.ownBlock] at a,a⟩
theorem SnV.below {s:Q0} (h:SnV w v s) {B:Nat} (a:Below B w w') (b:w.heap.size<=B):SnV w' v s:=by
 obtain⟨d,j,e,g,i,c,f,k⟩:=h;exact⟨d,j,e,g.below a b,i,c,f.below a b,k⟩
def six (w:World) (R:Nat) (x0 x1 x2 x3 x4 x5:Value):World:=(((((w.setCell ⟨R,0,none⟩ x0).setCell ⟨R,1,none⟩ x1).setCell ⟨R,2,none⟩ x2).setCell ⟨R,3,none⟩ x3).setCell ⟨R,4,none⟩ x4).setCell ⟨R,5,none⟩ x5
theorem ZeF {b:World} (h:Below C b w) (R:Nat) (a:C<=R) (c f d e g i:Value):Below C b (six w R c f d e g i):=
 (((((h.setCell a _).setCell a _).setCell a _).setCell a _).setCell a _).setCell a _
theorem Zbf {a:World} (h:Below C a w) (R:Nat) (i:C<=R) (b e c d f g:Value):Below C a ((((((w.setCell ⟨R,0,none⟩ b).setCell ⟨R,1,none⟩ e).setCell ⟨R,2,none⟩ c).setCell ⟨R,3,none⟩ d).setCell ⟨R,4,none⟩ f).setCell ⟨R,5,none⟩ g):=ZeF h R i b e c d f g
theorem ZqQ (w:World) (R:Nat) (a d b c e f:Value):But R R w (six w R a d b c e f):=
 ((((((But.refl R R w).set _ _ (.inl rfl) _).set _ _ (.inl rfl) _).set _ _ (.inl rfl) _).set _ _ (.inl rfl) _).set _ _ (.inl rfl) _).set _ _ (.inl rfl) _
theorem Bn.set (h:Bn w b cs) (j:Nat) (x:Value):Bn (w.setCell ⟨b,j,none⟩ x) b (cs.setIfInBounds j x):=by
 have:=heap_setCell_same w b j _ _ x h;unfold Bn;simpa using this
theorem Bn.other {c:Nat} (h:Bn w b cs) (j:Nat) (x:Value) (a:b≠c):Bn (w.setCell ⟨c,j,none⟩ x) b cs:=(Below.heap_setCell _ _ _ _ a).trans h
def ZjI (w:World) (b o:Nat) (r:Rec):Prop:=
 w.cell? ⟨b,o,none⟩=some (.int .i64 r.idx)∧w.cell? ⟨b,o+1,none⟩=some (.int .i64 r.proc)∧w.cell? ⟨b,o+2,none⟩=some (.int .i64 r.seq)∧w.cell? ⟨b,o+3,none⟩=some (.int .i64 r.op.code)∧w.cell? ⟨b,o+4,none⟩=some (.int .i64 r.op.a)∧w.cell? ⟨b,o+5,none⟩=some (.int .i64 r.op.b)∧w.cell? ⟨b,o+6,none⟩=some (.int .i64 r.resp)
theorem ZjI.lt (h:ZjI w b o r):b<w.heap.size:=World.block_lt_of_cell? w ⟨b,o,none⟩ h.1
theorem ZjI.keep (h:ZjI w b o r) (c:w'.heap[b]?=w.heap[b]?):ZjI w' b o r:=by
 have d:∀ i,w'.cell? ⟨b,i,none⟩=w.cell? ⟨b,i,none⟩:=fun i=>World.cell?_of_block (a:=⟨b,i,none⟩) c
 unfold ZjI at h ⊢;simp only [d];exact h
def RdR (w:World) (v:Value) (l:List Rec):Prop:=
 ∃ ao cap,v=.slice ao l.length cap∧l.length<=cap∧cap<=maxLen∧(ao=none->cap=0)∧(∀ r ∈ l,Zcx r)∧
  (l=[]∨∃ b off,ao=some ⟨b,off,none⟩∧∀ j,j<l.length->ZjI w b (off+j*7) (l.getD j Qi))
theorem RdR.nil (w:World):RdR w (.slice none 0 0) []:=⟨none,0,rfl,Nat.le_refl _,Nat.zero_le _,fun _=>rfl,(fun r h=>by simp at h),.inl rfl⟩
theorem RdR.below {l:List Rec} (h:RdR w v l) {B:Nat} (i:Below B w w') (t:w.heap.size<=B):RdR w' v l:=by
 obtain⟨ao,cap,n,f,g,q,m,a⟩:=h;refine⟨ao,cap,n,f,g,q,m,?_⟩;rcases a with a | ⟨b,d,p,k⟩
 ·exact .inl a
 ·refine .inr ⟨b,d,p,fun j e=>?_⟩
  have c:=k j e;exact c.keep (i.block b (by have:=c.lt;omega))
def Qt:List Rec->List Value
 | []=>[]
 | r::t=>(Ja r).toList++Qt t
theorem Zl:∀ l:List Rec,(Qt l).length=l.length*7
 | []=>rfl
 | r::t=>by
  rw[Qt,length_append,Zl t,List.length_cons];simp[Ja];omega
theorem ZaA:∀ a b:List Rec,Qt (a++b)=Qt a++Qt b
 | [],_=>rfl
 | r::t,b=>by rw[List.cons_append,Qt,ZaA t b,Qt,List.append_assoc]
theorem Zbv:∀ (l:List Rec) (j k:Nat),j<l.length->k<7->(Qt l)[j*7+k]?=(Ja (l.getD j Qi))[k]?
 | r::t,0,k,_,hk=>by
  rw[Qt,Nat.zero_mul,Nat.zero_add,List.getElem?_append_left (by simp[Ja];omega)]
  simp[List.getD]
 | r::t,j+1,k,hj,hk=>by
  have e:(j+1)*7+k=(Ja r).toList.length+(j*7+k):=by simp[Ja];omega
  rw[Qt,e,List.getElem?_append_right (by omega),Nat.add_sub_cancel_left,Zbv t j k (by simpa using hj) hk]
  simp[List.getD]
theorem Zbw (l:List Rec):∀ u ∈ Qt l,u.oneCell'=true:=by
 induction l with
 | nil=>intro u a;simp[Qt] at a
 | cons r t b=>
  intro u a;rw[Qt] at a;rcases List.mem_append.1 a with h | h
  ·simp[Ja] at h
   rcases h with rfl | rfl | rfl | rfl | rfl | rfl | rfl <;> rfl
  ·exact b u h
def Xj (w:World) (B:Nat) (v:Value) (l:List Rec):Prop:=w.ownsRow B 62 7 v l.length (Qt l)
theorem Xj.nil (w:World) (B:Nat):Xj w B (.slice none 0 0) []:=World.ownsRow_nil w B 62 7
theorem Xj.rd {l:List Rec} (h:Xj w B v l) (c:∀ r ∈ l,Zcx r):RdR w v l:=by
 rcases h.2 with ⟨b,d⟩ | ⟨g,cap,cur,b,t,y,m,n,q,x⟩
 ·exact⟨none,0,by rw[b,d],by omega,Nat.zero_le _,fun _=>rfl,c,.inl (List.eq_nil_of_length_eq_zero d)⟩
 ·refine⟨some ⟨g,0,none⟩,cap,b,m,n,(fun e=>by cases e),c,.inr ⟨g,0,rfl,fun j f=>?_⟩⟩
  have a:∀ k u,k<7->(Ja (l.getD j Qi))[k]?=some u->w.cell? ⟨g,0+j*7+k,none⟩=some u:=fun k u p i=>by
   have:=World.ownsRow.cells h (g:=g) (by rw[b];rfl) (j*7+k) u ((Zbv l j k f p).trans i)
   rw[Addr.add_lit] at this;rw[Nat.add_assoc];exact this
  exact⟨a 0 _ (by decide) rfl,a 1 _ (by decide) rfl,a 2 _ (by decide) rfl,a 3 _ (by decide) rfl,a 4 _ (by decide) rfl,a 5 _ (by decide) rfl,a 6 _ (by decide) rfl⟩
theorem Xj.below {l:List Rec} (h:Xj w B v l) (d:Below B' w w') (j:w.heap.size<=B'):Xj w' B v l:=by
 obtain⟨f,a⟩:=h;refine⟨f,?_⟩;rcases a with a | ⟨g,cap,cur,e,c,b,r⟩
 ·exact .inl a
 ·have i:g<w.heap.size:=(Array.getElem?_eq_some_iff.1 b).1
  exact .inr ⟨g,cap,cur,e,c,by rw[d.block g (by omega)];exact b,r⟩
theorem Xj.mono {l:List Rec} (h:Xj w B v l) (e:B'<=B):Xj w B' v l:=by
 obtain⟨c,a⟩:=h;refine⟨c,?_⟩;rcases a with a | ⟨g,cap,cur,b,d,r⟩
 ·exact .inl a
 ·exact .inr ⟨g,cap,cur,b,by omega,r⟩
theorem Xj.shape {l:List Rec} (h:Xj w B v l):∃ ao cap,v=.slice ao l.length cap:=by
 rcases h.2 with ⟨a,b⟩ | ⟨g,cap,cur,a,_⟩
 ·exact⟨none,0,by rw[a,b]⟩
 ·exact⟨_,_,a⟩
theorem Zdg:(prog.info? 62).map (fun i=>(i.zero,i.size,i.bytes))=some (some (.agg #[.int .i64 0,.int .i64 0,.int .i64 0,.int .i64 0,.int .i64 0,.int .i64 0,.int .i64 0]),7,56):=by kernel_rfl
theorem ZjJ (w:World) (ty:TypeId) (B:Nat) (v:Value) (l:List Rec) (h:Xj w B v l) (r:Rec) (q:l.length<=1000000) (d:B<=w.heap.size):
 ∃ v' w',(Builtin.append_ #[29,29] ty #[v,.slice (some ⟨w.heap.size,0,none⟩) 1 1]).run prog (w.alloc (.cells (Ja r) 62))=.ok v' w'∧Xj w' B v' (l++[r])∧Below B w w':=by
 obtain⟨m,c,n,b,p⟩:=info_parts Zdg
 obtain⟨v',w',f,e,g,_⟩:=run_append_own (P:=prog) (w.alloc (.cells (Ja r) 62)) B 29 ty 62 m _ 7 56 underlying29 c n b p rfl (by decide) v l.length (Qt l) (h.alloc _)
  ⟨w.heap.size,0,none⟩ 1 1 (Qt [r]) (Zl [r]) (fun j u a=>by
   rw[Addr.add_lit,Nat.zero_add,cell_of_row _ w.heap.size j _ 62 (0,0) (heap_alloc_new w _)]
   simpa[Qt] using a) (Zbw [r]) (by unfold maxLen;omega) (by omega) (by simp;omega)
 refine⟨v',w',f,?_,?_⟩
 ·unfold Xj
  rw[length_append,ZaA];exact e
 ·exact((Below.refl _ _).alloc d _).grown g (by simp;omega) (fun k i=>(World.ownsRow.lt h k i).1)
theorem ZfK (w:World) {b:Array Oper} {rest:List Oper} {o:Oper} {a:Act} {Q:Exit->Act->World->Prop} (k:o.guard=none) (s x:Operand)
 (i:o.op=.call { callee:=.builtin .append,args:=#[s,x],argTypes:=#[29,29] })
 (B:Nat) (v:Value) (l:List Rec) (m:a.eval s=v) (j:Xj w B v l) (r:Rec) (n:a.eval x=.slice (some ⟨w.heap.size,0,none⟩) 1 1)
 (g:l.length<=1000000) (f:B<=w.heap.size)
 (h:∀ v' w',Xj w' B v' (l++[r])->Below B w w'->wpList prog b Q rest (a.put o.dst v') w'):wpList prog b Q (o::rest) a (w.alloc (.cells (Ja r) 62)):=
 wpList_plain k fun _ c=>by
  obtain⟨v',w',p,d,e⟩:=ZjJ w o.type B v l j r g f;unfold Oper.wp execOp;simp only [i,resolve,invoke,builtin,Sem.run_bind,Sem.run_pure,Result.andThen_ok,List.map_toArray,List.map_cons,List.map_nil,m,n,p];exact c _ _ (h v' w' d e)
theorem ZeG:prog.elem 29=62:=by kernel_rfl
theorem Zba:prog.underlying 29=some (.slice (prog.elem 29)):=by rw[ZeG];exact underlying29
theorem ZlB (w:World):(sizeOf 62).run prog w=.ok 7 w:=by
 obtain⟨c,b,_,a,_⟩:=info_parts Zdg;simp[sizeOf,typeInfo,b,a]
theorem Br.set (h:Br w b cs) (j:Nat) (x:Value):Br (w.setCell ⟨b,j,none⟩ x) b (cs.setIfInBounds j x):=by
 have:=heap_setCell_same w b j _ _ x h;unfold Br;simpa using this
theorem Zdu (n lo c:Int) (a b:Nat) (w:World) (j:w.cell? ⟨a,0,none⟩=some (.int .i64 lo)) (i:w.cell? ⟨b,0,none⟩=some (.int .i64 c)):
 Calls prog 170 #[.int .i64 n,.pointer (some ⟨a,0,none⟩),.pointer (some ⟨b,0,none⟩)] w fun e w'=>e=.returned (.bool (decide (lo<=n∧n<=c)))∧w'=w:=by
 have g:Hid ((decide (lo<=n) && decide (n<=c))=decide (lo<=n∧n<=c)):=(Bool.decide_and _ _).symm;have f:Hid (lo<=n->decide (n<=c)=decide (lo<=n∧n<=c)):=fun h=>by rw[<-g.o,decide_eq_true h,Bool.true_and]
 by_cases d:lo<=n
 ·go_enter func170,ntmps170
  go_wp2;go_ret;exact⟨Y6 (f.o d),rfl⟩
 ·go_enter func170,ntmps170
  go_wp2;go_ret;exact⟨Y6 (by rw[decide_eq_false (Int.not_le.2 d),Bool.false_and]),rfl⟩
theorem Gz (lo c:Int) (w:World):
 Calls prog 121 #[.int .i64 lo,.int .i64 c] w fun e w'=>∃ a b,e=.returned (.func (.func 170) #[] #[.pointer (some ⟨a,0,none⟩),.pointer (some ⟨b,0,none⟩)])∧w'.cell? ⟨a,0,none⟩=some (.int .i64 lo)∧w'.cell? ⟨b,0,none⟩=some (.int .i64 c)∧Below w.heap.size w w':=by
 have f:∀ (fn:Fn) (first cap:Array Value) (w:World),(Instr.makeFunc fn first cap).run prog w=.ok (.func fn first cap) w:=fun _ _ _ _=>rfl
 have d:Hid (∀ x y,Below w.heap.size w ((w.alloc x).alloc y)):=fun x y=>((Below.refl _ _).alloc zL x).alloc (by simp) y
 go_enter func121,ntmps121
 go_wp2;go_ret;refine⟨_,_,rfl,?_,?_,d.o _ _⟩
 ·rw[World.cell?_alloc_past _ _ _ (by simp),World.cell?_alloc_at _ _ _ _ rfl];rfl
 ·rw[World.cell?_alloc_at _ _ _ _ (by simp)];rfl
theorem ZfL (n:Int):max (-1099511627776) (min n 1099511627776)=Jp n:=by
 unfold Jp;split
 ·omega
 ·split <;> omega
theorem ZeH (n:Int) (w:World):Calls prog 173 #[.int .i64 n] w fun e w'=>e=.returned (.int .i64 (Jp n))∧w'=w:=by
 by_cases a:1099511627776<n
 ·go_enter func173,ntmps173
  go_wp2;go_ret;refine⟨Zyv ?_,rfl⟩
  first
   | exact ZfL n
   | (unfold Jp;split <;> (try split) <;> omega)
 by_cases b:n<=-1099511627776
 ·go_enter func173,ntmps173
  go_wp2;go_ret;refine⟨Zyv ?_,rfl⟩
  first
   | exact ZfL n
   | (unfold Jp;split <;> (try split) <;> omega)
 ·go_enter func173,ntmps173
  go_wp2;go_ret;refine⟨Zyv ?_,rfl⟩
  first
   | exact ZfL n
   | (unfold Jp;split <;> (try split) <;> omega)
theorem ZlC (ao:Option Addr) (n cap:Nat) (w:World):Calls prog 177 #[.slice ao n cap] w fun e w'=>e=.returned (.bool (decide (n=128)))∧w'=w:=by
 by_cases h:n=128
 ·have a:Hid (decide (n=128)=true):=decide_eq_true h
  have b:((n:Int) == 128)=true:=beq_iff_eq.2 (by omega)
  clear h
  go_enter func177,ntmps177
  go_wp2;go_ret;exact⟨Y6 a.o.symm,rfl⟩
 ·have a:Hid (decide (n=128)=false):=decide_eq_false h
  have b:((n:Int) == 128)=false:=beq_eq_false_iff_ne.2 (by omega)
  clear h
  go_enter func177,ntmps177
  go_wp2;go_ret;exact⟨Y6 a.o.symm,rfl⟩
theorem ZqR {b:Int} {c d:Bool} (h:a=b) (e:c=d):Ending.returned (.tuple #[.int .i64 a,.bool c])=.returned (.tuple #[.int .i64 b,.bool d]):=by rw[h,e]
theorem ZuQ (v:Value) (l:List Int) (key:Int) (w:World) (z:RdI w v l) (F:l.length % 2=0) (M:l.length<=1000000):
 Calls prog 211 #[v,.int .i64 key] w fun e w'=>e=.returned (.tuple #[.int .i64 (Qw key l),.bool (decide (Qw key l<l.length∧l.getD (Qw key l) 0=key))])∧Below w.heap.size w w':=by
 obtain⟨ao,cap,rfl,-,-,-,-,u⟩:=z;have I:=Qc u;clear u;obtain⟨P,d⟩:∃ P,P=Qw key l:=⟨_,rfl⟩;obtain⟨R,n⟩:∃ R,R=decide (P<l.length∧l.getD P 0=key):=⟨_,rfl⟩;rw[<-d,<-n];have J:=Qc d;have t:=Qc n;clear d n
 go_enter func211,ntmps211
 go_wp2
 go_loop [6] (fun i=>∃ k:Nat,i=.int .i64 k∧k<=l.length∧k % 2=0∧Hid (∀ j,j<k->j % 2=0->l.getD j 0<key)) (fun i=>l.length-(intOf i).toNat)
 case atStart=>exact⟨0,rfl,Nat.zero_le _,rfl,fun j A=>by omega⟩
 case round=>
  obtain⟨k,rfl,G,E,p⟩:=hrel;have x:Hid (P=k+Qw key (l.drop k)):=J.o.trans (ZhE key l k F E G p.out);by_cases b:k<l.length
  ·rcases I.o with B | ⟨g,K,rfl,q⟩
   ·rw[B] at b;simp at b
   have D:=q k b;clear q;obtain⟨y,f⟩:∃ y,y=l.getD k 0:=⟨_,rfl⟩;rw[<-f] at D;have c:=Qc f;clear f;by_cases C:key<=y
   ·have a:Hid (P=k):=x.o.trans (by rw[ZoO key l k (by omega) (by rw[<-c.o];exact C)];exact Nat.add_zero k)
    have m:Hid (R=(y == key)):=by
     rw[t.o,a.o,<-c.o];by_cases e:y=key
     ·rw[beq_iff_eq.2 e];exact decide_eq_true ⟨b,e⟩
     ·rw[beq_eq_false_iff_ne.2 e];exact decide_eq_false (fun h=>e h.2)
    have L:(k:Int)<(l.length:Int):=by omega
    go_wp2
    go_quiet(fail)
    go_wp2;go_ret2;exact⟨ZqR (by rw[a.o]) m.o.symm,Xo (Below.refl _ _) _⟩
   ·go_wp2
    go_round
    case rel=>
     refine⟨k+2,by go_num,by omega,by omega,fun j A H=>?_⟩
     by_cases e:j=k
     ·rw[e,<-c.o];omega
     ·exact p.out j (by omega) H
    case measure=>simp[intOf];omega
  ·have a:Hid (P=l.length):=by
    have e:k=l.length:=by omega
    rw[x.o,e,List.drop_length];exact rfl
   have m:Hid (R=false):=t.o.trans (decide_eq_false (fun h=>by have:=h.1;rw[a.o] at this;omega))
   go_wp2;go_ret2;exact⟨ZqR (by rw[a.o]) m.o.symm,Below.refl _ _⟩
theorem ZfM (v:Value) (l:List Int) (key least lo:Int) (w:World) (b:RdI w v l) (a:Qu least lo l) (c:l.length<=1000000):
 Calls prog 211 #[v,.int .i64 key] w fun e w'=>e=.returned (.tuple #[.int .i64 (Qw key l),.bool (Zw key l)])∧Below w.heap.size w w':=by
 rw[(ZbM key least l lo a).1];exact ZuQ v l key w b (ZbJ a) c
theorem ZaB {least:Int}:∀ {l:List Int} {lo:Int},-1099511627776<=least->-1<=lo->Qu least lo l->∀ x ∈ l,I64 x
 | [],_,_,_,_,x,hx=>by simp at hx
 | [_],_,_,_,h,_,_=>by simp[Qu] at h
 | a::b::r,lo,hl,hlo,h,x,hx=>by
  unfold Qu at h;have c:=ZaB (l:=r) (lo:=a) hl (by omega) h.2.2.2.2 x
  simp at hx;rcases hx with rfl | rfl | hx
  ·exact Qo (by omega) (by omega)
  ·exact Qo (by omega) (by omega)
  ·exact c hx
theorem ZgX (v:Value) (l:List Int) (key least lo:Int) (w:World) (p:RdI w v l) (n:Qu least lo l) (D:l.length<=1000000):
 Calls prog 175 #[v,.int .i64 key] w fun e w'=>e=.returned (.tuple #[.int .i64 ((Yh key l).getD 0),.bool (Zw key l)])∧Below w.heap.size w w':=by
 have c:Hid (Calls prog 211 #[v,.int .i64 key] w fun e w'=>e=.returned (.tuple #[.int .i64 (Qw key l),.bool (Zw key l)])∧Below w.heap.size w w'):=ZfM v l key least lo w p n D
 have f:=Qc (ZbM key least l lo n).2;obtain⟨ao,cap,rfl,-,-,-,-,t⟩:=p;have z:=Qc t;obtain⟨G,m⟩:∃ G,G=(Yh key l).getD 0:=⟨_,rfl⟩;rw[<-m];have i:=Qc m;clear t n m
 cases hh:Zw key l
 ·rw[hh] at c
  have k:Hid (0=G):=by
   have:Yh key l=none:=by
    unfold Zw at hh
    cases h:Yh key l with
    | none=>rfl
    | some x=>rw[h] at hh;simp at hh
   rw[i.o,this];exact rfl
  clear hh f
  go_enter func175,ntmps175
  go_wp2_with fail
  refine c.o.mono ?_;rintro e A ⟨rfl,a⟩;have d:=Qc a;clear a;go_wp2;go_ret2;exact⟨ZqR k.o rfl,d.o⟩
 ·rw[hh] at c
  obtain⟨u,b⟩:=f.o hh
  have k:Hid (l.getD (Qw key l+1) 0=G):=by
   rw[i.o,u];exact rfl
  rcases z.o with C | ⟨g,q,rfl,j⟩
  ·rw[C] at b;simp at b
  have B:Hid (∀ W,Below w.heap.size w W->W.cell? ⟨g,q+(Qw key l+1),none⟩=some (.int .i64 (l.getD (Qw key l+1) 0))):=fun W h=>(h.cell (World.block_lt_of_cell? w ⟨g,q+(Qw key l+1),none⟩ (j _ b))).trans (j _ b)
  clear hh f u z j i;generalize l.getD (Qw key l+1) 0=y at *;generalize Qw key l=P at *;have F:(P:Int)+1<(l.length:Int):=by omega
  clear b
  go_enter func175,ntmps175
  go_wp2_with fail
  refine c.o.mono ?_;rintro e A ⟨rfl,a⟩;have d:=Qc a;have E:=B.o _ a;clear a;go_wp2;go_ret2;exact⟨ZqR k.o rfl,d.o⟩
theorem ZgY (v:Value) (l:List Int) (key n least lo:Int) (B:Nat) (w:World) (j:Qs w B v l) (O:B<=w.heap.size) (A:∀ x ∈ l,I64 x) (c:Qu least lo l) (E:l.length<=1000000):
 Calls prog 178 #[v,.int .i64 key,.int .i64 n] w fun e w'=>∃ v',e=.returned v'∧Qs w' B v' (Xg key n false l)∧Mv w w' v v':=by
 have k:Hid (Calls prog 211 #[v,.int .i64 key] w fun e w'=>e=.returned (.tuple #[.int .i64 (Qw key l),.bool (Zw key l)])∧Below w.heap.size w w'):=ZfM v l key least lo w (j.rd A) c E
 have m:=(ZhD key l (ZbJ c)).1;have p:=Qc (ZbM key least l lo c).2;have q:=Qc j
 cases hh:Zw key l
 ·rw[hh] at k
  have b:=Qc (Zgf key n least l lo c hh)
  have u:Hid (∀ W,Qs W B v l->B<=W.heap.size->Calls prog 212 #[v,.int .i64 (Qw key l),.slice (some ⟨W.heap.size,0,none⟩) 2 2] (W.alloc (.cells #[.int .i64 key,.int .i64 n] 3)) fun e w'=>∃ v',e=.returned v'∧Qs w' B v' (l.take (Qw key l)++([key,n]++l.drop (Qw key l)))∧Mv W w' v v'):=
   fun W t f=>Zph v l B W t f E (Qw key l) m _ rfl key n _ rfl
  obtain⟨L',a⟩:∃ L',L'=Xg key n false l:=⟨_,rfl⟩;rw[<-a];rw[<-a] at b;have G:=Qc b.o.symm;rw[G.o] at u;clear a b G j c p hh m;generalize Qw key l=P at *
  go_enter func178,ntmps178
  go_wp2_with fail
  refine k.o.mono ?_;rintro e z ⟨rfl,d⟩;have i:=Qc d;clear d
  go_wp2_with fail
  refine(u.o z (q.o.below i.o zL) (Nat.le_trans O i.o.size)).mono ?_;rintro e Y ⟨V,rfl,F,I⟩;have S:=Qc ((Mv.ofBelow i.o v).trans I);have U:=Qc F;clear I F;go_wp2;go_ret;exact⟨_,rfl,U.o,S.o⟩
 ·rw[hh] at k
  have b:=Qc (ZmH key n least l lo c hh);obtain⟨t,f⟩:=p.o hh;obtain⟨L',a⟩:∃ L',L'=Xg key n false l:=⟨_,rfl⟩;rw[<-a];rw[<-a] at b;have N:=j.put _ f n;obtain⟨g,cap,rfl,-,-,ab,aa,-,-⟩:=N
  have T:Hid (∀ W,Below w.heap.size w W->W.cell? ⟨g,Qw key l+1,none⟩=some (.int .i64 (l.getD (Qw key l+1) 0))∧W.frozen? ⟨g,Qw key l+1,none⟩=false∧Qs (W.setCell ⟨g,Qw key l+1,none⟩ (.int .i64 n)) B (.slice (some ⟨g,0,none⟩) l.length cap) L'∧Mv w (W.setCell ⟨g,Qw key l+1,none⟩ (.int .i64 n)) (.slice (some ⟨g,0,none⟩) l.length cap) (.slice (some ⟨g,0,none⟩) l.length cap)):=fun W C=>by
   obtain⟨g',X,D,M,K,h5,Z,L,Q⟩:=(q.o.below C zL).put _ f n;simp only [Value.slice.injEq,Option.some.injEq,Addr.mk.injEq] at D;obtain⟨⟨rfl,_⟩,_,rfl⟩:=D;exact⟨M,K,by rw[b.o];exact L,(Mv.ofBelow C _).trans Q⟩
  clear a b j c p hh m t q A;generalize l.getD (Qw key l+1) 0=y at *;generalize Qw key l=P at *;have ac:(P:Int)+1<(l.length:Int):=by omega
  clear f
  go_enter func178,ntmps178
  go_wp2_with fail
  refine k.o.mono ?_;rintro e z ⟨rfl,d⟩;obtain⟨c1,f1,J,H⟩:=T.o _ d;have R:=Qc J;have i:=Qc H;clear d J H;go_wp2;go_ret;exact⟨_,rfl,R.o,i.o⟩
theorem Zxd (v:Value) (l:List Int) (key least lo:Int) (B:Nat) (w:World) (g:Qs w B v l) (n:∀ x ∈ l,I64 x) (a:Qu least lo l) (D:l.length<=1000000):
 Calls prog 176 #[v,.int .i64 key] w fun e w'=>∃ v',e=.returned v'∧Qs w' B v' (Yp key l)∧Mv w w' v v':=by
 have f:Hid (Calls prog 211 #[v,.int .i64 key] w fun e w'=>e=.returned (.tuple #[.int .i64 (Qw key l),.bool (Zw key l)])∧Below w.heap.size w w'):=ZfM v l key least lo w (g.rd n) a D
 have k:=(ZhD key l (ZbJ a)).1;have i:=Qc (ZbM key least l lo a).2;have t:=Qc g
 cases hh:Zw key l
 ·rw[hh] at f
  have b:=Qc (Zgg key least l lo a hh);rw[b.o];clear b g a i hh k n;generalize Qw key l=P at *
  go_enter func176,ntmps176
  go_wp2_with fail
  refine f.o.mono ?_;rintro e m ⟨rfl,c⟩;have d:=Qc c;clear c;go_wp2;go_ret;exact⟨_,rfl,t.o.below d.o zL,Mv.ofBelow d.o v⟩
 ·rw[hh] at f
  have b:=Qc (Zgh key least l lo a hh);obtain⟨F,C⟩:=i.o hh
  have p:Hid (∀ W J,Qs W B v l->J=((Qw key l+2:Nat):Int)->Calls prog 210 #[v,.int .i64 (Qw key l),.int .i64 J] W fun e w'=>∃ v',e=.returned v'∧Qs w' B v' (l.take (Qw key l)++l.drop (Qw key l+2))∧Mv W w' v v'):=
   fun W J A z=>Zic v l B W A (Qw key l) (Qw key l+2) (by omega) (by omega) _ _ rfl z
  obtain⟨L',j⟩:∃ L',L'=Yp key l:=⟨_,rfl⟩;rw[<-j];rw[<-j] at b;have q:=Qc b.o.symm;rw[q.o] at p;clear j b q g a i hh k F;generalize Qw key l=P at *;have K:(P:Int)+1<(l.length:Int):=by omega
  clear C
  go_enter func176,ntmps176
  go_wp2_with fail
  refine f.o.mono ?_;rintro e m ⟨rfl,c⟩;have d:=Qc c;clear c
  go_wp2_with fail
  refine(p.o m _ (t.o.below d.o zL) (by omega)).mono ?_
  rintro e I ⟨H,rfl,y,u⟩;have E:=Qc ((Mv.ofBelow d.o v).trans u);have G:=Qc y;clear u y;go_wp2;go_ret;exact⟨_,rfl,G.o,E.o⟩
def ZdS (B:Nat) (w:World) (v:Value) (L:List Int) (n:Int) (e:Ending) (w':World):Prop:=
 ∃ v',e=.returned (.tuple #[v',.int .i64 n])∧Qs w' B v' L∧Mv w w' v v'
theorem Qs.alloc (h:Qs w B v l) (X:Obj):Qs (w.alloc X) B v l:=World.ownsRow.alloc h X
theorem Qs.single (h:Qs w B v l) (f:l.length=1):
 ∃ g cap,v=.slice (some ⟨g,0,none⟩) 1 cap∧(∀ X,(w.alloc X).cell? ⟨g,0,none⟩=some (.int .i64 (l.getD 0 0))∧(w.alloc X).frozen? ⟨g,0,none⟩=false)∧g<w.heap.size∧
  ∀ X n,Qs ((w.setCell ⟨g,0,none⟩ (.int .i64 n)).alloc X) B v [n]∧Mv w ((w.setCell ⟨g,0,none⟩ (.int .i64 n)).alloc X) v v:=by
 obtain⟨g,cap,rfl,-,-,m,j,-,-⟩:=h.put 0 (by omega) 0
 refine⟨g,cap,by rw[f],fun X=>?_,j,fun X n=>?_⟩
 ·obtain⟨g',i,a,d,b,_⟩:=(h.alloc X).put 0 (by omega) 0
  simp only [Value.slice.injEq,Option.some.injEq,Addr.mk.injEq] at a;obtain⟨⟨rfl,_⟩,_,rfl⟩:=a;exact⟨d,b⟩
 ·obtain⟨g',i,a,d,b,_,_,c,k⟩:=h.put 0 (by omega) n
  simp only [Value.slice.injEq,Option.some.injEq,Addr.mk.injEq] at a;obtain⟨⟨rfl,_⟩,_,rfl⟩:=a
  have e:l.set 0 n=[n]:=by
   match l,f with
   | [_],_=>rfl
  rw[e] at c;exact⟨c.alloc X,k.trans (Mv.alloc _ _ X)⟩
theorem Zpn (v:Value) (l:List Int) (o:Opn) (d:Bool) (g:Int) (B:Nat) (w:World) (p:Qs w B v l) (t:l.length=1) (E:-1099511627776<=l.getD 0 0) (C:l.getD 0 0<=1099511627776):
 Calls prog 124 #[v,opV o] w fun e w'=>e=.returned (.int .i64 (Zef ⟨0,l,d,g⟩ o).2)∧Qs w' B v (Zef ⟨0,l,d,g⟩ o).1.L∧Mv w w' v v:=by
 obtain⟨f,a,b⟩:=o;have x:=Qc p;have z:Hid (∀ X,Mv w (w.alloc X) v v):=fun X=>Mv.alloc w v X
 have D:=Qc (fun n w=>ZeH n w)
 obtain⟨c,cap,rfl,q,K,y⟩:=p.single t;have A:=Qc y;have F:=fun X=>(q X).1
 have H:=fun X=>(q X).2
 clear y p q;obtain⟨n,m⟩:∃ n,n=l.getD 0 0:=⟨_,rfl⟩;rw[<-m] at E C;simp only [<-m] at F;have u:=Qc m;have M:=ZbW a;clear m t;show Calls prog _ #[_,.agg #[.int .i64 f,.int .i64 a,.int .i64 b]] w _;by_cases k:f=1
 ·subst k
  have j:Hid (Zef ⟨0,l,d,g⟩ ⟨1,a,b⟩=(⟨0,[Jp (n+Jp a)],d,g⟩,n)):=by rw[u.o];exact if_pos ⟨rfl,rfl⟩
  rw[j.o]
  go_enter func124,ntmps124
  go_wp2_with(first | (go_at_call 173;refine(D.o _ _).mono ?_;rintro e I ⟨rfl,rfl⟩))
  go_ret;exact⟨rfl,A.o _ _⟩
 ·have J:(f == 1)=false:=beq_eq_false_iff_ne.2 k
  by_cases i:f=7
  ·have G:(f == 7)=true:=beq_iff_eq.2 i
   have j:Hid (Zef ⟨0,l,d,g⟩ ⟨f,a,b⟩=(⟨0,l,d,g⟩,n)):=by
    rw[u.o];unfold Zef;rw[if_neg (by simp;omega),if_neg (by simp),if_pos i]
    exact rfl
   rw[j.o];clear k i
   go_enter func124,ntmps124
   go_wp2;go_ret;exact⟨rfl,x.o.alloc _,z.o _⟩
  ·have G:(f == 7)=false:=beq_eq_false_iff_ne.2 i
   have j:Hid (Zef ⟨0,l,d,g⟩ ⟨f,a,b⟩=(⟨0,l,d,g⟩,0)):=by
    unfold Zef;rw[if_neg (by simp;omega),if_neg (by simp),if_neg i]
    exact rfl
   rw[j.o];clear k i
   go_enter func124,ntmps124
   go_wp2;go_ret;exact⟨rfl,x.o.alloc _,z.o _⟩
theorem Znp (v:Value) (l:List Int) (o:Opn) (d:Bool) (g:Int) (B:Nat) (w:World) (m:Qs w B v l) (t:l.length=1):
 Calls prog 125 #[v,opV o] w fun e w'=>e=.returned (.int .i64 (Zef ⟨1,l,d,g⟩ o).2)∧Qs w' B v (Zef ⟨1,l,d,g⟩ o).1.L∧Mv w w' v v:=by
 obtain⟨f,a,b⟩:=o;have x:=Qc m;have z:Hid (∀ X,Mv w (w.alloc X) v v):=fun X=>Mv.alloc w v X
 have C:=Qc (fun n w=>ZeH n w)
 obtain⟨c,cap,rfl,q,I,y⟩:=m.single t;have A:=Qc y;have D:=fun X=>(q X).1
 have F:=fun X=>(q X).2
 clear y m q;obtain⟨n,p⟩:∃ n,n=l.getD 0 0:=⟨_,rfl⟩;simp only [<-p] at D;have u:=Qc p;clear p t;show Calls prog _ #[_,.agg #[.int .i64 f,.int .i64 a,.int .i64 b]] w _;by_cases k:f=2
 ·subst k
  have j:Hid (Zef ⟨1,l,d,g⟩ ⟨2,a,b⟩=(⟨1,[Jp a],d,g⟩,n)):=by rw[u.o];exact rfl
  rw[j.o]
  go_enter func125,ntmps125
  go_wp2_with(first | (go_at_call 173;refine(C.o _ _).mono ?_;rintro e G ⟨rfl,rfl⟩))
  go_ret;exact⟨rfl,A.o _ _⟩
 ·have H:(f == 2)=false:=beq_eq_false_iff_ne.2 k
  by_cases i:f=7
  ·have E:(f == 7)=true:=beq_iff_eq.2 i
   have j:Hid (Zef ⟨1,l,d,g⟩ ⟨f,a,b⟩=(⟨1,l,d,g⟩,n)):=by
    rw[u.o];unfold Zef;rw[if_neg (by simp),if_neg (by simp;omega),if_pos i]
    exact rfl
   rw[j.o];clear k i
   go_enter func125,ntmps125
   go_wp2;go_ret;exact⟨rfl,x.o.alloc _,z.o _⟩
  ·have E:(f == 7)=false:=beq_eq_false_iff_ne.2 i
   have j:Hid (Zef ⟨1,l,d,g⟩ ⟨f,a,b⟩=(⟨1,l,d,g⟩,0)):=by
    unfold Zef;rw[if_neg (by simp),if_neg (by simp;omega),if_neg i]
    exact rfl
   rw[j.o];clear k i
   go_enter func125,ntmps125
   go_wp2;go_ret;exact⟨rfl,x.o.alloc _,z.o _⟩
theorem ZyL (kind:Int) (T:kind=2∨kind=3) (v:Value) (l:List Int) (j:Bool) (g a b:Int) (B:Nat) (w:World) (k:Qs w B v l) (n:∀ x ∈ l,I64 x) (K:l.length<=64):
 Calls prog 174 #[.int .i64 kind,v] w fun e w'=>ZdS B w v (Zq ⟨kind,l,j,g⟩ ⟨4,a,b⟩).1.L (Zq ⟨kind,l,j,g⟩ ⟨4,a,b⟩).2 e w':=by
 have p:=Qc k;have F:=k.shape;by_cases d:l.length=0
 ·have f:Hid (Zq ⟨kind,l,j,g⟩ ⟨4,a,b⟩=(⟨kind,l,j,g⟩,-1)):=by
   unfold Zq;rw[if_neg (by simp),if_pos rfl,if_pos d]
   exact rfl
  rw[f.o];obtain⟨ao,cap,rfl⟩:=F;rw[d]
  have U:Hid (Qs w B (.slice ao 0 cap) l):=by
   have h:=p.o
   rwa [d] at h
  clear p k d f n K
  go_enter func174,ntmps174
  go_wp2;go_ret2;exact⟨_,rfl,U.o,Mv.refl _ _⟩
 ·have P:((l.length:Int) == 0)=false:=beq_eq_false_iff_ne.2 (by omega)
  have C:l≠[]:=fun h=>d (by rw[h];rfl)
  have S:=k.rd n;obtain⟨ao,cap,rfl⟩:=F
  have u:Hid (∀ i:Nat,i<l.length->∀ I J,I=(i:Int)->J=((i+1:Nat):Int)->Calls prog 210 #[.slice ao l.length cap,.int .i64 I,.int .i64 J] w fun e w'=>∃ v',e=.returned v'∧Qs w' B v' (l.take i++l.drop (i+1))∧Mv w w' (.slice ao l.length cap) v'):=
   fun i n I J W O=>Zic _ l B w p.o i (i+1) (by omega) (by omega) I J W O
  obtain⟨aa,Z,G,-,-,-,-,V⟩:=S;simp only [Value.slice.injEq] at G;obtain⟨rfl,-,rfl⟩:=G;rcases V with R | ⟨c,Y,rfl,z⟩
  ·exact absurd R C
  rcases T with rfl | rfl
  ·have f:Hid (Zq ⟨2,l,j,g⟩ ⟨4,a,b⟩=(⟨2,l.take 0++l.drop (0+1),j,g⟩,l.getD 0 0)):=by
    unfold Zq;rw[if_neg (by simp),if_pos rfl,if_neg d,if_pos rfl]
    exact rfl
   rw[f.o];have D:=z 0 (by omega)
   rw[Nat.add_zero] at D;have t:=Qc (u.o 0 (by omega))
   have ab:(0:Int)<(l.length:Int):=by omega
   generalize l.getD 0 0=y at *;generalize l.take 0++l.drop (0+1)=L' at *;clear z u f d C k n p
   go_enter func174,ntmps174
   go_wp2_with fail
   refine(t.o _ _ (by simp) (by simp)).mono ?_
   rintro e Q ⟨X,rfl,q,m⟩;have E:=Qc q;have A:=Qc m;clear q m;go_wp2;go_ret2;exact⟨_,rfl,E.o,A.o⟩
  ·have f:Hid (Zq ⟨3,l,j,g⟩ ⟨4,a,b⟩=(⟨3,l.take (l.length-1)++l.drop (l.length-1+1),j,g⟩,l.getD (l.length-1) 0)):=by
    unfold Zq;rw[if_neg (by simp),if_pos rfl,if_neg d,if_neg (by simp)]
    have e:l.drop (l.length-1+1)=[]:=List.drop_of_length_le (by omega)
    rw[e,List.append_nil];exact rfl
   rw[f.o];have D:=z (l.length-1) (by omega)
   have t:=Qc (u.o (l.length-1) (by omega))
   obtain⟨M,H⟩:∃ M,M=l.length-1:=⟨_,rfl⟩;rw[<-H] at D t ⊢;have N:l.length=M+1:=by omega
   generalize l.getD M 0=y at *;generalize l.take M++l.drop (M+1)=L' at *;clear z u f d C k n p H P;rw[N] at t ⊢;have ac:(M:Int)<64:=by omega
   clear N K
   go_enter func174,ntmps174
   go_wp2_with fail
   refine(t.o _ _ (by simp) (by simp)).mono ?_
   rintro e Q ⟨X,rfl,q,m⟩;have E:=Qc q;have A:=Qc m;clear q m;go_wp2;go_ret2;exact⟨_,rfl,E.o,A.o⟩
theorem Zh {b:Int} (h:a=b):Ending.returned (.tuple #[v,.int .i64 a])=.returned (.tuple #[v,.int .i64 b]):=by rw[h]
theorem Zxe (kind:Int) (q:kind=2∨kind=3) (v:Value) (l:List Int) (o:Opn) (c:Bool) (g:Int) (B:Nat) (w:World) (i:Qs w B v l) (W:B<=w.heap.size) (p:∀ x ∈ l,I64 x) (z:l.length<=64):
 Calls prog 126 #[.int .i64 kind,v,opV o] w fun e w'=>ZdS B w v (Zq ⟨kind,l,c,g⟩ o).1.L (Zq ⟨kind,l,c,g⟩ o).2 e w':=by
 obtain⟨f,a,b⟩:=o;have y:=Qc i;have A:Hid (∀ X,Mv w (w.alloc X) v v):=fun X=>Mv.alloc w v X
 have K:=Qc (fun n w=>ZeH n w)
 show Calls prog _ #[_,_,.agg #[.int .i64 f,.int .i64 a,.int .i64 b]] w _;by_cases j:f=3
 ·subst j
  obtain⟨ao,cap,rfl⟩:=i.shape;by_cases C:l.length=64
  ·have d:Hid (Zq ⟨kind,l,c,g⟩ ⟨3,a,b⟩=(⟨kind,l,c,g⟩,-1)):=by
    unfold Zq;rw[if_pos rfl,if_pos C];exact rfl
   rw[d.o];have M:((l.length:Int) == 64)=true:=beq_iff_eq.2 (by omega)
   clear C d i p z q
   go_enter func126,ntmps126
   go_wp2;go_ret2;exact⟨_,rfl,y.o.alloc _,A.o _⟩
  ·have d:Hid (Zq ⟨kind,l,c,g⟩ ⟨3,a,b⟩=(⟨kind,l++[Jp a],c,g⟩,(l.length:Int)+1)):=by
    unfold Zq;rw[if_pos rfl,if_neg C];exact rfl
   rw[d.o];have M:((l.length:Int) == 64)=false:=beq_eq_false_iff_ne.2 (by omega)
   obtain⟨L',D⟩:∃ L',L'=l++[Jp a]:=⟨_,rfl⟩;rw[<-D];have I:=Qc D;have N:Hid ((L'.length:Int)=(l.length:Int)+1):=by rw[D,length_append];exact rfl
   clear C d i p q D
   go_enter func126,ntmps126
   go_wp2_with(first | (go_at_call 173;refine(K.o _ _).mono ?_;rintro e T ⟨rfl,rfl⟩) | (at_builtin;refine Zep _ rfl _ _ rfl B _ l rfl (y.o.alloc _) _ _ rfl (by simp[Act.eval]) (by omega) (by simp;omega) ?_))
   intro R J k H G;have u:=Mv.app H (by simp) G
   clear H G;rw[<-I.o] at k;have F:=Qc k;obtain⟨U,S,rfl⟩:=k.shape;have E:=Qc ((A.o _).trans u);clear k u;go_wp2;go_ret2;exact⟨_,Zh N.o,F.o,E.o⟩
 ·have O:(f == 3)=false:=beq_eq_false_iff_ne.2 j
  by_cases m:f=4
  ·subst m
   have Q:Hid (∀ X,Calls prog 174 #[.int .i64 kind,v] (w.alloc X) fun e w'=>ZdS B (w.alloc X) v (Zq ⟨kind,l,c,g⟩ ⟨4,a,b⟩).1.L (Zq ⟨kind,l,c,g⟩ ⟨4,a,b⟩).2 e w'):=fun X=>ZyL kind q v l c g a b B (w.alloc X) (y.o.alloc X) p z
   generalize (Zq ⟨kind,l,c,g⟩ ⟨4,a,b⟩).1.L=L' at *;generalize (Zq ⟨kind,l,c,g⟩ ⟨4,a,b⟩).2=n at *;clear i p z q j O
   go_enter func126,ntmps126
   go_wp2_with fail
   refine(Q.o _).mono ?_;rintro e J ⟨R,rfl,k,u⟩;have F:=Qc k;have E:=Qc ((A.o _).trans u);clear k u;go_wp2;go_ret2;exact⟨_,rfl,F.o,E.o⟩
  ·have V:(f == 4)=false:=beq_eq_false_iff_ne.2 m
   obtain⟨ao,cap,rfl⟩:=i.shape;by_cases t:f=7
   ·have P:(f == 7)=true:=beq_iff_eq.2 t
    have d:Hid (Zq ⟨kind,l,c,g⟩ ⟨f,a,b⟩=(⟨kind,l,c,g⟩,(l.length:Int))):=by
     unfold Zq;rw[if_neg j,if_neg m,if_pos t];exact rfl
    rw[d.o];clear i p z q j m t d
    go_enter func126,ntmps126
    go_wp2;go_ret2;exact⟨_,rfl,y.o.alloc _,A.o _⟩
   ·have P:(f == 7)=false:=beq_eq_false_iff_ne.2 t
    have d:Hid (Zq ⟨kind,l,c,g⟩ ⟨f,a,b⟩=(⟨kind,l,c,g⟩,0)):=by
     unfold Zq;rw[if_neg j,if_neg m,if_neg t];exact rfl
    rw[d.o];clear i p z q j m t d
    go_enter func126,ntmps126
    go_wp2;go_ret2;exact⟨_,rfl,y.o.alloc _,A.o _⟩
theorem Qs.drew (h:Qs w B v l):Qs w.drew B v l:=h
theorem Zbx (key:Int) (l:List Int):J1 key 0 l<0↔Zw key l=false:=by
 rw[Zen];unfold Zw
 cases Yh key l <;> simp
theorem ZuR (h:Zw key l=true):Zrv key l=(Yh key l).getD 0:=by
 rw[ZoI];unfold Zw at h
 cases hg:Yh key l with
 | none=>rw[hg] at h;simp at h
 | some x=>rfl
theorem ZlD (h:Zw key l=false):Zrv key l=-1:=by
 rw[ZoI];unfold Zw at h
 cases hg:Yh key l with
 | none=>rfl
 | some x=>rw[hg] at h;simp at h
theorem Zsq (v:Value) (l:List Int) (o:Opn) (Z:Bool) (g:Int) (B:Nat) (w:World) (ho:Qs w B v l) (hB:B<=w.heap.size) (V:Qu (-1099511627776) (-1) l) (ai:l.length<=128):
 Calls prog 127 #[v,opV o] w fun e w'=>ZdS B w v (Z5 ⟨4,l,Z,g⟩ o).1.L (Z5 ⟨4,l,Z,g⟩ o).2 e w':=by
 obtain⟨c,a,b⟩:=o;have hi:=ZaB (by decide) (by decide) V
 have HO:=Qc ho;have ad:Hid (∀ X,Mv w (w.alloc X) v v):=fun X=>Mv.alloc w v X
 have HC:=Qc (fun n w=>ZeH n w)
 have HW:=Qc (fun p q W=>Gz p q W)
 have HS:=Qc (fun n l2 i a2 b2 W R p2=>Zdu n l2 i a2 b2 W R p2)
 have aa:Hid (∀ W,Qs W B v l->Calls prog 175 #[v,.int .i64 a] W fun e w'=>e=.returned (.tuple #[.int .i64 ((Yh a l).getD 0),.bool (Zw a l)])∧Below W.heap.size W w'):=fun W h=>ZgX v l a _ _ W (h.rd hi) V (by omega)
 have ae:Hid (∀ n W,Qs W B v l->B<=W.heap.size->Calls prog 178 #[v,.int .i64 a,.int .i64 n] W fun e w'=>∃ v',e=.returned v'∧Qs w' B v' (Xg a n false l)∧Mv W w' v v'):=fun n W f i=>ZgY v l a n _ _ B W f i hi V (by omega)
 have ag:Hid (∀ W,Qs W B v l->B<=W.heap.size->Calls prog 176 #[v,.int .i64 a] W fun e w'=>∃ v',e=.returned v'∧Qs w' B v' (Yp a l)∧Mv W w' v v'):=fun W f _=>Zxd v l a _ _ B W f hi V (by omega)
 obtain⟨ao,cap,rfl⟩:=ho.shape;have af:Hid (∀ W,Calls prog 177 #[.slice ao l.length cap] W fun e w'=>e=.returned (.bool (decide (l.length=128)))∧w'=W):=fun W=>ZlC ao l.length cap W
 obtain⟨L',n',hE⟩:∃ L' n',Z5 ⟨4,l,Z,g⟩ ⟨c,a,b⟩=(⟨4,L',Z,g⟩,n'):=by
  unfold Z5
  repeat' split
  all_goals exact⟨_,_,rfl⟩
 rw[hE];have E:=Qc hE;clear hE ho V hi;show Calls prog _ #[_,.agg #[.int .i64 c,.int .i64 a,.int .i64 b]] w fun e w'=>ZdS B w (.slice ao l.length cap) L' n' e w'
 by_cases hk:0<=a∧a<=255
 ·have Y:=Qc (decide_eq_true hk)
  have F:Hid (¬ (a<0∨255<a)):=by
   show ¬ (a<0∨255<a);omega
  clear hk
  cases hh:Zw a l
  ·have ab:=Qc ((Zbx a l).2 hh)
   have N:=Qc (ZlD hh);rw[hh] at aa;clear hh;generalize (Yh a l).getD 0=y at *
   go_enter func127,ntmps127
   go_wp2_with fail
   refine(HW.o _ _ _).mono ?_;rintro e S ⟨a1,b1,rfl,J,I,m⟩;have j:=(m.block w.heap.size (by simp)).trans (heap_alloc_new w _)
   have R:=cell_of_row S w.heap.size 1 _ _ _ j;have K:=Qc j;have M:=Qc ((ad.o _).trans (Mv.ofBelow m _));have G:=Qc ((HO.o.alloc _).below m zL);clear m j
   go_wp2_with fail
   refine(HS.o _ _ _ _ _ _ J I).mono ?_;rintro e x ⟨rfl,rfl⟩;rw[Y.o];clear J I
   go_wp2_with fail
   refine(aa.o _ G.o).mono ?_;rintro e x ⟨rfl,H⟩;have j:=(H.block w.heap.size (Array.getElem?_eq_some_iff.1 K.o).1).trans K.o;have p0:=cell_of_row x w.heap.size 0 _ _ _ j;have q1:=cell_of_row x w.heap.size 1 _ _ _ j;have q2:=cell_of_row x w.heap.size 2 _ _ _ j;have z:=Qc (M.o.trans (Mv.ofBelow H _));have D:=Qc (G.o.below H zL);have U:B<=x.heap.size:=Nat.le_trans hB z.o.size;clear H j K M G R;by_cases k:c=7
   ·have d:Hid (L'=l∧n'=-1):=by
     have h:=E.o;unfold Z5 at h;rw[if_neg F.o,if_neg (show ¬ (c≠7∧c≠6∧c≠5) by omega),if_neg (show ¬ c=6 by omega),if_neg (show ¬ c=5 by omega),N.o] at h
     injection h with f i
     injection f with _ h3
     exact⟨h3.symm,i.symm⟩
    have e7:(c == 7)=true:=beq_iff_eq.2 k;clear k;go_wp2;go_ret2;exact⟨_,Zh d.o.2.symm,by rw[d.o.1];exact D.o,z.o⟩
   ·have e7:(c == 7)=false:=beq_eq_false_iff_ne.2 k
    by_cases u:c=6
    ·have d:Hid (L'=Yp a l∧n'=-1):=by
      have h:=E.o;unfold Z5 at h;rw[if_neg F.o,if_neg (show ¬ (c≠7∧c≠6∧c≠5) by omega),if_pos (show c=6 by omega),N.o] at h
      injection h with f i
      injection f with _ h3
      exact⟨h3.symm,i.symm⟩
     have e6:(c == 6)=true:=beq_iff_eq.2 u;clear u k
     go_wp2_with fail
     refine(ag.o _ D.o U).mono ?_;rintro e T ⟨v3,rfl,A,C⟩;have O:=Qc (z.o.trans C);have P:=Qc A;clear A C;go_wp2;go_ret2;exact⟨_,Zh d.o.2.symm,by rw[d.o.1];exact P.o,O.o⟩
    ·have e6:(c == 6)=false:=beq_eq_false_iff_ne.2 u
     by_cases t:c=5
     ·have e5:(c == 5)=true:=beq_iff_eq.2 t
      by_cases Q:l.length=128
      ·have d:Hid (L'=l∧n'=-2):=by
        have h:=E.o;unfold Z5 at h;rw[if_neg F.o,if_neg (show ¬ (c≠7∧c≠6∧c≠5) by omega),if_neg (show ¬ c=6 by omega),if_pos t,if_pos ⟨ab.o,Q⟩] at h
        injection h with f i
        injection f with _ h3
        exact⟨h3.symm,i.symm⟩
       have ac:=Qc (decide_eq_true Q);clear t u k Q
       go_wp2_with fail
       refine(af.o _).mono ?_;rintro e T ⟨rfl,rfl⟩;rw[ac.o];go_wp2;go_ret2;exact⟨_,Zh d.o.2.symm,by rw[d.o.1];exact D.o,z.o⟩
      ·have d:Hid (L'=Xg a (Jp b) false l∧n'=-1):=by
        have h:=E.o;unfold Z5 at h;rw[if_neg F.o,if_neg (show ¬ (c≠7∧c≠6∧c≠5) by omega),if_neg (show ¬ c=6 by omega),if_pos t,if_neg (fun h=>Q h.2),N.o] at h
        injection h with f i
        injection f with _ h3
        exact⟨h3.symm,i.symm⟩
       have ac:=Qc (decide_eq_false Q);clear Q;clear t u k
       go_wp2_with fail
       refine(af.o _).mono ?_;rintro e T ⟨rfl,rfl⟩;rw[ac.o];go_wp2
       go_region_with
        (first
         | (go_at_call 173;refine(HC.o _ _).mono ?_;rintro e w3 ⟨rfl,rfl⟩)
         | (go_at_call 178;refine(ae.o _ _ D.o.drew U).mono ?_;rintro e T ⟨v3,rfl,A,C⟩;have O:=Qc (z.o.drew.trans C);have P:=Qc A;clear A C))
       all_goals
        go_wp2;go_ret2;exact⟨_,Zh d.o.2.symm,by rw[d.o.1];exact P.o,O.o⟩
     ·have e5:(c == 5)=false:=beq_eq_false_iff_ne.2 t
      have d:Hid (L'=l∧n'=0):=by
       have h:=E.o;unfold Z5 at h;rw[if_neg F.o,if_pos (show(c≠7∧c≠6∧c≠5) by omega)] at h
       injection h with f i
       injection f with _ h3
       exact⟨h3.symm,i.symm⟩
      clear t u k;go_wp2;go_ret2;exact⟨_,Zh d.o.2.symm,by rw[d.o.1];exact D.o,z.o⟩
  ·have ab:Hid (¬ J1 a 0 l<0):=fun h=>by rw[(Zbx a l).1 h] at hh;cases hh
   have N:=Qc (ZuR hh);rw[hh] at aa;clear hh;generalize (Yh a l).getD 0=y at *
   go_enter func127,ntmps127
   go_wp2_with fail
   refine(HW.o _ _ _).mono ?_;rintro e S ⟨a1,b1,rfl,J,I,m⟩;have j:=(m.block w.heap.size (by simp)).trans (heap_alloc_new w _)
   have R:=cell_of_row S w.heap.size 1 _ _ _ j;have K:=Qc j;have M:=Qc ((ad.o _).trans (Mv.ofBelow m _));have G:=Qc ((HO.o.alloc _).below m zL);clear m j
   go_wp2_with fail
   refine(HS.o _ _ _ _ _ _ J I).mono ?_;rintro e x ⟨rfl,rfl⟩;rw[Y.o];clear J I
   go_wp2_with fail
   refine(aa.o _ G.o).mono ?_;rintro e x ⟨rfl,H⟩;have j:=(H.block w.heap.size (Array.getElem?_eq_some_iff.1 K.o).1).trans K.o;have p0:=cell_of_row x w.heap.size 0 _ _ _ j;have q1:=cell_of_row x w.heap.size 1 _ _ _ j;have q2:=cell_of_row x w.heap.size 2 _ _ _ j;have z:=Qc (M.o.trans (Mv.ofBelow H _));have D:=Qc (G.o.below H zL);have U:B<=x.heap.size:=Nat.le_trans hB z.o.size;clear H j K M G R;by_cases k:c=7
   ·have d:Hid (L'=l∧n'=y):=by
     have h:=E.o;unfold Z5 at h;rw[if_neg F.o,if_neg (show ¬ (c≠7∧c≠6∧c≠5) by omega),if_neg (show ¬ c=6 by omega),if_neg (show ¬ c=5 by omega),N.o] at h
     injection h with f i
     injection f with _ h3
     exact⟨h3.symm,i.symm⟩
    have e7:(c == 7)=true:=beq_iff_eq.2 k;clear k;go_wp2;go_ret2;exact⟨_,Zh d.o.2.symm,by rw[d.o.1];exact D.o,z.o⟩
   ·have e7:(c == 7)=false:=beq_eq_false_iff_ne.2 k
    by_cases u:c=6
    ·have d:Hid (L'=Yp a l∧n'=y):=by
      have h:=E.o;unfold Z5 at h;rw[if_neg F.o,if_neg (show ¬ (c≠7∧c≠6∧c≠5) by omega),if_pos (show c=6 by omega),N.o] at h
      injection h with f i
      injection f with _ h3
      exact⟨h3.symm,i.symm⟩
     have e6:(c == 6)=true:=beq_iff_eq.2 u;clear u k
     go_wp2_with fail
     refine(ag.o _ D.o U).mono ?_;rintro e T ⟨v3,rfl,A,C⟩;have O:=Qc (z.o.trans C);have P:=Qc A;clear A C;go_wp2;go_ret2;exact⟨_,Zh d.o.2.symm,by rw[d.o.1];exact P.o,O.o⟩
    ·have e6:(c == 6)=false:=beq_eq_false_iff_ne.2 u
     by_cases t:c=5
     ·have e5:(c == 5)=true:=beq_iff_eq.2 t
      have d:Hid (L'=Xg a (Jp b) false l∧n'=y):=by
       have h:=E.o;unfold Z5 at h;rw[if_neg F.o,if_neg (show ¬ (c≠7∧c≠6∧c≠5) by omega),if_neg (show ¬ c=6 by omega),if_pos t,if_neg (fun h=>absurd (show J1 a 0 l<0 from h.1) (by have:=ab.o;omega)),N.o] at h
       injection h with f i
       injection f with _ h3
       exact⟨h3.symm,i.symm⟩
      clear t u k;go_wp2
      go_region_with
       (first
        | (go_at_call 173;refine(HC.o _ _).mono ?_;rintro e w3 ⟨rfl,rfl⟩)
        | (go_at_call 178;refine(ae.o _ _ D.o.drew U).mono ?_;rintro e T ⟨v3,rfl,A,C⟩;have O:=Qc (z.o.drew.trans C);have P:=Qc A;clear A C))
      all_goals
       go_wp2;go_ret2;exact⟨_,Zh d.o.2.symm,by rw[d.o.1];exact P.o,O.o⟩
     ·have e5:(c == 5)=false:=beq_eq_false_iff_ne.2 t
      have d:Hid (L'=l∧n'=0):=by
       have h:=E.o;unfold Z5 at h;rw[if_neg F.o,if_pos (show(c≠7∧c≠6∧c≠5) by omega)] at h
       injection h with f i
       injection f with _ h3
       exact⟨h3.symm,i.symm⟩
      clear t u k;go_wp2;go_ret2;exact⟨_,Zh d.o.2.symm,by rw[d.o.1];exact D.o,z.o⟩
 ·have Y:=Qc (decide_eq_false hk)
  have d:Hid (L'=l∧n'=-1):=by
   have h:=E.o;unfold Z5 at h;rw[if_pos (show a<0∨255<a by omega)] at h
   injection h with f i
   injection f with _ h3
   exact⟨h3.symm,i.symm⟩
  clear hk
  go_enter func127,ntmps127
  go_wp2_with fail
  refine(HW.o _ _ _).mono ?_;rintro e S ⟨a1,b1,rfl,J,I,m⟩;have j:=(m.block w.heap.size (by simp)).trans (heap_alloc_new w _)
  have R:=cell_of_row S w.heap.size 1 _ _ _ j;have K:=Qc j;have M:=Qc ((ad.o _).trans (Mv.ofBelow m _));have G:=Qc ((HO.o.alloc _).below m zL);clear m j
  go_wp2_with fail
  refine(HS.o _ _ _ _ _ _ J I).mono ?_;rintro e x ⟨rfl,rfl⟩;rw[Y.o];clear J I;go_wp2;go_ret2;exact⟨_,Zh d.o.2.symm,by rw[d.o.1];exact G.o,M.o⟩
theorem Zpo (v:Value) (l:List Int) (a b:Int) (i:Bool) (g:Int) (B:Nat) (w:World) (M:Qs w B v l) (hB:B<=w.heap.size) (A:Qu 0 (-1) l) (ae:l.length<=128):
 Calls prog 179 #[v,.int .i64 a,.int .i64 b] w fun e w'=>ZdS B w v (Yd ⟨5,l,i,g⟩ ⟨8,a,b⟩).1.L (Yd ⟨5,l,i,g⟩ ⟨8,a,b⟩).2 e w':=by
 have K:=ZaB (by decide) (by decide) A
 have P:=Qc M;have HC:=Qc (fun n w=>ZeH n w)
 have Q:=Qc (fun p q W=>Gz p q W)
 have T:=Qc (fun n l2 f a2 b2 W p1 p2=>Zdu n l2 f a2 b2 W p1 p2)
 have ad:Hid (∀ W,Qs W B v l->Calls prog 175 #[v,.int .i64 a] W fun e w'=>e=.returned (.tuple #[.int .i64 (Yz a l),.bool (Zw a l)])∧Below W.heap.size W w'):=fun W h=>by
  rw[Zhp];exact ZgX v l a _ _ W (h.rd K) A (by omega)
 have X:Hid (∀ n W,Qs W B v l->B<=W.heap.size->Calls prog 178 #[v,.int .i64 a,.int .i64 n] W fun e w'=>∃ v',e=.returned v'∧Qs w' B v' (Xg a n false l)∧Mv W w' v v'):=fun n W j f=>ZgY v l a n _ _ B W j f K A (by omega)
 have ag:=ZaW A a;obtain⟨ao,cap,rfl⟩:=M.shape;have aa:Hid (∀ W,Calls prog 177 #[.slice ao l.length cap] W fun e w'=>e=.returned (.bool (decide (l.length=128)))∧w'=W):=fun W=>ZlC ao l.length cap W
 obtain⟨L',n',O⟩:∃ L' n',Yd ⟨5,l,i,g⟩ ⟨8,a,b⟩=(⟨5,L',i,g⟩,n'):=by
  unfold Yd;rw[if_neg (by simp),if_neg (by simp)]
  repeat' split
  all_goals exact⟨_,_,rfl⟩
 rw[O];have ab:=Qc O
 have D:Hid ((if a<0∨255<a then((⟨5,l,i,g⟩:St),(-1:Int)) else if b<0 then(⟨5,l,i,g⟩,-1) else if J1 a 0 l<0∧l.length=128 then(⟨5,l,i,g⟩,-2) else(⟨5,Xg a (Jp (Yz a l+Jp b)) false l,i,g⟩,Jp (Yz a l+Jp b)))=(⟨5,L',i,g⟩,n')):=by
  refine Qc ?_;have h:=ab.o;unfold Yd at h;rw[if_neg (by simp),if_neg (by simp)] at h
  simpa using h
 clear O M A K ab;show Calls prog _ _ w fun e w'=>ZdS B w (.slice ao l.length cap) L' n' e w'
 have af:=ZbW b;by_cases G:0<=a∧a<=255
 ·have F:=Qc (decide_eq_true G)
  have R:Hid (¬ (a<0∨255<a)):=by
   show ¬ (a<0∨255<a);omega
  clear G;by_cases hb:b<0
  ·have c:Hid (L'=l∧n'=-1):=by
    have h:=D.o;rw[if_neg R.o,if_pos hb] at h
    injection h with j f
    injection j with _ h3
    exact⟨h3.symm,f.symm⟩
   go_enter func179,ntmps179
   go_wp2_with fail
   refine(Q.o _ _ _).mono ?_;rintro e Z ⟨Y,b1,rfl,x,t,d⟩;have u:=Qc (Mv.ofBelow d (.slice ao l.length cap));have m:=Qc (P.o.below d zL);clear d
   go_wp2_with fail
   refine(T.o _ _ _ _ _ _ x t).mono ?_;rintro e E ⟨rfl,rfl⟩;rw[F.o];go_wp2;go_ret2;exact⟨_,Zh c.o.2.symm,by rw[c.o.1];exact m.o,u.o⟩
  ·go_enter func179,ntmps179
   go_wp2_with fail
   refine(Q.o _ _ _).mono ?_;rintro e Z ⟨Y,b1,rfl,x,t,d⟩;have u:=Qc (Mv.ofBelow d (.slice ao l.length cap));have m:=Qc (P.o.below d zL);clear d
   go_wp2_with fail
   refine(T.o _ _ _ _ _ _ x t).mono ?_;rintro e E ⟨rfl,rfl⟩;rw[F.o];clear x t
   go_wp2_with fail
   refine(ad.o _ m.o).mono ?_;rintro e E ⟨rfl,S⟩;have H:=Qc (u.o.trans (Mv.ofBelow S _));have U:=Qc (m.o.below S zL);have ac:B<=E.heap.size:=Nat.le_trans hB H.o.size;clear S u m;by_cases k:Zw a l=false∧l.length=128
   ·have c:Hid (L'=l∧n'=-2):=by
     have h:=D.o;rw[if_neg R.o,if_neg (show ¬ b<0 by omega),if_pos ⟨(Zbx a l).2 k.1,k.2⟩] at h
     injection h with j f
     injection j with _ h3
     exact⟨h3.symm,f.symm⟩
    have J:=Qc (decide_eq_true k.2);rw[k.1];clear k
    go_wp2_with fail
    refine(aa.o _).mono ?_;rintro e N ⟨rfl,rfl⟩;rw[J.o];go_wp2;go_ret2;exact⟨_,Zh c.o.2.symm,by rw[c.o.1];exact U.o,H.o⟩
   ·have c:Hid (L'=Xg a (Jp (Yz a l+Jp b)) false l∧n'=Jp (Yz a l+Jp b)):=by
     have h:=D.o;rw[if_neg R.o,if_neg (show ¬ b<0 by omega),if_neg (fun h=>k ⟨(Zbx a l).1 h.1,h.2⟩)] at h
     injection h with j f
     injection j with _ h3
     exact⟨h3.symm,f.symm⟩
    generalize Yz a l=y at *
    cases hh:Zw a l
    ·have J:=Qc (decide_eq_false (fun h=>k ⟨hh,h⟩))
     clear k hh
     go_wp2_with fail
     refine(aa.o _).mono ?_;rintro e N ⟨rfl,rfl⟩;rw[J.o]
     go_wp2_with(first | (go_at_call 173;refine(HC.o _ _).mono ?_;rintro e w3 ⟨rfl,rfl⟩) | (go_at_call 178;refine(X.o _ _ U.o ac).mono ?_;rintro e N ⟨v3,rfl,z,C⟩;have V:=Qc (H.o.trans C);have I:=Qc z;clear z C))
     go_ret2;exact⟨_,Zh c.o.2.symm,by rw[c.o.1];exact I.o,V.o⟩
    ·clear k hh
     go_wp2_with(first | (go_at_call 173;refine(HC.o _ _).mono ?_;rintro e w3 ⟨rfl,rfl⟩) | (go_at_call 178;refine(X.o _ _ U.o ac).mono ?_;rintro e N ⟨v3,rfl,z,C⟩;have V:=Qc (H.o.trans C);have I:=Qc z;clear z C))
     go_ret2;exact⟨_,Zh c.o.2.symm,by rw[c.o.1];exact I.o,V.o⟩
 ·have F:=Qc (decide_eq_false G)
  have c:Hid (L'=l∧n'=-1):=by
   have h:=D.o;rw[if_pos (show a<0∨255<a by omega)] at h
   injection h with j f
   injection j with _ h3
   exact⟨h3.symm,f.symm⟩
  clear G
  go_enter func179,ntmps179
  go_wp2_with fail
  refine(Q.o _ _ _).mono ?_;rintro e Z ⟨Y,b1,rfl,x,t,d⟩;have u:=Qc (Mv.ofBelow d (.slice ao l.length cap));have m:=Qc (P.o.below d zL);clear d
  go_wp2_with fail
  refine(T.o _ _ _ _ _ _ x t).mono ?_;rintro e E ⟨rfl,rfl⟩;rw[F.o];go_wp2;go_ret2;exact⟨_,Zh c.o.2.symm,by rw[c.o.1];exact m.o,u.o⟩
theorem Zxf (v:Value) (l:List Int) (ak a b:Int) (t:Bool) (g:Int) (B:Nat) (w:World) (ho:Qs w B v l) (X:B<=w.heap.size) (Z:Qu 0 (-1) l) (aJ:l.length<=128):
 Calls prog 180 #[v,.int .i64 a,.int .i64 b] w fun e w'=>ZdS B w v (Zbl ⟨5,l,t,g⟩ ⟨ak,a,b⟩).1.L (Zbl ⟨5,l,t,g⟩ ⟨ak,a,b⟩).2 e w':=by
 have hi:=ZaB (by decide) (by decide) Z
 have HO:=Qc ho;have HW:=Qc (fun p q W=>Gz p q W)
 have HS:=Qc (fun n l2 d a2 b2 W p1 p2=>Zdu n l2 d a2 b2 W p1 p2)
 have ai:Hid (∀ k W,Qs W B v l->Calls prog 175 #[v,.int .i64 k] W fun e w'=>e=.returned (.tuple #[.int .i64 (Yz k l),.bool (Zw k l)])∧Below W.heap.size W w'):=fun k W h=>by
  rw[Zhp];exact ZgX v l k _ _ W (h.rd hi) Z (by omega)
 obtain⟨ao,cap,rfl⟩:=ho.shape;have ac:Hid (∀ W,Calls prog 177 #[.slice ao l.length cap] W fun e w'=>e=.returned (.bool (decide (l.length=128)))∧w'=W):=fun W=>ZlC ao l.length cap W
 obtain⟨L',n',hE⟩:∃ L' n',Zbl ⟨5,l,t,g⟩ ⟨ak,a,b⟩=(⟨5,L',t,g⟩,n'):=by
  unfold Zbl
  repeat' split
  all_goals exact⟨_,_,rfl⟩
 rw[hE];have Y:=Qc hE;have HP:=Qc Z;have HI:=Qc hi;clear hE ho Z hi;show Calls prog _ _ w fun e w'=>ZdS B w (.slice ao l.length cap) L' n' e w'
 by_cases hk:0<=a∧a<=65535
 ·have U:=Qc (decide_eq_true hk)
  obtain⟨ax,aI⟩:=hk;by_cases hb:b<0
  ·have c:Hid (L'=l∧n'=0):=by
    have h:=Y.o;unfold Zbl at h;rw[if_pos (.inr (.inr hb))] at h
    injection h with f d
    injection f with _ h3
    exact⟨h3.symm,d.symm⟩
   go_enter func180,ntmps180
   go_wp2_with fail
   refine(HW.o _ _ _).mono ?_;rintro e W1 ⟨a1,b1,rfl,I,A,j⟩;have C:=Qc (Mv.ofBelow j (.slice ao l.length cap));have u:=Qc (HO.o.below j zL);clear j
   go_wp2_with fail
   refine(HS.o _ _ _ _ _ _ I A).mono ?_;rintro e V ⟨rfl,rfl⟩;rw[U.o];go_wp2;go_ret2;exact⟨_,Zh c.o.2.symm,by rw[c.o.1];exact u.o,C.o⟩
  ·have aL:0<=b:=by omega
   have m:Hid ((if J1 (a / 256) 0 l<0∨Yz (a / 256) l<b then((⟨5,l,t,g⟩:St),(0:Int)) else if a / 256=a % 256 then(⟨5,l,t,g⟩,1) else if(J1 (a % 256) 0 l<0∧l.length=128)∨1099511627776<Yz (a % 256) l+b then(⟨5,l,t,g⟩,0) else(⟨5,Xg (a % 256) (Yz (a % 256) l+b) false (Xg (a / 256) (Yz (a / 256) l-b) false l),t,g⟩,1))=(⟨5,L',t,g⟩,n')):=by
    have h:=Y.o;unfold Zbl at h;rw[if_neg (by simp;omega)] at h
    exact h
   clear Y hb;have au:Hid (a.tdiv 256=a / 256):=Int.tdiv_eq_ediv_of_nonneg ax;have ar:Hid (a.tmod 256=a % 256):=Int.tmod_eq_emod_of_nonneg ax;have aG:0<=a / 256:=by omega
   have ay:a / 256<=255:=by omega
   have aC:0<=a % 256:=by omega
   have aD:a % 256<=255:=by omega
   have aA:=ZaW HP.o (a / 256);have aB:=ZaW HP.o (a % 256);obtain⟨F,hF⟩:∃ F,F=a / 256:=⟨_,rfl⟩;obtain⟨T,hT⟩:∃ T,T=a % 256:=⟨_,rfl⟩;rw[<-hF] at au m aG ay aA;rw[<-hT] at ar m aC aD aB;clear hF hT;have aK:=au.o;have aH:=ar.o
   go_enter func180,ntmps180
   go_wp2_with fail
   refine(HW.o _ _ _).mono ?_;rintro e W1 ⟨a1,b1,rfl,I,A,j⟩;have C:=Qc (Mv.ofBelow j (.slice ao l.length cap));have u:=Qc (HO.o.below j zL);clear j
   go_wp2_with fail
   refine(HS.o _ _ _ _ _ _ I A).mono ?_;rintro e V ⟨rfl,rfl⟩;rw[U.o];clear I A
   go_wp2_with fail
   refine(ai.o _ _ u.o).mono ?_;rintro e V ⟨rfl,al⟩;have H:=Qc (C.o.trans (Mv.ofBelow al _));have J:=Qc (u.o.below al zL);have aE:B<=V.heap.size:=Nat.le_trans X H.o.size;clear al C u
   cases hh:Zw F l
   ·have c:Hid (L'=l∧n'=0):=by
     have h:=m.o;rw[if_pos (.inl ((Zbx F l).2 hh))] at h
     injection h with f d
     injection f with _ h3
     exact⟨h3.symm,d.symm⟩
    clear hh;go_wp2;go_ret2;exact⟨_,Zh c.o.2.symm,by rw[c.o.1];exact J.o,H.o⟩
   ·have D:Hid (¬ J1 F 0 l<0):=fun h=>by rw[(Zbx F l).1 h] at hh;cases hh
    clear hh;by_cases aj:Yz F l<b
    ·have c:Hid (L'=l∧n'=0):=by
      have h:=m.o;rw[if_pos (.inr aj)] at h
      injection h with f d
      injection f with _ h3
      exact⟨h3.symm,d.symm⟩
     clear D;go_wp2;go_ret2;exact⟨_,Zh c.o.2.symm,by rw[c.o.1];exact J.o,H.o⟩
    ·by_cases E:F=T
     ·have hq:(F == T)=true:=beq_iff_eq.2 E
      have c:Hid (L'=l∧n'=1):=by
       have h:=m.o;rw[if_neg (fun h=>h.elim D.o aj),if_pos E] at h
       injection h with f d
       injection f with _ h3
       exact⟨h3.symm,d.symm⟩
      clear D E;go_wp2;go_ret2;exact⟨_,Zh c.o.2.symm,by rw[c.o.1];exact J.o,H.o⟩
     ·have hq:(F == T)=false:=beq_eq_false_iff_ne.2 E
      have ag:=Qc E;have aa:=Qc aj;clear E
      go_wp2_with fail
      refine(ai.o _ _ J.o).mono ?_;rintro e W3 ⟨rfl,am⟩;have G:=Qc (H.o.trans (Mv.ofBelow am _));have Q:=Qc (J.o.below am zL);have az:B<=W3.heap.size:=Nat.le_trans X G.o.size;clear am H J aE;by_cases i:Zw T l=false∧l.length=128
      ·have S:=Qc (decide_eq_true i.2)
       have c:Hid (L'=l∧n'=0):=by
        have h:=m.o;rw[if_neg (fun h=>by have:=D.o;have:=aa.o;omega),if_neg ag.o,if_pos (.inl ⟨(Zbx T l).2 i.1,i.2⟩)] at h
        injection h with f d
        injection f with _ h3
        exact⟨h3.symm,d.symm⟩
       rw[i.1];clear i
       go_wp2_with fail
       refine(ac.o _).mono ?_;rintro e W4 ⟨rfl,rfl⟩;rw[S.o];go_wp2;go_ret2;exact⟨_,Zh c.o.2.symm,by rw[c.o.1];exact Q.o,G.o⟩
      ·by_cases aw:1099511627776<Yz T l+b
       ·have c:Hid (L'=l∧n'=0):=by
         have h:=m.o;rw[if_neg (fun h=>by have:=D.o;have:=aa.o;omega),if_neg ag.o,if_pos (.inr aw)] at h
         injection h with f d
         injection f with _ h3
         exact⟨h3.symm,d.symm⟩
        cases hh:Zw T l
        ·have S:=Qc (decide_eq_false (fun h=>i ⟨hh,h⟩))
         clear i hh
         go_wp2_with fail
         refine(ac.o _).mono ?_;rintro e W4 ⟨rfl,rfl⟩;rw[S.o];go_wp2;go_ret2;exact⟨_,Zh c.o.2.symm,by rw[c.o.1];exact Q.o,G.o⟩
        ·clear i hh
         go_wp2;go_ret2;exact⟨_,Zh c.o.2.symm,by rw[c.o.1];exact Q.o,G.o⟩
       ·have aF:=Qc aw
        have c:Hid (L'=Xg T (Yz T l+b) false (Xg F (Yz F l-b) false l)∧n'=1):=by
         have h:=m.o;rw[if_neg (fun h=>by have:=D.o;have:=aa.o;omega),if_neg ag.o,if_neg (fun h=>h.elim (fun x=>i ⟨(Zbx T l).1 x.1,x.2⟩) (fun x=>by have:=aF.o;omega))] at h
         injection h with f d
         injection f with _ h3
         exact⟨h3.symm,d.symm⟩
        have ad:Hid (Qu 0 (-1) (Xg F (Yz F l-b) false l)):=Zbc F _ 0 (by omega) (by omega) ay l (-1) HP.o (by omega)
        have aq:Hid ((Xg F (Yz F l-b) false l).length<=1000000):=by
         have:=Zgd F (Yz F l-b) l false;show(Xg F (Yz F l-b) false l).length<=1000000;omega
        have av:Hid (∀ W,Qs W B (.slice ao l.length cap) l->B<=W.heap.size->Calls prog 178 #[.slice ao l.length cap,.int .i64 F,.int .i64 (Yz F l-b)] W fun e w'=>∃ v',e=.returned v'∧Qs w' B v' (Xg F (Yz F l-b) false l)∧Mv W w' (.slice ao l.length cap) v'):=fun W f d=>ZgY _ l F _ _ _ B W f d HI.o HP.o (by omega)
        have ap:Hid (∀ P W,Qs W B P (Xg F (Yz F l-b) false l)->B<=W.heap.size->Calls prog 178 #[P,.int .i64 T,.int .i64 (Yz T l+b)] W fun e w'=>∃ v',e=.returned v'∧Qs w' B v' (Xg T (Yz T l+b) false (Xg F (Yz F l-b) false l))∧Mv W w' P v'):=fun P W f d=>ZgY P _ T _ _ _ B W f d (ZaB (by decide) (by decide) ad.o) ad.o aq.o
        generalize Xg T (Yz T l+b) false (Xg F (Yz F l-b) false l)=L2 at *;generalize Xg F (Yz F l-b) false l=L1 at *;generalize Yz F l=y at *;generalize Yz T l=z at *;clear ad aq m ai
        cases hh:Zw T l
        ·have S:=Qc (decide_eq_false (fun h=>i ⟨hh,h⟩))
         clear i hh
         go_wp2_with fail
         refine(ac.o _).mono ?_;rintro e W4 ⟨rfl,rfl⟩;rw[S.o]
         go_wp2_with fail
         refine(av.o _ Q.o az).mono ?_;rintro e W5 ⟨v5,rfl,O,M⟩;have R:=Qc (G.o.trans M);have ae:=Qc O;have af:B<=W5.heap.size:=Nat.le_trans X R.o.size;clear O M
         go_wp2_with fail
         refine(ap.o _ _ ae.o af).mono ?_;rintro e W6 ⟨v6,rfl,K,N⟩;have an:=Qc (R.o.trans N);have ab:=Qc K;clear K N;go_wp2;go_ret2;exact⟨_,Zh c.o.2.symm,by rw[c.o.1];exact ab.o,an.o⟩
        ·clear i hh
         go_wp2_with fail
         refine(av.o _ Q.o az).mono ?_;rintro e W5 ⟨v5,rfl,O,M⟩;have R:=Qc (G.o.trans M);have ae:=Qc O;have af:B<=W5.heap.size:=Nat.le_trans X R.o.size;clear O M
         go_wp2_with fail
         refine(ap.o _ _ ae.o af).mono ?_;rintro e W6 ⟨v6,rfl,K,N⟩;have an:=Qc (R.o.trans N);have ab:=Qc K;clear K N;go_wp2;go_ret2;exact⟨_,Zh c.o.2.symm,by rw[c.o.1];exact ab.o,an.o⟩
 ·have U:=Qc (decide_eq_false hk)
  have c:Hid (L'=l∧n'=0):=by
   have h:=Y.o;unfold Zbl at h;rw[if_pos (show a<0∨65535<a∨b<0 by omega)] at h
   injection h with f d
   injection f with _ h3
   exact⟨h3.symm,d.symm⟩
  clear hk
  go_enter func180,ntmps180
  go_wp2_with fail
  refine(HW.o _ _ _).mono ?_;rintro e W1 ⟨a1,b1,rfl,I,A,j⟩;have C:=Qc (Mv.ofBelow j (.slice ao l.length cap));have u:=Qc (HO.o.below j zL);clear j
  go_wp2_with fail
  refine(HS.o _ _ _ _ _ _ I A).mono ?_;rintro e V ⟨rfl,rfl⟩;rw[U.o];go_wp2;go_ret2;exact⟨_,Zh c.o.2.symm,by rw[c.o.1];exact u.o,C.o⟩
theorem ZuS (a:Qu least (-1) l) (h:Zw key l=true):0<=key∧key<=255:=by
 unfold Zw at h
 cases hg:Yh key l with
 | none=>rw[hg] at h;simp at h
 | some x=>
  have:=Zlh a hg;omega
theorem Zpp (v:Value) (l:List Int) (o:Opn) (c:Bool) (g:Int) (B:Nat) (w:World) (z:Qs w B v l) (P:B<=w.heap.size) (i:Qu 0 (-1) l) (I:l.length<=128):
 Calls prog 128 #[v,opV o] w fun e w'=>ZdS B w v (Yd ⟨5,l,c,g⟩ o).1.L (Yd ⟨5,l,c,g⟩ o).2 e w':=by
 obtain⟨d,a,b⟩:=o;have x:=ZaB (by decide) (by decide) i
 have p:=Qc z;have D:Hid (∀ X,Mv w (w.alloc X) v v):=fun X=>Mv.alloc w v X
 show Calls prog _ #[_,.agg #[.int .i64 d,.int .i64 a,.int .i64 b]] w _;by_cases t:d=7
 ·subst t
  have F:Hid (∀ W,Qs W B v l->Calls prog 175 #[v,.int .i64 a] W fun e w'=>e=.returned (.tuple #[.int .i64 ((Yh a l).getD 0),.bool (Zw a l)])∧Below W.heap.size W w'):=fun W h=>ZgX v l a _ _ W (h.rd x) i (by omega)
  have j:Hid (Yd ⟨5,l,c,g⟩ ⟨7,a,b⟩=(⟨5,l,c,g⟩,Zrv a l)):=by
   refine Qc ?_;unfold Yd;rw[if_neg (by simp),if_neg (by simp)]
   by_cases J:a<0∨255<a
   ·rw[if_pos J]
    have k:Zw a l=false:=by
     cases h:Zw a l
     ·rfl
     ·have:=ZuS i h
      omega
    rw[ZlD k]
   ·rw[if_neg J,if_pos rfl]
  rw[j.o];clear j z i x
  cases k:Zw a l
  ·have A:=Qc (ZlD k)
   rw[A.o];rw[k] at F;clear A k;generalize (Yh a l).getD 0=y at *
   go_enter func128,ntmps128
   go_wp2_with fail
   refine(F.o _ (p.o.alloc _)).mono ?_;rintro e G ⟨rfl,f⟩;have m:=Qc ((D.o _).trans (Mv.ofBelow f _));have q:=Qc ((p.o.alloc _).below f zL);clear f;go_wp2;go_ret2;exact⟨_,rfl,q.o,m.o⟩
  ·have A:=Qc (ZuR k)
   rw[A.o];rw[k] at F;clear A k;generalize (Yh a l).getD 0=y at *
   go_enter func128,ntmps128
   go_wp2_with fail
   refine(F.o _ (p.o.alloc _)).mono ?_;rintro e G ⟨rfl,f⟩;have m:=Qc ((D.o _).trans (Mv.ofBelow f _));have q:=Qc ((p.o.alloc _).below f zL);clear f;go_wp2;go_ret2;exact⟨_,rfl,q.o,m.o⟩
 ·have M:(d == 7)=false:=beq_eq_false_iff_ne.2 t
  by_cases C:d=8
  ·subst C
   have H:Hid (∀ X,Calls prog 179 #[v,.int .i64 a,.int .i64 b] (w.alloc X) fun e w'=>ZdS B (w.alloc X) v (Yd ⟨5,l,c,g⟩ ⟨8,a,b⟩).1.L (Yd ⟨5,l,c,g⟩ ⟨8,a,b⟩).2 e w'):=fun X=>Zpo v l a b c g B (w.alloc X) (p.o.alloc X) (by simp;omega) i I
   generalize (Yd ⟨5,l,c,g⟩ ⟨8,a,b⟩).1.L=L' at *;generalize (Yd ⟨5,l,c,g⟩ ⟨8,a,b⟩).2=n at *;clear z x i t M
   go_enter func128,ntmps128
   go_wp2_with fail
   refine(H.o _).mono ?_;rintro e G ⟨N,rfl,E,f⟩;have q:=Qc E;have m:=Qc ((D.o _).trans f);clear E f;go_wp2;go_ret2;exact⟨_,rfl,q.o,m.o⟩
  ·have O:(d == 8)=false:=beq_eq_false_iff_ne.2 C
   by_cases u:d=9
   ·have j:Hid (Yd ⟨5,l,c,g⟩ ⟨d,a,b⟩=Zbl ⟨5,l,c,g⟩ ⟨d,a,b⟩):=if_pos u
    rw[j.o];have K:(d == 9)=true:=beq_iff_eq.2 u;have H:Hid (∀ X,Calls prog 180 #[v,.int .i64 a,.int .i64 b] (w.alloc X) fun e w'=>ZdS B (w.alloc X) v (Zbl ⟨5,l,c,g⟩ ⟨d,a,b⟩).1.L (Zbl ⟨5,l,c,g⟩ ⟨d,a,b⟩).2 e w'):=fun X=>Zxf v l d a b c g B (w.alloc X) (p.o.alloc X) (by simp;omega) i I
    generalize (Zbl ⟨5,l,c,g⟩ ⟨d,a,b⟩).1.L=L' at *;generalize (Zbl ⟨5,l,c,g⟩ ⟨d,a,b⟩).2=n at *;clear z x i t C u j
    go_enter func128,ntmps128
    go_wp2_with fail
    refine(H.o _).mono ?_;rintro e G ⟨N,rfl,E,f⟩;have q:=Qc E;have m:=Qc ((D.o _).trans f);clear E f;go_wp2;go_ret2;exact⟨_,rfl,q.o,m.o⟩
   ·have K:(d == 9)=false:=beq_eq_false_iff_ne.2 u
    have j:Hid (Yd ⟨5,l,c,g⟩ ⟨d,a,b⟩=(⟨5,l,c,g⟩,0)):=by
     refine Qc ?_;unfold Yd;rw[if_neg u,if_pos ⟨t,C⟩]
    rw[j.o];clear z x i t C u j
    go_enter func128,ntmps128
    go_wp2;go_ret2;exact⟨_,rfl,p.o.alloc _,D.o _⟩
theorem Zxg (kind:Int) (ao:Option Addr) (n cap:Nat) (M:Bool) (g a:Int) (w:World):
 Calls prog 123 #[.agg #[.int .i64 kind,.slice ao n cap,.bool M,.int .i64 g],.int .i64 a] w fun e w'=>e=.returned (.agg #[.int .i64 kind,.slice ao n cap,.bool true,.int .i64 (if 0<=a∧a<=2 then a else g)])∧Below w.heap.size w w':=by
 have F:=Qc (fun p q W=>Gz p q W)
 have G:=Qc (fun n P K Q V W N Z=>Zdu n P K Q V W N Z)
 have k:Hid (∀ x y,Below w.heap.size w ((w.alloc x).alloc y)):=fun x y=>((Below.refl _ _).alloc zL x).alloc (by simp) y
 by_cases f:0<=a∧a<=2
 ·rw[if_pos f]
  have B:=Qc (decide_eq_true f);clear f
  go_enter func123,ntmps123
  go_wp2_with fail
  refine(F.o _ _ _).mono ?_;rintro e d ⟨l,D,rfl,j,i,c⟩;have b:ZoK d w.heap.size _ _:=(ZoK.made w _ _).below c (by simp)
  have I:=(b.s 0).1;have U:=(b.s 1).1;have J:=(b.s 2).1;have T:=(b.s 3).1;have S:=(b.s 2).2;have Y:=(b.s 3).2;have m:=(b.r 0).1;have E:=(b.r 1).1;have A:=(b.r 2).1;have u:=(b.r 3).1;have H:=(b.r 0).2;have X:=(b.r 1).2;have O:=(b.r 2).2;have R:=(b.r 3).2;have t:=Qc ((k.o _ _).trans (c.mono (k.o _ _).size));have z:Hid (∀ x,(d.setCell ⟨w.heap.size,2,none⟩ x).cell? ⟨l,0,none⟩=some (.int .i64 0)):=fun x=>(World.cell?_setCell_other _ _ _ _ (by simp)).trans j
  have C:Hid (∀ x,(d.setCell ⟨w.heap.size,2,none⟩ x).cell? ⟨D,0,none⟩=some (.int .i64 2)):=fun x=>(World.cell?_setCell_other _ _ _ _ (by simp)).trans i
  clear c b j i
  go_wp2_with fail
  refine(G.o _ _ _ _ _ _ (z.o _) (C.o _)).mono ?_;rintro e L ⟨rfl,rfl⟩;rw[B.o];go_wp2;refine bodyPost_ret (v:=.agg #[.int .i64 kind,.slice ao n cap,.bool true,.int .i64 a]) (by simp[results,Tryz.results123,go_sem,m,E,A,u]) rfl ?_
  exact⟨rfl,((((((t.o.setCell zL _).setCell zL _).setCell (Nat.le_succ _) _).setCell (Nat.le_succ _) _).setCell (Nat.le_succ _) _).setCell (Nat.le_succ _) _)⟩
 ·rw[if_neg f]
  have B:=Qc (decide_eq_false f);clear f
  go_enter func123,ntmps123
  go_wp2_with fail
  refine(F.o _ _ _).mono ?_;rintro e d ⟨l,D,rfl,j,i,c⟩;have b:ZoK d w.heap.size _ _:=(ZoK.made w _ _).below c (by simp)
  have I:=(b.s 0).1;have U:=(b.s 1).1;have J:=(b.s 2).1;have T:=(b.s 3).1;have S:=(b.s 2).2;have Y:=(b.s 3).2;have m:=(b.r 0).1;have E:=(b.r 1).1;have A:=(b.r 2).1;have u:=(b.r 3).1;have H:=(b.r 0).2;have X:=(b.r 1).2;have O:=(b.r 2).2;have R:=(b.r 3).2;have t:=Qc ((k.o _ _).trans (c.mono (k.o _ _).size));have z:Hid (∀ x,(d.setCell ⟨w.heap.size,2,none⟩ x).cell? ⟨l,0,none⟩=some (.int .i64 0)):=fun x=>(World.cell?_setCell_other _ _ _ _ (by simp)).trans j
  have C:Hid (∀ x,(d.setCell ⟨w.heap.size,2,none⟩ x).cell? ⟨D,0,none⟩=some (.int .i64 2)):=fun x=>(World.cell?_setCell_other _ _ _ _ (by simp)).trans i
  clear c b j i
  go_wp2_with fail
  refine(G.o _ _ _ _ _ _ (z.o _) (C.o _)).mono ?_;rintro e L ⟨rfl,rfl⟩;rw[B.o];go_wp2;refine bodyPost_ret (v:=.agg #[.int .i64 kind,.slice ao n cap,.bool true,.int .i64 g]) (by simp[results,Tryz.results123,go_sem,m,E,A,u]) rfl ?_
  exact⟨rfl,(((((t.o.setCell zL _).setCell (Nat.le_succ _) _).setCell (Nat.le_succ _) _).setCell (Nat.le_succ _) _).setCell (Nat.le_succ _) _)⟩
end Go.Proofs.YtnahjngbneicaaaGreatDoor
