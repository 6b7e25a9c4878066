import Derived.Test.YtnahjngbneicaaaGreatDoorPack15
namespace Go.Proofs.YtnahjngbneicaaaGreatDoor
set_option linter.unusedSimpArgs false
open _root_.Go.Proofs.Tryz
open List (length_map map_cons map_nil)
set_option maxRecDepth 100000
open Go.RowKit Go.ChangeShapes
variable {w:World} {base cap m:Nat} {l:List SOp} {v:Value} {b:Array Oper} {o:Oper} {a:Act} {K:Act->World->Prop} {Q:Exit->Act->World->Prop} {E:Prop}
abbrev zae:=@List.getElem_cons_zero
abbrev Zlr:=SOp × Value × Value × Value
def ZwO (x:Zlr):Array Value:=#[.int .i64 x.1.kind,.int .i64 x.1.many,.int .i64 x.1.n,.int .i64 x.1.op.code,.int .i64 x.1.op.a,.int .i64 x.1.op.b,x.2.1,x.2.2.1,x.2.2.2]
def Yk:List Zlr->List Value
 | []=>[]
 | c::l=>(ZwO c).toList++Yk l
theorem Gg:∀ l:List Zlr,(Yk l).length=l.length*9
 | []=>rfl
 | c::l=>by
  rw[Yk,zdb,Gg l,zcb];show 9+_=_;omega
theorem ZgP:∀ a b:List Zlr,Yk (a++b)=Yk a++Yk b
 | [],_=>rfl
 | c::l,b=>by rw[zcq,Yk,ZgP l b,Yk,zcr]
theorem Zdd:∀ (l:List Zlr) (j k:Nat) (a:j<l.length),k<9->(Yk l)[j*9+k]?=(ZwO l[j])[k]?
 | c::l,0,k,_,hk=>by
  rw[Yk,zc7,za9,zbg (by show k<9;exact hk)]
  simp
 | c::l,j+1,k,a,hk=>by
  have e:(j+1)*9+k=(ZwO c).toList.length+(j*9+k):=by show _=9+_;omega
  rw[Yk,e,zbs (by omega),zcf,Zdd l j k (by simpa using a) hk]
  rfl
structure ZoX (w:World) (x:Zlr):Prop where
 rk:RdI w x.2.1 x.1.keep
 rr:RdR w x.2.2.1 x.1.recs
 rb:Rd w x.2.2.2 x.1.b
 i0:I64 x.1.kind
 i1:I64 x.1.many
 i2:I64 x.1.n
 io:ZyL x.1.op
theorem ZoX.below {w':World} {x:Zlr} (h:ZoX w x) {B:Nat} (b:Below B w w') (a:w.heap.size<=B):ZoX w' x:=⟨h.rk.below b a,h.rr.below b a,h.rb.below b a,h.i0,h.i1,h.i2,h.io⟩
theorem ZoX.one {x:Zlr} (h:ZoX w x):∀ u ∈ (ZwO x).toList,u.oneCell'=true:=fun u a=>by
 obtain⟨_,_,c,-⟩:=h.rk;obtain⟨_,_,b,-⟩:=h.rr;obtain⟨_,_,d,-⟩:=h.rb;unfold ZwO at a;rw[c,b,d] at a;simp only [zbd,zc3,zfk] at a;rcases a with rfl | rfl | rfl | rfl | rfl | rfl | rfl | rfl | rfl <;> rfl
theorem ZgQ (l:List Zlr) (h:∀ x ∈ l,ZoX w x):∀ u ∈ Yk l,u.oneCell'=true:=by
 induction l with
 | nil=>intro u hu;cases hu
 | cons c l a=>
  intro u hu;rw[Yk] at hu;rcases za2.1 hu with hu | hu
  ·exact(h c zbp).one u hu
  ·exact a (fun x b=>h x (za6 _ b)) u hu
theorem Zug {α:Type} {p:Nat->α->Prop} (h:∀ i,i<m->∃ o,p i o):∃ L:List α,L.length=m∧∀ i (a:i<L.length),p i L[i]:=by
 induction m with
 | zero=>exact⟨[],rfl,fun i a=>absurd a (zcg _)⟩
 | succ m c=>
  obtain⟨L,b,d⟩:=c fun i a=>h i (by omega)
  obtain⟨o,f⟩:=h m (by omega)
  refine⟨L++[o],by simp[b],fun i a=>?_⟩
  by_cases e:i<L.length
  ·rw[List.getElem_append_left e]
   exact d i e
  ·have:i=L.length:=by simp at a;omega
   subst this;rw[List.getElem_append_right zL];simp only [zf8,zae];rw[b];exact f
theorem RdS.rows {ao:Option Addr} {n:Nat} (h:RdS w (.slice ao n cap) l):
 ∃ L:List Zlr,L.map Prod.fst=l∧(∀ x ∈ L,ZoX w x)∧L.length=n∧∀ a,ao=some a->∀ j u,(Yk L)[j]?=some u->w.cell? (a.add j)=some u:=by
 obtain⟨J,M,z,N,P,O,A⟩:=h;simp only [zbb] at z;obtain⟨rfl,rfl,rfl⟩:=z
 obtain⟨L,F,t⟩:=Zug (m:=l.length) (p:=fun i (x:Zlr)=>l[i]?=some x.1∧∃ b f,ao=some ⟨b,f,none⟩∧ZoB w b (f+i*9) x.1 x.2.1 x.2.2.1 x.2.2.2) (fun i g=>by
  obtain⟨b,f,G,C,E,e,c⟩:=A i _ (za4 g)
  exact⟨(l[i],G,C,E),za4 g,b,f,e,c⟩)
 refine⟨L,?_,fun x I=>?_,F,fun a H j u y=>?_⟩
 ·apply zek
  intro i;rw[zfr];by_cases g:i<L.length
  ·rw[za4 g,(t i g).1]
   rfl
  ·rw[zbw (by omega),zbw (by omega)]
   rfl
 ·obtain⟨i,g,rfl⟩:=zem.1 I
  obtain⟨-,b,f,-,c⟩:=t i g;exact⟨c.rk,c.rr,c.rb,c.i0,c.i1,c.i2,c.io⟩
 ·have K:j<L.length*9:=by
   have:=(zbr.1 y).1;rw[Gg] at this;exact this
  have v:j / 9<L.length:=by omega
  have q:j % 9<9:=zfm _ (by decide)
  have D:j / 9*9+j % 9=j:=by omega
  have d:=Zdd L (j / 9) (j % 9) v q;rw[D,y] at d;obtain⟨-,b,f,e,c⟩:=t (j / 9) v;rw[H] at e
  injection e with e
  subst e;rw[zbn];have B:f+j=f+j / 9*9+j % 9:=by omega
  rw[B];generalize j % 9=k at q d;generalize f+j / 9*9=o at c
  match k,q with
  | 0,_=>rw[zc2,c.c0];exact d.symm
  | 1,_=>rw[c.c1];exact d.symm
  | 2,_=>rw[c.c2];exact d.symm
  | 3,_=>rw[c.c3];exact d.symm
  | 4,_=>rw[c.c4];exact d.symm
  | 5,_=>rw[c.c5];exact d.symm
  | 6,_=>rw[c.c6];exact d.symm
  | 7,_=>rw[c.c7];exact d.symm
  | 8,_=>rw[c.c8];exact d.symm
theorem ZrL:(prog.info? 55).map (fun i=>(i.zero,i.size,i.bytes))=some (some (.agg #[.int .i64 0,.int .i64 0,.int .i64 0,.int .i64 0,.int .i64 0,.int .i64 0,.slice none 0 0,.slice none 0 0,.slice none 0 0]),9,120):=by kernel_rfl
def ZwP (w:World) (v:Value) (L:List Zlr):Prop:=w.ownsRow 0 55 9 v L.length (Yk L)
theorem ZwP.rd {L:List Zlr} (h:ZwP w v L) (n:∀ x ∈ L,ZoX w x):RdS w v (L.map Prod.fst):=by
 rcases h.2 with ⟨d,l⟩ | ⟨g,cap,cur,d,z,q,i,m,y,t⟩
 ·have u:L=[]:=zao l
  subst u;exact⟨none,0,d,za0 _,zap _,fun _=>rfl,(fun j x h=>by simp at h)⟩
 ·refine⟨some ⟨g,0,none⟩,cap,by rw[length_map];exact d,by rw[length_map];exact i,m,(fun e=>by cases e),fun j x b=>?_⟩
  rw[zfr] at b
  have c:j<L.length:=by
   apply zca;intro c;rw[zbw (by omega)] at b
   cases b
  rw[za4 c] at b;obtain rfl:=zaq b;have A:=Gg L
  have key:∀ k,k<9->w.cell? ⟨g,0+j*9+k,none⟩=(ZwO L[j])[k]?:=fun k p=>by
   have f:=Zdd L j k c p;rw[<-t,zdl,zab (by omega),zb2] at f
   rw[za9,zas w g _ _ _ _ q];exact f
  have a:=n L[j] (zcp c);exact⟨g,0,_,_,_,rfl,key 0 (by decide),key 1 (by decide),key 2 (by decide),key 3 (by decide),key 4 (by decide),key 5 (by decide),key 6 (by decide),key 7 (by decide),key 8 (by decide),a.rk,a.rr,a.rb,a.i0,a.i1,a.i2,a.io⟩
theorem ZjL (w:World) (ty:TypeId) (ao:Option Addr) (n cap:Nat) (L:List Zlr) (d:L.length=n) (y:∀ x ∈ L,ZoX w x) (p:∀ a,ao=some a->∀ j u,(Yk L)[j]?=some u->w.cell? (a.add j)=some u) (B:ao=none->cap=0) (D:n<=cap) (C:n<=1172812402926):
 ∃ v' w',(Builtin.append_ #[22,22] ty #[.slice none 0 0,.slice ao n cap]).run prog w=.ok v' w'∧ZwP w' v' L∧Below w.heap.size w w'∧(∀ k,v'.ownBlock=some k->w.heap.size<=k):=by
 obtain⟨l,m,t,q,z⟩:=zbx ZrL;have g:w.ownsRow 0 55 9 (.slice none 0 0) 0 []:=⟨rfl,.inl ⟨rfl,rfl⟩⟩
 cases ao with
 | none=>
  have A:=B rfl;subst A;have hl:L=[]:=zao (by omega)
  subst hl;have v:n=0:=d.symm;subst v;have f:=zc6 (P:=prog) w 0 22 ty 55 l 9 underlying22 m (.slice none 0 0) 0 [] g;exact⟨_,w,f,g,zac _ _,fun k b=>by cases b⟩
 | some a=>
  obtain⟨v',w',f,i,c,_,hl⟩:=zdf (P:=prog) w 0 22 ty 55 l _ 9 120 underlying22 m t q z rfl (by decide) (.slice none 0 0) 0 [] g a n cap (Yk L)
   (by rw[Gg,d]) (p a rfl) (ZgQ L y) (by unfold maxLen;omega) (by omega) (zap _)
  rw[za9,zev] at i;refine⟨v',w',f,by unfold ZwP;rw[d];exact i,⟨c.os,c.tape,c.output,c.size,fun k b=>c.block k b (fun e=>by cases e)⟩,fun k b=>?_⟩
  rcases hl with hl | hl
  ·rw[hl] at b;cases b
  ·rw[hl] at b
   have:=zaq b;omega
theorem Zkn (w:World) (ty:TypeId) (v:Value) (L:List Zlr) (h:ZwP w v L) (x:Zlr) (p:ZoX w x) (R:Nat) (m:Bk 55 w R (ZwO x)) (q:L.length<=1172812402926):
 ∃ v' w',(Builtin.append_ #[22,22] ty #[v,.slice (some ⟨R,0,none⟩) 1 1]).run prog w=.ok v' w'∧ZwP w' v' (L++[x])∧w.grownBy w' v.ownBlock∧(v'.ownBlock=v.ownBlock∨v'.ownBlock=some w.heap.size):=by
 obtain⟨f,l,b,a,k⟩:=zbx ZrL
 obtain⟨v',w',d,e,i,_,n⟩:=zdf (P:=prog) w 0 22 ty 55 f _ 9 120 underlying22 l b a k rfl (by decide) v L.length (Yk L) h
  ⟨R,0,none⟩ 1 1 (Yk [x]) (Gg [x]) (fun j u c=>by
   rw[zbn,za9,zas w R j _ 55 (0,0) m]
   simpa[Yk] using c) (ZgQ [x] (fun y g=>by rw[zaw.1 g];exact p)) (by unfold maxLen;omega) (by omega) (zap _)
 refine⟨v',w',d,?_,i,n⟩;unfold ZwP;rw[zdb,ZgP];exact e
theorem Zcw {E:Prop}
 (v:o.guard=none) (s x:Operand) (y:o.op=Op.call { callee:=Callee.builtin Builtin.append,args:=#[s,x],argTypes:=#[22,22] })
 (ao:Option Addr) (n cap:Nat) (L:List Zlr) (c:a.eval s=.slice none 0 0) (A:a.eval x=.slice ao n cap) (i:L.length=n) (q:∀ x ∈ L,ZoX w x) (e:∀ a,ao=some a->∀ j u,(Yk L)[j]?=some u->w.cell? (a.add j)=some u) (f:ao=none->cap=0) (g:n<=cap) (d:n<=1172812402926)
 (l:∀ v' w',ZwP w' v' L->Below w.heap.size w w'->(∀ k,v'.ownBlock=some k->w.heap.size<=k)->K (a.put o.dst v') w'):
 if Region.wanted o (yielded b a.tmps)=true then Oper.wp prog o a w K Q else E:=by
 have t:Region.wanted o (yielded b a.tmps)=true:=by simp[Region.wanted,v]
 rw[zab t];obtain⟨v',w',m,B,z,p⟩:=ZjL w o.type ao n cap L i q e f g d;unfold Oper.wp execOp;simp only [y,resolve,invoke,builtin,zbt,zbv,zbe,zch,map_cons,map_nil,c,A,m];exact l v' w' B z p
theorem Zde {E:Prop}
 (k:o.guard=none) (s x:Operand) (l:o.op=Op.call { callee:=Callee.builtin Builtin.append,args:=#[s,x],argTypes:=#[22,22] })
 (v:Value) (L:List Zlr) (d:a.eval s=v) (h:ZwP w v L) (c:Zlr) (f:ZoX w c) (R:Nat) (n:Bk 55 w R (ZwO c)) (p:a.eval x=.slice (some ⟨R,0,none⟩) 1 1) (e:L.length<=1172812402926)
 (g:∀ v' w',ZwP w' v' (L++[c])->w.grownBy w' v.ownBlock->K (a.put o.dst v') w'):
 if Region.wanted o (yielded b a.tmps)=true then Oper.wp prog o a w K Q else E:=by
 have j:Region.wanted o (yielded b a.tmps)=true:=by simp[Region.wanted,k]
 rw[zab j];obtain⟨v',w',i,q,m,-⟩:=Zkn w o.type v L h c f R n e;unfold Oper.wp execOp;simp only [l,resolve,invoke,builtin,zbt,zbv,zbe,zch,map_cons,map_nil,d,p,i];exact g v' w' q m
def SopV (w:World) (v:Value) (o:SOp):Prop:=∃ vk vr vb,v=.agg #[.int .i64 o.kind,.int .i64 o.many,.int .i64 o.n,.int .i64 o.op.code,.int .i64 o.op.a,.int .i64 o.op.b,vk,vr,vb]∧ZoX w (o,vk,vr,vb)
theorem ZyG {H:Type} {enc:TypeId × Value->H} {l:Bool} {r:Reach} {d:DataW H} {p:List MemPlace} (e:Value.okWide prog w r m 55 v) (h:DataW.Trod enc prog w base (fun _=>true) l 55 v d p):∃ s,SopV w v s:=by
 obtain⟨cs,rfl,x⟩:=Go.WideShapes.okWide_struct underlying55 e;obtain⟨fuel,t⟩:=h;obtain⟨o,n,g,k,a,f,c,q,i,u,b,j⟩:=ZbF t;refine⟨o,n,g,k,?_,f,c,q,i,u,b,j⟩;simp[Value.cells] at a;exact congrArg Value.agg (Array.ext' a)
theorem ZyH {H:Type} {enc:TypeId × Value->H} {fuel j:Nat} {i:Bool} {d:DataW H} {p:List MemPlace} {a:Option Addr} {c:Nat} {ts:List TypeId} {e:List (DataW H)}
 (h:DataW.trod enc prog w base (fun _=>true) i fuel 22 [.slice a c cap]=some (d,p)) (l:(DataW.weightsEach prog ts e).all (·<=reachBytes)=true) (k:ts[j]?=some 22) (g:e[j]?=some d):c<=1172812402926:=by
 rcases zgl underlying22 h with ⟨b,-⟩ | ⟨a',u,t,m,n,D,v,b,-,-,-,-,q,-⟩
 ·simp at b
  omega
 ·simp at b
  obtain⟨-,rfl,-⟩:=b;obtain rfl:=(Prod.mk.inj q).1;have f:=sized_slice l k g underlying22;rw[show prog.bytesOf 55=120 by kernel_rfl,length_map,List.length_range] at f
  unfold reachBytes at f;omega
theorem Zls {W W':World} {B:Nat} {x:Obj} {a:Option Nat} (h:Below B w W) (d:B<=W.heap.size) (b:(W.alloc x).grownBy W' a) (c:∀ k,a=some k->B<=k):Below B w W':=
 (h.alloc d x).grown b (by simp;omega) c
theorem ZrM {o:SOp} {L:List Zlr} {c b a:Value} (h:ZwP w v (L++[(o,c,b,a)])) (f:L.map Prod.fst=l) (g:∀ x ∈ L,ZoX w x) (e:ZoX w (o,c,b,a)):RdS w v (l++[o]):=by
 have d:=h.rd (fun x hx=>by
  rcases za2.1 hx with hx | hx
  ·exact g x hx
  ·rw[zaw.1 hx]
   exact e)
 rw[zc1,f] at d;exact d
end Go.Proofs.YtnahjngbneicaaaGreatDoor
