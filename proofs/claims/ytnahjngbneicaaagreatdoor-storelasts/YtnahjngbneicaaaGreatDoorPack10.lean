import Derived.Test.YtnahjngbneicaaaGreatDoorPack9
namespace Go.Proofs.YtnahjngbneicaaaGreatDoor
open _root_.Go.Proofs.Tryz
open List (drop_drop drop_left flatten_cons getElem_mem length_append length_cons length_drop length_take set_cons_succ set_cons_zero take_add_one take_length)
set_option maxHeartbeats 4000000
set_option maxRecDepth 100000
open Go.RowKit
variable {s:Sto} {w w':World} {C N R T f k n p pd q:Nat} {v:Value} {K:Nat->Prop} {d:Dk} {l:List Rec} {x:Int} {b:List UInt8} {L:List (List UInt8)}
theorem ZnG (e:Ent) (w:World):
 Calls prog 189 #[Zsj e] w fun x w'=>x=.returned (.bool (decide (Zbm e)))∧Below w.heap.size w w':=by
 have c:=ZZ (fun W=>Zig ⟨0,e.proc,e.seq,⟨0,0,0⟩,e.resp⟩ W)
 have b:decide (Qz ⟨0,e.proc,e.seq,⟨0,0,0⟩,e.resp⟩)=decide (Zbm e):=decide_eq_decide.2 (ZuG e);rw[b] at c;clear b;generalize decide (Zbm e)=D at *;obtain⟨p,s,r⟩:=e;unfold Zsj Zso at *
 dsimp only at *
 have a:Hid (∀ X,Below w.heap.size w (w.alloc X)):=fun X=>(Below.refl _ _).alloc zL X
 go_enter func189,ntmps189
 go_wp2_with fail
 refine(c.o _).mono ?_;rintro x g ⟨rfl,d⟩;have f:=ZZ ((a.o _).trans (d.mono (a.o _).size));clear d;go_wp2;go_ret;exact⟨rfl,f.o⟩
theorem ZnH (v:Value) (t:List Ent) (w:World) (hr:RdE w v t):
 Calls prog 140 #[v] w fun x w'=>x=.returned (.bool (decide (Zet t)))∧Below w.heap.size w w':=by
 obtain⟨va,vc,rfl,ab,M,-,Y,G⟩:=hr;have N:=ZZ G;have ai:(t.length:Int)<=9223372036854775807:=by unfold maxLen at M;omega
 obtain⟨D,m⟩:∃ D,D=decide (Zet t):=⟨_,rfl⟩;rw[<-m];have C:Hid (Gf t t.length->D=true):=ZZ (fun h=>by rw[m];exact decide_eq_true h)
 have Q:Hid (∀ k,k<t.length->¬ Gf t (k+1)->D=false):=ZZ (fun k L h=>by rw[m];exact decide_eq_false (fun z=>h (Gf.mono z L)))
 have O:=ZZ (fun e W=>ZnG e W)
 have J:Hid (ZhZ t 0=0):=ZZ rfl;have P:Hid (∀ k,ZhZ t (k+1)=(t.getD k Xi).proc+1):=ZZ (fun k=>rfl)
 have E:Hid (∀ k,Gf t (k+1)↔Gf t k∧Zbm (t.getD k Xi)∧ZhZ t k<=(t.getD k Xi).proc):=ZZ (fun k=>Zpf)
 clear m M ab G Y
 go_enter func140,ntmps140
 go_wp2
 go_loopw[3,8] (fun vl y wr=>∃ (k:Nat) (f:Int),y=.int .i64 (k:Int)∧vl=.int .i64 f∧k<=t.length∧Hid (f=ZhZ t k)∧Hid (Gf t k)∧Hid (Below w.heap.size w wr)) (fun _ y _=>t.length-(intOf y).toNat)
 case atStart=>exact⟨0,0,rfl,rfl,Nat.zero_le _,ZZ J.o.symm,ZZ (Gf.zero t),Below.refl _ _⟩
 case round=>
  obtain⟨k,f,rfl,rfl,L,af,I,l⟩:=hrel;by_cases i:k<t.length
  case neg=>
   obtain rfl:k=t.length:=by omega
   have HT:=ZZ (C.o I.out);go_wp2;go_ret;rw[HT.o];exact⟨rfl,l.out⟩
  have aj:(k:Int)<(t.length:Int):=by omega
  rcases N.o with h0 | ⟨c,ak,rfl,A⟩
  ·rw[h0] at i;simp at i
  obtain⟨c0,V,S⟩:=(A k i).keep (l.out.block c (A k i).lt);have b:=ZZ (E.o k);have j:=ZZ (Q.o k i);have H:=ZZ (P.o k);have d:=ZZ (fun W=>O.o (t.getD k Xi) W)
  rw[<-af.out] at b;obtain⟨e,K⟩:∃ e,e=t.getD k Xi:=⟨_,rfl⟩;rw[<-K] at c0 V S b H d;clear K A O E Q C P J N;obtain⟨a,B⟩:∃ a,a=decide (Zbm e):=⟨_,rfl⟩;rw[<-B] at d;have g:=ZZ B;have q:Hid (∀ X,Below w.heap.size w (wr.alloc X)):=ZZ (fun X=>l.out.alloc l.out.size X)
  have HX:Hid (∀ cs,Be (wr.alloc (.cells cs 85)) wr.heap.size cs):=ZZ (fun cs=>heap_alloc_new wr _)
  clear B;unfold Zsj at d
  have U:Hid (a=true->0<=e.proc∧e.proc<=64):=ZZ (fun h=>by
   have:Zbm e:=of_decide_eq_true (g.o.symm.trans h)
   exact⟨this.1,this.2.1⟩)
  by_cases ag:e.proc<f
  ·have u:=ZZ (j.o (fun h=>by have:=(b.o.1 h).2.2;omega))
   obtain⟨p,s,r⟩:=e
   dsimp only at *
   clear b j d g;go_wp2;go_ret;rw[u.o];exact⟨rfl,q.o _⟩
  ·have ae:f<=e.proc:=by omega
   have aa:Hid (a=true->Gf t (k+1)):=ZZ (fun h=>b.o.2 ⟨I.out,of_decide_eq_true (g.o.symm.trans h),ae⟩)
   have ad:Hid (a=false->D=false):=ZZ (fun h=>j.o (fun z=>by
    have T:=(b.o.1 z).2.1;have R:a=true:=g.o.trans (decide_eq_true T);rw[h] at R
    cases R))
   obtain⟨p,s,r⟩:=e
   dsimp only at *
   clear b j g
   go_wp2_with fail
   refine(d.o _).mono ?_;rintro x W1 ⟨rfl,n⟩;have F:=ZZ ((q.o _).trans (n.mono (q.o _).size));have ac:=ZZ ((HX.o _).below n zL);obtain⟨q0,f0⟩:=ac.o.cell 0;clear n d
   cases a with
   | false=>
    have u:=ZZ (ad.o rfl);go_wp2;go_ret;rw[u.o];exact⟨rfl,F.o⟩
   | true=>
    obtain⟨al,ah⟩:=U.o rfl;have Z:=ZZ (aa.o rfl);go_wp2;go_roundw
    case rel=>exact⟨k+1,p+1,by go_num,by go_num,by omega,ZZ H.o.symm,Z,F⟩
    case measure=>simp[intOf];omega
theorem ZqY (v:Value) (s:Q0) (w:World) (J:SnV w v s):
 Calls prog 98 #[v] w fun e w'=>e=.returned (.bool (decide (Z6 s)))∧Below w.heap.size w w':=by
 obtain⟨B,K,rfl,z,t,G,j,I⟩:=J;have a:Hid (∀ X,Below w.heap.size w (w.alloc X)):=fun X=>(Below.refl _ _).alloc zL X
 have O:Hid (∀ cs,Bn (w.alloc (.cells cs 41)) w.heap.size cs):=ZZ (fun cs=>heap_alloc_new w _)
 have q:=ZZ (fun W (h:Below w.heap.size w W)=>ZlG (.agg #[.int .i64 s.st.kind,B,.bool s.st.shut,.int .i64 s.st.eng]) s.st W ⟨B,rfl,z.below h zL,t,G⟩)
 have k:=ZZ (fun W (h:Below w.heap.size w W)=>ZnH K s.tab W (j.below h zL))
 obtain⟨Z,lc,N,-⟩:=z;obtain⟨S,tc,H⟩:=j.shape;subst N H;clear j;obtain⟨D,l⟩:∃ D,D=decide (Z6 s):=⟨_,rfl⟩;rw[<-l];have c:Hid (D=decide (Z6 s)):=ZZ l;have d:Hid (Z6 s↔(0<=s.idx∧s.idx<4611686018427387904)∧Yl s.st∧Zet s.tab):=ZZ Iff.rfl;obtain⟨m,f⟩:∃ m,m=decide (Yl s.st):=⟨_,rfl⟩;obtain⟨n,p⟩:∃ n,n=decide (Zet s.tab):=⟨_,rfl⟩;rw[<-f] at q;rw[<-p] at k;have y:=ZZ f;have A:=ZZ p;clear l f p t G I;obtain⟨idx,⟨kind,L,U,T⟩,V⟩:=s
 dsimp only at *
 by_cases F:0<=idx
 case neg=>
  have g:Hid (D=false):=ZZ (by rw[c.o];exact decide_eq_false (fun h=>F (d.o.1 h).1.1))
  go_enter func98,ntmps98
  go_wp2;go_ret;rw[g.o];exact⟨rfl,a.o _⟩
 by_cases E:idx<4611686018427387904
 case neg=>
  have g:Hid (D=false):=ZZ (by rw[c.o];exact decide_eq_false (fun h=>E (d.o.1 h).1.2))
  go_enter func98,ntmps98
  go_wp2;go_ret;rw[g.o];exact⟨rfl,a.o _⟩
 have C:Hid (D=(m && n)):=ZZ (by
  rw[c.o,y.o,A.o,<-Bool.decide_and]
  exact decide_eq_decide.2 (d.o.trans ⟨fun h=>h.2,fun h=>⟨⟨F,E⟩,h⟩⟩))
 clear c d y A
 go_enter func98,ntmps98
 go_wp2_with fail
 refine(q.o _ (a.o _)).mono ?_;rintro x R ⟨rfl,i⟩;have b:=ZZ ((a.o _).trans (i.mono (a.o _).size));have M:=ZZ ((O.o _).below i zL);obtain⟨Q,Y⟩:=M.o.cell 5;clear i q
 cases m with
 | false=>
  go_wp2;go_ret;rw[C.o];exact⟨rfl,b.o⟩
 | true=>
  go_wp2_with fail
  refine(k.o _ b.o).mono ?_;rintro x W2 ⟨rfl,u⟩;have P:=ZZ (b.o.trans (u.mono b.o.size));clear u k;go_wp2;go_ret;rw[C.o];exact⟨rfl,P.o⟩
theorem ZsG (t:Value) (A:List Ent) (E:Value) (B:List Ent) (w:World) (U:RdE w t A) (Q:RdE w E B):
 Calls prog 46 #[t,E] w fun e w'=>e=.returned (.bool (decide (A=B)))∧Below w.heap.size w w':=by
 obtain⟨aa,ac,rfl,Z,z,-,-,C⟩:=U;obtain⟨ba,bc,rfl,-,R,-,-,x⟩:=Q;have T:=ZZ C;have K:=ZZ x;obtain⟨D,f⟩:∃ D,D=decide (A=B):=⟨_,rfl⟩;rw[<-f];have u:Hid (A=B->D=true):=fun h=>by rw[f];exact decide_eq_true h
 have i:Hid (¬ A=B->D=false):=fun h=>by rw[f];exact decide_eq_false h
 have ad:=ZuJ;have ah:(A.length:Int)<=9223372036854775807:=by unfold maxLen at z;omega
 clear f C x z R;by_cases a:A.length=B.length
 case neg=>
  have O:((A.length:Int) != (B.length:Int))=true:=by rw[bne_iff_ne];omega
  have V:=ZZ (i.o (fun h=>a (by rw[h])))
  clear a
  go_enter func46,ntmps46
  go_wp2;go_ret;rw[V.o];exact⟨rfl,Below.refl _ _⟩
 have O:((A.length:Int) != (B.length:Int))=false:=by rw[bne_eq_false_iff_eq];omega
 have d:=ZZ a
 have G:Hid (A.take A.length=B.take A.length->D=true):=ZZ (fun h=>u.o (by
  rw[take_length,d.o,take_length] at h
  exact h))
 have v:Hid (∀ k,k<A.length->A.getD k Xi≠B.getD k Xi->D=false):=ZZ (fun k I h=>i.o (fun L=>h (by rw[L])))
 clear a u i
 go_enter func46,ntmps46
 go_wp2
 go_loopw[13] (fun j wr=>∃ k:Nat,j=.int .i64 (k:Int)∧k<=A.length∧Hid (A.take k=B.take k)∧Hid (∃ n,wr=w.drewN n)) (fun j _=>A.length-(intOf j).toNat)
 case atStart=>exact⟨0,rfl,Nat.zero_le _,rfl,⟨0,rfl⟩⟩
 case round=>
  obtain⟨k,rfl,I,F,M⟩:=hrel;obtain⟨nw,S⟩:=M.out;subst S;by_cases b:k<A.length
  case neg=>
   obtain rfl:k=A.length:=by omega
   have P:=ZZ (G.o F.out);go_wp2;go_ret;rw[P.o];exact⟨rfl,Xo (Below.refl _ _) _⟩
  rcases T.o with q | ⟨c,ag,rfl,H⟩
  ·rw[q] at b;simp at b
  rcases K.o with q | ⟨c',ae,rfl,y⟩
  ·have a:=d.o;rw[q] at a;simp at a;rw[a] at b;simp at b
  obtain⟨Y,X,c2⟩:=H k b;obtain⟨d0,d1,d2⟩:=y k (by have:=d.o;omega)
  have ab:(k:Int)<(A.length:Int):=by omega
  have af:(k:Int)<(B.length:Int):=by have:=d.o;omega
  have p:=ZZ (v.o k b);have l:Hid (A.getD k Xi=B.getD k Xi->A.take (k+1)=B.take (k+1)):=fun h=>by rw[Zks b,Zks (by have:=d.o;omega),F.out,h]
  clear H y G v;generalize A.getD k Xi=r at *;generalize B.getD k Xi=s at *;by_cases g:r=s
  ·subst g
   have J:=ZZ (l.o rfl);have m:=fun W=>ZuI W r r
   rw[Zsk] at m;clear p l
   go_upto_region 6 with fail
   go_quiet(fail)
   go_wp2;go_roundw
   case rel=>exact⟨k+1,by go_num,by omega,J,⟨_,rfl⟩⟩
   case measure=>simp[intOf];omega
  ·have N:=ZZ (p.o g)
   have m:=fun W=>ZuI W r s
   rw[ZuK g] at m;clear p l g
   go_upto_region 6 with fail
   go_quiet(fail)
   go_wp2;go_ret;rw[N.o];exact⟨rfl,Xo (Xo (Below.refl _ _) _) _⟩
theorem Zvu (E:Value) (a:Q0) (F:Value) (b:Q0) (w:World) (ha:SnV w E a) (hb:SnV w F b):
 Calls prog 20 #[E,F] w fun e w'=>e=.returned (.bool (decide (Zpm a b)))∧Below w.heap.size w w':=by
 obtain⟨N,R,rfl,K,I,H,k,hi⟩:=ha;obtain⟨vl',P,rfl,O,J,G,t,aa⟩:=hb;have g:Hid (∀ X Y,Below w.heap.size w ((w.alloc X).alloc Y)):=fun X Y=>((Below.refl _ _).alloc zL X).alloc (by simp) Y
 have ab:Hid (∀ cs c,Bn ((w.alloc (.cells cs 41)).alloc (.cells c 41)) w.heap.size cs):=fun cs c=>(Below.heap_alloc _ _ _ (by simp)).trans (heap_alloc_new w _)
 have T:Hid (∀ cs c,Bn ((w.alloc (.cells cs 41)).alloc (.cells c 41)) (w.heap.size+1) c):=fun cs c=>ZdR w _ _
 have p:=ZZ (fun W (h:Below w.heap.size w W)=>Zvt (.agg #[.int .i64 a.st.kind,N,.bool a.st.shut,.int .i64 a.st.eng]) a.st (.agg #[.int .i64 b.st.kind,vl',.bool b.st.shut,.int .i64 b.st.eng]) b.st W ⟨N,rfl,K.below h zL,I,H⟩ ⟨vl',rfl,O.below h zL,J,G⟩)
 have l:=ZZ (fun W (h:Below w.heap.size w W)=>ZsG R a.tab P b.tab W (k.below h zL) (t.below h zL))
 obtain⟨la,lc,ac,-⟩:=K;obtain⟨ao,am,U,-⟩:=O;obtain⟨ta,tc,Z⟩:=k.shape;obtain⟨ah,aq,V⟩:=t.shape;subst ac Z U V;obtain⟨D,u⟩:∃ D,D=decide (Zpm a b):=⟨_,rfl⟩;rw[<-u];have j:Hid (D=decide (Zpm a b)):=ZZ u;have v:Hid (Zpm a b↔Zmw a.st b.st∧a.idx=b.idx∧a.tab=b.tab):=ZZ Iff.rfl;obtain⟨m,q⟩:∃ m,m=decide (Zmw a.st b.st):=⟨_,rfl⟩;obtain⟨n,y⟩:∃ n,n=decide (a.tab=b.tab):=⟨_,rfl⟩;rw[<-q] at p;rw[<-y] at l;have B:=ZZ q;have M:=ZZ y;clear u q y I H hi J G aa k t;obtain⟨idx,⟨kind,L,aj,an⟩,al⟩:=a;obtain⟨z,⟨ag,L',ai,ap⟩,ak⟩:=b
 dsimp only at *
 by_cases d:idx=z
 case neg=>
  have af:(idx == z)=false:=beq_eq_false_iff_ne.2 d;have S:Hid (D=false):=ZZ (by rw[j.o];exact decide_eq_false (fun h=>d (v.o.1 h).2.1))
  clear d
  go_enter func20,ntmps20
  go_wp2;go_ret;rw[S.o];exact⟨rfl,g.o _ _⟩
 have af:(idx == z)=true:=beq_iff_eq.2 d
 have C:Hid (D=(m && n)):=ZZ (by
  rw[j.o,B.o,M.o,<-Bool.decide_and]
  exact decide_eq_decide.2 (v.o.trans ⟨fun h=>⟨h.1,h.2.2⟩,fun h=>⟨h.1,d,h.2⟩⟩))
 clear j v B M d
 go_enter func20,ntmps20
 go_wp2_with fail
 refine(p.o _ (g.o _ _)).mono ?_;rintro x W1 ⟨rfl,f⟩;have i:=ZZ ((g.o _ _).trans (f.mono (g.o _ _).size));have ae:=ZZ ((ab.o _ _).below f zL);have ad:=ZZ ((T.o _ _).below f zL);obtain⟨q5,f5⟩:=ae.o.cell 5;obtain⟨r5,g5⟩:=ad.o.cell 5;clear f p
 cases m with
 | false=>
  go_wp2;go_ret;rw[C.o];exact⟨rfl,i.o⟩
 | true=>
  go_wp2_with fail
  refine(l.o _ i.o).mono ?_;rintro x W2 ⟨rfl,A⟩;have Q:=ZZ (i.o.trans (A.mono i.o.size));clear A l;go_wp2;go_ret;rw[C.o];exact⟨rfl,Q.o⟩
def ZqZ (w:World) (s:Q0) (e:Ending) (w':World):Prop:=
 ∃ v',e=.returned (.tuple #[v',.int .i64 (if Z6 s then 0 else 1)])∧Own w' w.heap.size v' (if Z6 s then ZjA s else[])∧Below w.heap.size w w'
theorem Zaq:∀ (n:Nat) (l:List UInt8),l.length<=n->(Qf (Ya l)).length<=15*l.length
 | 0,l,h=>by
  have e:l=[]:=List.eq_nil_of_length_eq_zero (by omega)
  rw[e,Yn];simp[Qf]
 | n+1,l,h=>by
  by_cases e:l=[]
  ·rw[e,Yn]
   simp[Qf]
  ·have c:l.length≠0:=by simpa using e
   have b:=Zaq n (l.drop 64) (by rw[length_drop];omega)
   have a:=J7 (d:=l.take 64) (by rw[length_take];omega)
   rw[Zx e,Q8,length_append];rw[length_drop] at b;rw[length_take] at a;omega
theorem Zxt {s:Q0} (h:Z6 s):(ZjA s).length<=80000:=by
 have e:=Zay h;have a:s.idx.toNat<4611686018427387904:=by have:=h.1;omega
 have f:=Zey a (w:=Xt s) (by omega)
 have b:=J7 (d:=Zbn s.idx.toNat (Xt s)) (by omega)
 have c:=Zaq _ (Xt s) zL;unfold ZjA ZaI;rw[Q8,length_append];omega
theorem Zra (n:Int) (w:World) (t:-9223372036854775808<=n) (p:n<=9223372036854775807):
 Calls prog 134 #[.int .i64 n] w fun e w'=>e=.returned (.int .i64 (ZgE n:Nat))∧Below w.heap.size w w':=by
 by_cases h:0<=n∧n<=1048576
 ·obtain⟨b,c⟩:=h
  have a:Hid (ZgE n=(Lib.uvarint n.toNat).length+4+n.toNat):=if_pos ⟨b,c⟩
  have f:Hid (∀ w,Calls prog 132 #[.slice none 0 0,.int .i64 n] w fun e w'=>∃ ao cap,e=.returned (.slice ao (Lib.uvarint n.toNat).length cap)∧Below w.heap.size w w'):=by
   intro w;refine(ZbE (.slice none 0 0) [] n w (Rd.nil _) (by simp)).mono ?_
   have e:Zsd [] n=Lib.uvarint n.toNat:=if_pos ⟨by omega,by omega⟩
   rintro k w' ⟨v',rfl,g,j⟩;rw[e] at g;obtain⟨ao,cap,rfl,_⟩:=g.rd;exact⟨ao,cap,rfl,j⟩
  have m:(Lib.uvarint n.toNat).length<=3:=Zzy (by omega)
  generalize (Lib.uvarint n.toNat).length=q at *
  go_enter func134,ntmps134
  go_wp2_with fail
  refine(f.o _).mono ?_;rintro e l ⟨ao,cap,rfl,d⟩;have i:=ZZ d;clear d f;go_wp2;go_ret;refine⟨ZbV ?_,i.o⟩;rw[a.o];omega
 ·have a:Hid (ZgE n=0):=if_neg h
  by_cases b:n<0
  ·clear h
   go_enter func134,ntmps134
   go_wp2;go_ret;exact⟨ZbV (by rw[a.o];rfl),Below.refl _ _⟩
  ·have c:1048576<n:=by omega
   clear h
   go_enter func134,ntmps134
   go_wp2;go_ret;exact⟨ZbV (by rw[a.o];rfl),Below.refl _ _⟩
theorem ZyW (v:Value) (l:List UInt8) (w:World) (p:Rd w v l):
 Calls prog 217 #[v] w fun e w'=>e=.returned (.bool (decide (Gn l)))∧w'=w:=by
 obtain⟨ao,cap,rfl,x,q,t,c⟩:=p;clear t;have C:(l.length:Int)<=9223372036854775807:=by unfold maxLen at q;omega
 by_cases D:(l.length:Int)<10
 ·go_enter func217,ntmps217
  go_wp2
  go_loop [10] (fun i=>∃ k:Nat,i=.int .i64 k∧k<=l.length∧Hid (∀ j,j<k->128<=(l.getD j 0).toNat)) (fun i=>l.length-(intOf i).toNat)
  case atStart=>exact⟨0,rfl,by omega,fun j m=>by omega⟩
  case round=>
   obtain⟨k,rfl,B,h⟩:=hrel;by_cases d:k<l.length
   ·rcases c with c | ⟨b,A,rfl,n⟩
    ·subst c;simp at d
    ·have u:=n k d
     clear n;obtain⟨y,a⟩:∃ y,y=(l.getD k 0).toNat:=⟨_,rfl⟩;rw[<-a] at u;have g:Hid (y=(l.getD k 0).toNat):=a;clear a;by_cases z:(y:Int)<128
     ·go_wp2
      go_ret;refine⟨Zeg ?_,rfl⟩
      symm
      refine decide_eq_false fun f=>?_
      have:=f.2 k d;rw[<-g.o] at this;omega
     ·go_wp2
      go_round
      case rel=>
       refine⟨k+1,by go_num,by omega,fun j m=>?_⟩
       by_cases e:j=k
       ·rw[e,<-g.o];omega
       ·exact h.out j (by omega)
      case measure=>simp[intOf];omega
   ·go_wp2
    go_ret;refine⟨Zeg ?_,rfl⟩
    symm
    exact decide_eq_true ⟨by omega,fun j m=>h.out j (by omega)⟩
 ·go_enter func217,ntmps217
  go_wp2;go_ret;refine⟨Zeg ?_,rfl⟩
  symm
  exact decide_eq_false fun f=>by have:=f.1;omega
theorem Own.made0 (w:World) (B:Nat) (a:B<=w.heap.size):Own (w.alloc (.cells #[] 5)) B (.slice (some ⟨w.heap.size,0,none⟩) 0 0) []:=
 ⟨rfl,.inr ⟨w.heap.size,0,#[],rfl,a,heap_alloc_new w _,Nat.le_refl _,Nat.zero_le _,rfl,rfl⟩⟩
theorem Zvv (v:Value) (l:List UInt8) (w:World) (d:Rd w v l) (A:l.length<=70368744177664):
 Calls prog 113 #[v] w fun e w'=>∃ v',e=.returned v'∧Own w' w.heap.size v' l∧Below w.heap.size w w':=by
 have q:=ZZ d;obtain⟨ao,cap,rfl,j,k,a,f⟩:=d
 cases ao with
 | none=>
  have z:=a rfl;have i:l=[]:=List.eq_nil_of_length_eq_zero (by omega)
  subst i;subst z;clear f a;have p:∀ w,(binOp .eql 53 (.slice none 0 0) (.slice none 0 0)).run prog w=.ok (.bool true) w:=fun w=>run_eql_slice_nil w _ _ none 0 0 underlying53
  go_enter func113,ntmps113
  go_wp2;go_ret;exact⟨_,rfl,Own.nil _ _,Below.refl _ _⟩
 | some g=>
  clear f a j k;have p:∀ w,(binOp .eql 53 (.slice (some g) l.length cap) (.slice none 0 0)).run prog w=.ok (.bool false) w:=fun w=>run_eql_slice_nil w _ _ (some g) _ _ underlying53
  have x:=ZZ (Own.made0 w w.heap.size zL);have b:=ZZ ((Below.refl w.heap.size w).alloc zL (.cells #[] 5));have u:=ZZ (q.o.below b.o zL);have m:Hid (w.heap.size<=(w.alloc (.cells #[] 5)).heap.size):=b.o.size
  go_enter func113,ntmps113
  go_wp2_with(at_builtin;refine Xw _ rfl _ _ rfl w.heap.size _ [] rfl x.o _ l rfl u.o (by simp;omega) m.o ?_)
  intro n B h c;have t:=ZZ h;have y:=ZZ (b.o.trans c);clear h c;go_wp2;go_ret;exact⟨n,rfl,t.o,y.o⟩
theorem Zdj (v:Value) (l:List UInt8) (w:World) (M:Rd w v l):
 Calls prog 91 #[v] w fun e w'=>∃ v',e=.returned (.tuple #[v',.int .i64 ((Zyk l).2:Nat)])∧Own w' w.heap.size v' (Zyk l).1∧Below w.heap.size w w':=by
 have HR:=ZZ M;obtain⟨i0,hi,ab,ak,Y⟩:=info_parts Zlf;obtain⟨ao,cap,rfl,aw,ai,R,aa⟩:=M;clear R aa;have av:(l.length:Int)<=9223372036854775807:=by unfold maxLen at ai;omega
 by_cases h:(l.length:Int)<=1048576
 ·have a:Hid (Zyk l=(Ze l++Lib.leBytes 4 (Q2 0 (Ze l)),0)):=if_pos (by omega)
  have t:Hid (∀ w,Calls prog 132 #[.slice none 0 0,.int .i64 (l.length:Int)] w fun e w'=>∃ v',e=.returned v'∧Own w' w.heap.size v' (Lib.uvarint l.length)∧Below w.heap.size w w'):=by
   intro w;have:=ZbE (.slice none 0 0) [] (l.length:Int) w (Rd.nil _) (by simp)
   have e:Zsd [] (l.length:Int)=Lib.uvarint l.length:=if_pos ⟨by omega,by omega⟩
   rwa [e] at this
  have N:Hid (∀ w,Calls prog 134 #[.int .i64 (l.length:Int)] w fun e w'=>e=.returned (.int .i64 (ZgE (l.length:Int):Nat))∧Below w.heap.size w w'):=fun w=>Zra _ w (by omega) (by omega)
  have i:Hid (∀ v w,Rd w v (Ze l)->Calls prog 136 #[v] w fun e w'=>e=.returned (.int .u32 (Q2 0 (Ze l):Nat))∧Below w.heap.size w w'):=fun v w h=>ZlQ v _ w h
  have f:Hid (∀ w,Calls prog 135 #[.int .u32 (Q2 0 (Ze l):Nat)] w fun e w'=>∃ v',e=.returned v'∧Own w' w.heap.size v' (Lib.leBytes 4 (Q2 0 (Ze l)))∧Below w.heap.size w w'):=fun w=>ZhX _ w (ZmC _)
  have K:Hid (Ze l=Lib.uvarint l.length++l):=rfl;have ar:Hid ((Lib.leBytes 4 (Q2 0 (Ze l))).length=4):=Lib.leBytes_length 4 _;have b:Hid ((Lib.uvarint l.length).length<=3):=Zzy (by omega)
  have au:ZgE (l.length:Int)<=2000000:=by
   have e:ZgE (l.length:Int)=(Lib.uvarint l.length).length+4+l.length:=if_pos ⟨by omega,h⟩
   have:=b.o;rw[e];omega
  generalize ZgE (l.length:Int)=z at *;generalize Q2 0 (Ze l)=s at *;obtain⟨S,O⟩:∃ S:Int,S=(s:Int):=⟨_,rfl⟩;rw[<-O] at f i;clear O;generalize Lib.leBytes 4 s=q at *;generalize Lib.uvarint l.length=u at *;generalize Ze l=hd at *;have hh:=K.o;subst hh;clear K
  go_enter func91,ntmps91
  go_wp2_with fail
  refine(N.o _).mono ?_;rintro e W ⟨rfl,c⟩;have ag:=ZZ c;have y:=c.size;clear c N
  go_wp2_with(at_make;refine wpList_make_own _ rfl _ _ 53 rfl w.heap.size 5 i0 (.int .u8 0) 1 underlying53 hi ab ak _ _ _ z rfl rfl (by omega) (by rw[Y];omega) (by unfold maxLen;omega) y ?_)
  intro w2 H Q;have am:Hid (Own w2 w.heap.size (.slice (some ⟨W.heap.size,0,none⟩) 0 z) []):=H;have x:=ZZ (ag.o.grown Q y (fun k hk=>by cases hk))
  have ap:=x.o.size;clear H Q
  go_wp2_with fail
  refine(t.o _).mono ?_;rintro e w3 ⟨v3,rfl,E,g⟩;have C:=ZZ (x.o.trans (g.mono ap));have an:=ZZ E.rd;have ad:=ZZ (am.o.below g zL);have af:=C.o.size;clear E g t
  go_wp2_with(at_builtin;refine Xw _ rfl _ _ rfl w.heap.size _ [] rfl ad.o _ u rfl an.o (by have:=b.o;simp;omega) af ?_)
  intro U w4 J L;have m:=ZZ (C.o.trans L);have V:Hid (Own w4 w.heap.size U u):=J;have aq:=m.o.size;clear J L
  go_wp2_with(at_builtin;refine Xw _ rfl _ _ rfl w.heap.size _ u rfl V.o _ l rfl (HR.o.below m.o zL) (by have:=b.o;omega) aq ?_)
  intro v5 w5 D p;have F:=ZZ (m.o.trans p);have B:Hid (Own w5 w.heap.size v5 (u++l)):=D;have T:=F.o.size;clear D p
  go_wp2_with fail
  refine(i.o _ _ B.o.rd).mono ?_;rintro e w6 ⟨rfl,j⟩;have P:=ZZ (F.o.trans (j.mono T));have ac:=ZZ (B.o.below j zL);have ae:=P.o.size;clear j i
  go_wp2_with fail
  refine(f.o _).mono ?_;rintro e w7 ⟨v7,rfl,A,d⟩;have G:=ZZ (P.o.trans (d.mono ae));have ah:=ZZ A.rd;have Z:=ZZ (ac.o.below d zL);have X:=G.o.size;clear A d f
  go_wp2_with(at_builtin;refine Xw _ rfl _ _ rfl w.heap.size _ (u++l) rfl Z.o _ q rfl ah.o (by have:=b.o;have:=ar.o;simp;omega) X ?_)
  intro v8 w8 I n;have aj:=ZZ (G.o.trans n);have al:=ZZ I;clear I n;go_wp2;go_ret2;exact⟨v8,by rw[a.o];rfl,by rw[a.o];show Own _ _ _ (u++l++q);rw[List.append_assoc];exact al.o,aj.o⟩
 ·have a:Hid (Zyk l=([],5)):=if_neg (by omega)
  go_enter func91,ntmps91
  go_wp2;go_ret2;exact⟨_,by rw[a.o];rfl,by rw[a.o];exact Own.nil _ _,Below.refl _ _⟩
theorem ZlS {B B':Nat} {e:TypeId} {xs:List Value} (h:w.ownsRow B e k v n xs) (f:Below B' w w') (j:w.heap.size<=B'):w'.ownsRow B e k v n xs:=by
 obtain⟨i,a⟩:=h;refine⟨i,?_⟩;rcases a with a | ⟨g,cap,cur,d,c,b,r⟩
 ·exact .inl a
 ·have l:g<w.heap.size:=(Array.getElem?_eq_some_iff.1 b).1
  exact .inr ⟨g,cap,cur,d,c,by rw[f.block g (by omega)];exact b,r⟩
theorem ZlT (P:List (List UInt8)) (q:Nat) (a:q<P.length):Qf (P.take (q+1))=Qf (P.take q)++Qd (P.getD q []):=by
 have b:P.take (q+1)=P.take q++[P.getD q []]:=by
  rw[take_add_one,List.getElem?_eq_getElem a];simp[List.getD,a]
 rw[b,Zax,Q8];simp[Qf]
theorem Zct (P:List (List UInt8)) (q:Nat):(Qf (P.take q)).length<=(Qf P).length:=by
 have h:Qf P=Qf (P.take q)++Qf (P.drop q):=by rw[<-Zax,List.take_append_drop]
 rw[h,length_append];omega
theorem ZpH (s:Q0):ZaI s=Zbn s.idx.toNat (Xt s)::Ya (Xt s):=rfl
theorem Zvw (s:Q0):Xt s≠[]:=by
 unfold Xt;intro h;have a:=(List.append_eq_nil_iff.1 h).1;have b:=congrArg List.length a;have:=J2 (Zeq s.st).length;rw[List.length_nil] at b;omega
theorem ZpI (v:Value) (s:Q0) (w:World) (hs:SnV w v s):
 Calls prog 56 #[v] w fun e w'=>ZqZ w s e w':=by
 have ai:=ZZ hs;obtain⟨vl,vt,rfl,hl,hk,he,ht,hi⟩:=hs;obtain⟨la,lc,a0,-⟩:=id hl;obtain⟨ta,tc,a1⟩:=ht.shape;subst a0 a1;have J:=ZZ (fun W (h:Below w.heap.size w W)=>ZqY _ s W (ai.o.below h zL))
 obtain⟨S,A⟩:∃ S,S=w.alloc (.cells #[.int .i64 s.idx,.int .i64 s.st.kind,.slice la s.st.L.length lc,.bool s.st.shut,.int .i64 s.st.eng,.slice ta s.tab.length tc] 41):=⟨_,rfl⟩;have k:Hid (Below w.heap.size w S):=ZZ (by rw[A];exact(Below.refl _ _).alloc zL _)
 have f:Hid (Bn S w.heap.size #[.int .i64 s.idx,.int .i64 s.st.kind,.slice la s.st.L.length lc,.bool s.st.shut,.int .i64 s.st.eng,.slice ta s.tab.length tc]):=ZZ (by rw[A];exact heap_alloc_new w _)
 obtain⟨E,-⟩:=f.o.cell 0;obtain⟨p1,-⟩:=f.o.cell 1;obtain⟨p2,-⟩:=f.o.cell 2;obtain⟨p3,-⟩:=f.o.cell 3;obtain⟨p4,-⟩:=f.o.cell 4;obtain⟨p5,-⟩:=f.o.cell 5;unfold ZqZ;clear hl hk he ht hi;by_cases d:Z6 s
 case neg=>
  rw[if_neg d,if_neg d];rw[decide_eq_false d] at J;clear d
  go_enter func56,ntmps56
  go_upto_region 1 with fail
  rw[<-A];clear A
  go_wp2_with fail
  refine(J.o _ k.o).mono ?_;rintro x W1 ⟨rfl,n⟩;have u:=ZZ (k.o.trans (n.mono k.o.size));clear n;go_wp2;go_ret2;exact⟨_,rfl,Own.nil _ _,u.o⟩
 rw[if_pos d,if_pos d];rw[decide_eq_true d] at J;have aC:=ZZ (fun W (h:Below w.heap.size w W)=>ZpG _ s W (ai.o.below h zL) d)
 have ba:=Zay d;have aI:=d.1;have aq:=ZZ (fun v1 W h=>ZjO s.idx v1 (Xt s) W h)
 have U:=ZZ (fun W=>Zxs s.idx ((Xt s).length:Int) (Q2 0 (Xt s)) W aI ⟨by omega,by omega⟩ (ZmC _))
 rw[Int.toNat_natCast,Zxr] at U;have ax:=ZZ (fun v1 W h=>ZkB v1 (Xt s) W h (by omega))
 have I:Hid (ZaI s=Zbn s.idx.toNat (Xt s)::Ya (Xt s)):=ZZ (ZpH s);have Y:Hid (∀ x ∈ ZaI s,x.length<=1048576):=ZZ (Zki d);have am:Hid ((Qf (ZaI s)).length<=80000):=ZZ (Zxt d);have aG:Hid (ZjA s=Qf (ZaI s)):=ZZ rfl;rw[aG.o]
 have au:Hid (0<(Ya (Xt s)).length∧(Ya (Xt s)).length<=5000):=ZZ (by
  constructor
  ·rw[Zx (Zvw s)]
   simp
  ·have h1:=Zct (ZaI s) (ZaI s).length
   have h2:∀ (L:List (List UInt8)),(∀ x ∈ L,1<=x.length)->L.length<=L.flatten.length:=fun L hL=>by
    induction L with
    | nil=>simp
    | cons x t ih=>
     have K:=hL x (by simp)
     have h4:=ih (fun y hy=>hL y (by simp[hy]))
     rw[length_cons,flatten_cons,length_append];omega
   have K:=h2 (Ya (Xt s)) (fun x hx=>(Zfw _ _ x zL hx).2)
   rw[ZdI _ _ zL] at K
   omega)
 generalize Xt s=R at *;generalize Zbn s.idx.toNat R=m at *;generalize Ya R=PW at *;generalize Q2 0 R=CR at *;obtain⟨b,aO⟩:∃ b,b=ZaI s:=⟨_,rfl⟩;rw[<-aO] at I Y am ⊢;clear aO aG d;obtain⟨CI,ay⟩:∃ CI:Int,CI=(CR:Int):=⟨_,rfl⟩;rw[<-ay] at aq U;clear ay ai
 go_enter func56,ntmps56
 go_upto_region 1 with fail
 rw[<-A];clear A
 go_wp2_with fail
 refine(J.o _ k.o).mono ?_;rintro x W1 ⟨rfl,n⟩;have u:=ZZ (k.o.trans (n.mono k.o.size));have i:=ZZ (f.o.below n zL);clear n J E p1 p2 p3 p4 p5 f k;obtain⟨E,-⟩:=i.o.cell 0;obtain⟨p1,-⟩:=i.o.cell 1;obtain⟨p2,-⟩:=i.o.cell 2;obtain⟨p3,-⟩:=i.o.cell 3;obtain⟨p4,-⟩:=i.o.cell 4;obtain⟨p5,-⟩:=i.o.cell 5
 go_wp2_with fail
 refine(aC.o _ u.o).mono ?_;rintro x W2 ⟨v2,rfl,ap,V⟩;have aa:=ZZ (u.o.trans (V.mono u.o.size));have aV:=ZZ (i.o.below V zL);have ah:=ZZ ap.rd;obtain⟨a2,c2,bd⟩:∃ a c,v2=.slice a R.length c:=by obtain⟨a,c,h,-⟩:=ap.rd;exact⟨a,c,h⟩
 subst bd;clear ap V aC E p1 p2 p3 p4 p5 i u;obtain⟨E,-⟩:=aV.o.cell 0
 go_wp2_with fail
 refine(aq.o _ _ ah.o).mono ?_;rintro x W3 ⟨rfl,af⟩;have ad:=ZZ (aa.o.trans (af.mono aa.o.size));have aL:=ZZ (ah.o.below af zL);clear af aq aV E aa ah
 go_wp2_with fail
 refine(U.o _).mono ?_;rintro x j ⟨v4,rfl,al,an⟩;have aY:=ZZ (ad.o.trans (an.mono ad.o.size));have X:=ZZ (aL.o.below an zL);have aN:=ZZ al.rd;obtain⟨B,z,a8⟩:∃ a c,v4=.slice a m.length c:=by obtain⟨a,c,h,-⟩:=al.rd;exact⟨a,c,h⟩
 subst a8;clear al an U ad aL;have T:Hid (Below j.heap.size j (j.alloc (.cells #[.slice B m.length z] 53))):=ZZ ((Below.refl _ _).alloc zL _);have aF:Hid ((j.alloc (.cells #[.slice B m.length z] 53)).ownsRow j.heap.size 53 1 (.slice (some ⟨j.heap.size,0,none⟩) 1 1) 1 [.slice B m.length z]):=ZZ (World.ownsRow_lit j #[.slice B m.length z] 1 zL (by unfold maxLen;omega) rfl)
 go_wp2_with fail
 refine(ax.o _ _ (X.o.below T.o zL)).mono ?_;rintro x W6 ⟨v6,xs,rfl,aj,P,av⟩;have ar:=ZZ (T.o.trans (av.mono T.o.size));have aK:=ZZ (ZlS aF.o av zL);have O:=ZZ P;have aH:=ZZ aj;clear av P aF T ax;rcases aj.2 with ⟨-,hn⟩ | ⟨g6,a9,bk,P,-⟩
 ·have:=au.o
  omega
 subst P;clear aj;have aD:=ar.o.size;have a5:=au.o
 go_wp2_with(at_builtin;refine Zam _ rfl _ _ rfl j.heap.size _ 1 [.slice B m.length z] rfl aK.o _ PW.length a9 xs rfl O.o.1 (World.ownsRow.cells aH.o rfl) O.o.one (by omega) aD ?_)
 intro v7 l ac aB;have Q:=ZZ (ar.o.trans aB);have aw:=ZZ (aY.o.trans (Q.o.mono aY.o.size));have aX:=ZZ (aN.o.below Q.o zL);have aW:=ZZ (X.o.below Q.o zL);have aT:=ZZ ac;have ab:b.length=1+PW.length:=by rw[I.o,length_cons];omega
 have bm:(b.length:Int)<=100000:=by omega
 have bb:Hid (∀ q,q<b.length->∃ x,([Value.slice B m.length z]++xs)[q]?=some x∧Rd l x (b.getD q [])):=ZZ (fun q C=>by
  cases q with
  | zero=>
   refine⟨_,rfl,?_⟩;rw[I.o];exact aX.o
  | succ q=>
   obtain⟨x,h1,h2,K⟩:=O.o.2 q (by omega)
   refine⟨x,by simpa using h1,?_⟩
   rw[I.o]
   exact K l aW.o)
 rcases ac.2 with ⟨-,hn⟩ | ⟨g7,bn,bl,a3,-⟩
 ·omega
 subst a3;rw[<-ab] at aT;clear ac aB aX aW aK O aN X ar Q au a5 aD aH;have bf:Hid (∀ q,q<b.length->Qf (b.take (q+1))=Qf (b.take q)++Qd (b.getD q [])):=ZZ (fun q C=>ZlT b q C)
 have aR:Hid (∀ q,(Qf (b.take q)).length<=80000):=ZZ (fun q=>Nat.le_trans (Zct b q) am.o)
 have bi:Hid (∀ q,q<b.length->(b.getD q []).length<=1048576):=ZZ (fun q C=>Y.o _ (by rw[show b.getD q []=b[q] by simp[List.getD,C]];exact getElem_mem C))
 rw[<-ab];clear ab I Y ba aI am;go_wp2
 go_loopw[6,27] (fun vo vi wr=>∃ q:Nat,vi=.int .i64 (q:Int)∧q<=b.length∧Hid (Own wr l.heap.size vo (Qf (b.take q)))∧Hid (Below l.heap.size l wr)) (fun _ vi _=>b.length-(intOf vi).toNat)
 case atStart=>exact⟨0,rfl,Nat.zero_le _,ZZ (Own.nil _ _),Below.refl _ _⟩
 case round=>
  obtain⟨q,rfl,C,H,p⟩:=hrel;by_cases ae:q<b.length
  case neg=>
   obtain rfl:q=b.length:=by omega
   rw[take_length] at H;go_wp2;go_ret2;exact⟨_,rfl,H.out.mono aw.o.size,aw.o.trans (p.out.mono aw.o.size)⟩
  have bj:(q:Int)<(b.length:Int):=by omega
  obtain⟨x,aU,ak⟩:=bb.o q ae;have M:=World.ownsRow.cells aT.o (g:=g7) rfl q x aU;rw[Addr.add_lit] at M;have aM:wr.cell? ⟨g7,0+q,none⟩=some x:=(p.out.cell (World.block_lt_of_cell? l ⟨g7,0+q,none⟩ M)).trans M;rw[Nat.zero_add] at aM;have az:=ZZ (ak.below p.out zL)
  have aJ:Hid (Zyk (b.getD q [])=(Qd (b.getD q []),0)):=ZZ (by
   unfold Zyk
   rw[if_pos (bi.o q ae)])
  have ag:=ZZ (bf.o q ae);have be:=ZZ (aR.o q);have ao:=ZZ (aR.o (q+1));have N:=ZZ (Zdj x (b.getD q []) wr az.o);rw[aJ.o] at N;rw[ag.o] at ao
  dsimp only at N
  obtain⟨xa,xc,bg⟩:∃ a c,x=.slice a (b.getD q []).length c:=by obtain⟨a,c,h,-⟩:=ak;exact⟨a,c,h⟩
  subst bg;clear aU ak M aJ az;generalize Qd (b.getD q [])=F at *;generalize b.getD q []=D at *;obtain⟨G,hG⟩:∃ G,G=Qf (b.take q):=⟨_,rfl⟩;rw[<-hG] at H ag be ao;clear hG
  go_wp2_with fail
  refine N.o.mono ?_;rintro e W8 ⟨v8,rfl,aS,Z⟩;have a7:=ZZ aS.rd;have aA:=ZZ (H.out.below Z zL);have aP:=ZZ (p.out.trans (Z.mono p.out.size));have a6:=ZZ aP.o.size;have bc:Hid (G.length+F.length<=70368744177664):=ZZ (by have:=ao.o;rw[length_append] at this;omega)
  clear aS Z N H p aM
  go_wp2_with(at_builtin;refine Xw _ rfl _ _ rfl l.heap.size _ G rfl aA.o _ F rfl a7.o bc.o a6.o ?_)
  intro v9 W9 aE aQ;have aZ:=ZZ aE;have bh:=ZZ (aP.o.trans aQ);clear aE aQ aA;go_wp2;go_roundw
  case rel=>exact⟨q+1,by go_num,by omega,ZZ (by rw[ag.o];exact aZ.o),bh⟩
  case measure=>simp[intOf];omega
theorem ZpJ (w:World) (h:SD K w pd p s d N T) (i:∀ k,K k->k<w.heap.size) (v:ZpE s):
 Calls prog 26 #[ptr p] w fun e w'=>Jz K w pd p (Yf (s,d)) (N+4) T e w':=by
 have b:=ZZ (ZeO w h i v);unfold Yf;obtain⟨r,n⟩:∃ r,r=Q5 (s,d):=⟨_,rfl⟩;rw[<-n] at b ⊢;have A:=ZZ i;obtain⟨R,l⟩:∃ R,R=if r.2=0 then(({ r.1.1 with cur:=0 },r.1.2),(0:Int)) else r:=⟨_,rfl⟩
 rw[<-l];have a:=ZZ l;clear h i n l v;obtain⟨⟨q,F⟩,c⟩:=r
 dsimp only at a
 unfold Jz at b
 dsimp only at b
 go_enter func26,ntmps26
 go_wp2_with fail
 refine b.o.mono ?_;rintro e z ⟨rfl,g,j⟩;have m:=ZZ g;have t:=ZZ j;have y:Hid (∀ k,K k->k<z.heap.size):=ZZ (fun k x=>Nat.lt_of_lt_of_le (A.o k x) j.size)
 obtain⟨⟨-,-,D,-⟩,fz⟩:=g.cells;have C:=fz 12;clear g j b fz;by_cases f:c=0
 ·subst f
  rw[if_pos rfl] at a;have u:=ZZ (m.o.setHead (s':={ q with cur:=0 }) y.o 12 (.int .i64 0) rfl rfl rfl (fun _=>rfl))
  generalize q.cur=B at *;go_wp2;go_ret;rw[a.o];exact⟨rfl,u.o.1,t.o.trans u.o.2 (fun _ _ h=>h)⟩
 ·rw[if_neg f] at a
  have E:(c != 0)=true:=by rw[bne_iff_ne];exact f
  clear f;go_wp2;go_ret;rw[a.o];exact⟨rfl,m.o,t.o⟩
theorem Zvx {l:List Int} (a:k<l.length) (b:l.getD k 0=x):x ∈ l:=by
 rw[<-b];exact Zir a
theorem ZsH (v:Value) (l:List Int) (x:Int) (w:World) (u:RdI w v l):
 Calls prog 144 #[v,.int .i64 x] w fun e w'=>(∃ k:Int,e=.returned (.int .i64 k)∧((0<=k∧x ∈ l)∨(k=-1∧x ∉ l)))∧w'=w:=by
 obtain⟨ao,cap,rfl,z,m,-,-,n⟩:=u;have I:(l.length:Int)<=9223372036854775807:=by unfold maxLen at m;omega
 have C:=ZZ n;clear n m z
 go_enter func144,ntmps144
 go_wp2
 go_loop [8] (fun i=>∃ k:Nat,i=.int .i64 k∧k<=l.length∧Hid (∀ j,j<k->l.getD j 0≠x)) (fun i=>l.length-(intOf i).toNat)
 case atStart=>exact⟨0,rfl,Nat.zero_le _,fun j f=>by omega⟩
 case round=>
  obtain⟨k,rfl,F,q⟩:=hrel;by_cases b:k<l.length
  ·rcases C.o with E | ⟨g,H,rfl,t⟩
   ·rw[E] at b;simp at b
   have B:=t k b;clear t;have D:=ZZ b;obtain⟨y,c⟩:∃ y,y=l.getD k 0:=⟨_,rfl⟩;rw[<-c] at B;have p:=ZZ c;clear c;by_cases a:x=y
   ·subst a
    go_wp2;go_ret;exact⟨⟨(k:Int),rfl,.inl ⟨by omega,Zvx D.o p.o.symm⟩⟩,rfl⟩
   ·have G:(x == y)=false:=beq_eq_false_iff_ne.2 a
    have d:=ZZ a;clear a;go_wp2
    go_round
    case rel=>
     refine⟨k+1,by go_num,by omega,fun j f=>?_⟩
     by_cases e:j=k
     ·rw[e,<-p.o];exact fun h=>d.o h.symm
     ·exact q.out j (by omega)
    case measure=>simp[intOf];omega
  ·have d:Hid (x ∉ l):=ZZ (fun A=>by
    obtain⟨j,f,e⟩:=List.getElem_of_mem A
    exact q.out j (by omega) (by simp[List.getD,f,e]))
   go_wp2;go_ret;exact⟨⟨-1,rfl,.inr ⟨rfl,d.o⟩⟩,rfl⟩
theorem ZlU (v:Value) (l:List Int) (x:Int) (w:World) (f:RdI w v l):
 Calls prog 106 #[v,.int .i64 x] w fun e w'=>e=.returned (.bool (decide (x ∈ l)))∧w'=w:=by
 have g:=ZZ (ZsH v l x w f);obtain⟨ao,cap,rfl,-⟩:=f;obtain⟨b,d⟩:∃ b,b=decide (x ∈ l):=⟨_,rfl⟩;rw[<-d];have c:=ZZ d;clear d
 go_enter func106,ntmps106
 go_wp2_with fail
 refine g.o.mono ?_;rintro e i ⟨⟨k,rfl,h⟩,rfl⟩;clear g;rcases h with ⟨j,a⟩ | ⟨rfl,a⟩
 ·rw[decide_eq_true a] at c
  clear a;go_wp2;go_ret;rw[c.o];exact⟨rfl,rfl⟩
 ·rw[decide_eq_false a] at c
  clear a;go_wp2;go_ret;rw[c.o];exact⟨rfl,rfl⟩
theorem ZsI (w:World) (h:SD K w pd p s d N T) (z:∀ k,K k->k<w.heap.size) (H:N<=1000000) (Z:T<=1000000000):
 Calls prog 63 #[ptr p] w fun e w'=>Jz K w pd p (Yy (s,d)) (N+2) T e w':=by
 obtain⟨⟨S,-⟩,-⟩:=h.cells
 have y:Hid (Calls prog 28 #[ptr pd] w fun e w'=>∃ v,e=.returned v∧Qs w' w.heap.size v (Qk d)∧Below w.heap.size w w'):=ZZ (by
  obtain⟨F,M,I,L,⟨L1,P,x,-⟩,-⟩:=h
  exact ZeC w P x H)
 have V:Hid (∀ n ∈ Qk d,I64 n):=ZZ (by
  obtain⟨F,M,I,L,⟨L1,P,x,-⟩,-⟩:=h;intro n hn;have:=Zbg x n hn
  exact⟨by omega,by omega⟩)
 have q:=ZZ h;have Y:=ZZ z;have l:Hid (∀ W,Below w.heap.size w W->Calls prog 69 #[ptr pd,.int .i64 1] W fun e w'=>Jz K W pd p (Xm (fun d=>Qj d 1) (s,d)) (N+2) T e w'):=ZZ (fun W C=>(q.o.below C).step (fun d=>Qj d 1) (fun k Q=>Nat.lt_of_lt_of_le (Y.o k Q) C.size) (fun F X _=>Zkk 1 ⟨by decide,by decide⟩ _ X H Z))
 obtain⟨R,t⟩:∃ R,R=Yy (s,d):=⟨_,rfl⟩;rw[<-t];have g:=ZZ t;clear h z t
 go_enter func63,ntmps63
 go_wp2_with fail
 refine y.o.mono ?_;rintro e j ⟨O,rfl,m,i⟩;have B:=ZZ i;have f:=ZZ (ZlU O (Qk d) 1 j (m.rd V.o))
 obtain⟨a1,n1,c1,aa⟩:∃ a n c,O=.slice a n c:=by
  obtain⟨a,c,U⟩:=m.shape;exact⟨a,_,c,U⟩
 subst aa;have G:Hid (Ql (fun k=>¬ K k) w j):=ZZ (Ql.ofBelow i)
 obtain⟨⟨d0,-⟩,-⟩:=(q.o.below i).cells;clear m i y S;by_cases b:1 ∈ Qk d
 ·rw[decide_eq_true b] at f
  have u:Hid (R=Xm (fun d=>Qj d 1) (s,d)):=ZZ (by rw[g.o];unfold Yy;rw[if_pos b])
  have J:=ZZ (l.o j B.o);rw[<-u.o] at J;clear b g l
  go_wp2_with fail
  refine f.o.mono ?_;rintro e W2 ⟨rfl,rfl⟩
  go_wp2_with fail
  refine J.o.mono ?_;rintro e W3 ⟨rfl,A,D⟩;have E:=ZZ (And.intro A D);clear A D;go_wp2;go_ret;exact⟨rfl,E.o.1,G.o.trans E.o.2 (fun _ _ h=>h)⟩
 ·rw[decide_eq_false b] at f
  have u:Hid (R=((s,d),0)):=ZZ (by rw[g.o];unfold Yy;rw[if_neg b])
  clear b g l
  go_wp2_with fail
  refine f.o.mono ?_;rintro e W2 ⟨rfl,rfl⟩;go_wp2;go_ret;rw[u.o];exact⟨rfl,(q.o.below B.o).mono (by omega) zL,G.o⟩
theorem ZpK (w:World) (h:SD K w pd p s d N T) (b:∀ k,K k->k<w.heap.size) (n:w.cell? ⟨R,0,none⟩=some (ptr p)):
 Calls prog 58 #[.pointer (some ⟨R,0,none⟩)] w fun e w'=>Jz K w pd p (Xm (fun d=>X3 d 1) (s,d)) (N+2) T e w':=by
 have g:=ZZ (h.step (fun d=>X3 d 1) b (fun F j _=>ZqM 1 ⟨by decide,by decide⟩ _ j))
 obtain⟨⟨l,-⟩,-⟩:=h.cells;obtain⟨r,c⟩:∃ r,r=Xm (fun d=>X3 d 1) (s,d):=⟨_,rfl⟩
 rw[<-c] at g ⊢;clear h b c
 go_enter func58,ntmps58
 go_wp2_with fail
 refine g.o.mono ?_;rintro e m ⟨rfl,a,f⟩;have i:=ZZ (And.intro a f);clear a f;go_wp2;go_ret;exact⟨rfl,i.o⟩
theorem ZpL (w:World) (h:SD K w pd p s d N T) (y:∀ k,K k->k<w.heap.size) (C:w.cell? ⟨R,0,none⟩=some (ptr p)) (D:K R) (E:N<=1000000) (X:T<=1000000000):
 Calls prog 60 #[.pointer (some ⟨R,0,none⟩)] w fun e w'=>Jz K w pd p (Gs (s,d)) (N+2) T e w':=by
 have m:=ZZ h;have q:=ZZ y;have i:=ZZ D
 have P:Hid (∀ W,Below w.heap.size w W->Calls prog 50 #[ptr p,.int .i64 3] W fun e w'=>e=.returned (.int .i64 (Xs d 3))∧Below w.heap.size w w'):=ZZ (fun W b=>by
  obtain⟨F,M,I,L,h1,Q,-⟩:=m.o.below b;refine(Zgn 3 W Q h1 E (by decide) (by decide)).mono ?_
  rintro e w' ⟨rfl,f⟩
  exact⟨rfl,b.trans (f.mono b.size)⟩)
 have G:Hid (I64 (Xs d 3)):=ZZ (by
  obtain⟨F,M,I,L,⟨L1,g1,Z,-⟩,-⟩:=h;have f:∀ n ∈ Xk (Qk d) 3,0<=n∧n<1048576:=fun n u=>Zbg Z n (List.mem_filter.1 u).1
  unfold Xs;generalize Xk (Qk d) 3=l at f ⊢;by_cases h0:l.length=0
  ·rw[List.eq_nil_of_length_eq_zero h0]
   exact⟨by decide,by decide⟩
  ·have e:l.getD (l.length-1) (3-2)=l[l.length-1]'(by omega):=by simp[List.getD,show l.length-1<l.length by omega]
   have:=f _ (getElem_mem (show l.length-1<l.length by omega))
   rw[e]
   exact⟨by omega,by omega⟩)
 have H:Hid (∀ W,Below w.heap.size w W->Calls prog 61 #[ptr pd,.int .i64 1,.int .i64 (Xs d 3)] W fun e w'=>Jz K W pd p (Gs (s,d)) (N+2) T e w'):=ZZ (fun W b=>(m.o.below b).step (fun d=>Ji d 1 (Xs d 3)) (fun k O=>Nat.lt_of_lt_of_le (q.o k O) b.size) (fun F V _=>ZrZ 1 (Xs d 3) ⟨by decide,by decide⟩ G.o _ V E X))
 have g:Hid (∀ W,Below w.heap.size w W->W.cell? ⟨R,0,none⟩=some (ptr p)∧W.cell? ⟨p,0,none⟩=some (ptr pd)):=ZZ (fun W b=>by
  obtain⟨⟨t,-⟩,-⟩:=(m.o.below b).cells
  exact⟨(b.cell (p:=⟨R,0,none⟩) (q.o R i.o)).trans C,t⟩)
 have S:Hid (∀ W W' (r:SDk × Int),Below w.heap.size w W->SD K W' pd p r.1.1 r.1.2 (N+2) T->Ql (fun k=>¬ K k) W W'->W'.cell? ⟨R,0,none⟩=some (ptr p)∧W'.cell? ⟨p,0,none⟩=some (ptr pd)):=ZZ (fun W W' (r:SDk × Int) b hs ho=>by
  obtain⟨⟨t,-⟩,-⟩:=hs.cells
  exact⟨(World.cell?_of_block (a:=⟨R,0,none⟩) (ho.block R (Nat.lt_of_lt_of_le (q.o R i.o) b.size) (fun u=>u i.o))).trans (g.o W b).1,t⟩)
 have J:Hid (Below w.heap.size w w.drew):=ZZ (Below.refl _ _).drew;obtain⟨c9,c0⟩:=g.o w (Below.refl _ _);obtain⟨r,z⟩:∃ r,r=Gs (s,d):=⟨_,rfl⟩;rw[<-z] at H ⊢;generalize Xs d 3=nn at *;clear h y z C D G
 go_enter func60,ntmps60
 go_upto_region 1 with fail
 go_region_held(fun W=>W.cell? ⟨R,0,none⟩=some (ptr p)∧W.cell? ⟨p,0,none⟩=some (ptr pd))
  (first | (with_reducible exact g.o _ J.o) | (with_reducible exact g.o _ c.o) | (with_reducible exact U.o))
  (first
   | (go_at_call 50;refine(P.o _ J.o).mono ?_;rintro e A ⟨rfl,B⟩;have c:=ZZ B;clear B)
   | (go_at_call 61;refine(H.o A c.o).mono ?_;rintro e Y ⟨rfl,v,j⟩;have x:=ZZ (And.intro v j);have U:=ZZ (S.o A Y r c.o v j);clear v j))
 all_goals
  go_wp2;go_ret;exact⟨rfl,x.o.1,(Ql.ofBelow c.o).trans x.o.2 (fun _ _ h=>h)⟩
theorem ZfQ (h:q<l.length):l.take (q+1)=l.take q++[l.getD q Qi]:=by
 rw[take_add_one];simp[List.getD,h]
theorem ZnI:∀ (l:List Rec) (i:Int) (j:Nat),Xl i l->j<l.length->(l.getD j Qi).idx=i+j
 | r::t,i,0,h,_=>by
  have:=h.1;simp[List.getD,this]
 | r::t,i,j+1,h,hj=>by
  have:=ZnI t (i+1) j h.2 (by simpa using hj)
  simp only [List.getD,List.getElem?_cons_succ] at this ⊢;rw[this];omega
theorem ZfR:∀ (l:List Rec) (i:Int) (r:Rec),Xl i (l++[r])↔Xl i l∧r.idx=i+l.length
 | [],i,r=>by simp[Xl]
 | s::t,i,r=>by
  rw[List.cons_append,Xl,Xl,ZfR t (i+1) r,length_cons,and_assoc];constructor
  ·rintro⟨h1,h2,h3⟩
   exact⟨h1,h2,by omega⟩
  ·rintro⟨h1,h2,h3⟩
   exact⟨h1,h2,by omega⟩
theorem ZkC:∀ (l:List Rec) (i:Int) (k:Nat),Xl i l->Xl i (l.take k)
 | _,_,0,_=>by simp[Xl]
 | [],_,k+1,_=>by simp[Xl]
 | r::t,i,k+1,h=>by
  rw[List.take_succ_cons];exact⟨h.1,ZkC t (i+1) k h.2⟩
def ZjQ (l:List Rec) (k:Nat):Prop:=(∀ r ∈ l.take k,Qz r)∧Xl (l.headD Qi).idx (l.take k)
theorem ZsJ (l:List Rec):ZjQ l 0:=⟨fun r h=>by simp at h,by simp[Xl]⟩
theorem ZsK (b:k<l.length):ZjQ l (k+1)↔ZjQ l k∧Qz (l.getD k Qi)∧(l.getD k Qi).idx=(l.headD Qi).idx+k:=by
 unfold ZjQ;rw[ZfQ b,ZfR];have c:(l.take k).length=k:=by simp;omega
 rw[c];constructor
 ·rintro⟨h1,h2,h3⟩
  exact⟨⟨fun r a=>h1 r (by simp[a]),h2⟩,h1 _ (by simp),h3⟩
 ·rintro⟨⟨h1,h2⟩,h3,h4⟩
  refine⟨fun r a=>?_,h2,h4⟩
  rcases List.mem_append.1 a with h | h
  ·exact h1 r h
  ·simp only [List.mem_singleton] at h
   rw[h];exact h3
theorem Zvy (h:ZjQ l l.length) (b:1<=l.length) (a:l.length<=256):Yc l:=by
 unfold ZjQ at h;rw[take_length] at h;exact⟨b,a,h.1,h.2⟩
theorem Yc.part (h:Yc l) (k:Nat):ZjQ l k:=⟨fun r a=>h.2.2.1 r (List.mem_of_mem_take a),ZkC l _ k h.2.2.2⟩
theorem Zgr {o:Opn} (h:Ge o):(X6 o).length<=30:=by
 have d:=Zwv (ZaM h).1;have a:=Zwv (ZaM h).2;have e:0<=o.code:=h.1;have c:o.code<=10:=h.2.1;have b:=Gh (n:=o.code.toNat) (by omega)
 unfold X6;rw[length_append,length_append];omega
theorem ZkD {b:List Rec} (e:∀ r ∈ b,Qz r) {r:Rec} (a:Qz r):(Zf b r).length<=60:=by
 have d:=Zeu e a;have c:=ZaX a;have j:=Zgr a.1;obtain⟨_,_,_,_,_,f,i,_⟩:=a;have k:=Gh (n:=r.proc.toNat) (by omega)
 have g:=Zwv d;have h:=Zwv c;unfold Zf;simp only [length_append];omega
theorem ZnJ:∀ (l a:List Rec),(∀ r ∈ a,Qz r)->(∀ r ∈ l,Qz r)->(Yg a l).length<=60*l.length
 | [],_,_,_=>by simp[Yg]
 | r::t,a,hp,hl=>by
  have d:=ZkD hp (hl r (by simp))
  have c:=ZnJ t (a++[r]) (fun s b=>by
   rcases List.mem_append.1 b with h | h
   ·exact hp s h
   ·simp at h;rw[h];exact hl r (by simp)) (fun s b=>hl s (by simp[b]))
  rw[Yg,length_append,length_cons];omega
def ZlV (w:World) (l:List Rec) (e:Ending) (w':World):Prop:=
 ∃ v',e=.returned (.tuple #[v',.int .i64 (if Yc l then 0 else 1)])∧Own w' w.heap.size v' (if Yc l then X9 l else[])∧Below w.heap.size w w'
theorem Below.allocs {a:World} (h:Below a.heap.size a w) (X:Obj):Below a.heap.size a (w.alloc X):=h.alloc h.size X
theorem Zxu (h:n<128):Lib.uvarint n=[n.toUInt8]:=Lib.uvarint_small h
theorem ZfS {v:Nat} (q:1<=v) (m:v<=3) (l:k<6) (d:f<4611686018427387904):Z0 (Xq v k f)=.ok (v,k,f):=by
 have j:=Lib.uvarint_pos v;have n:=Lib.uvarint_pos k;have i:=Lib.uvarint_pos f
 have c:Qb ((Xq v k f).drop 1)=(v,(Lib.uvarint v).length):=by
  unfold Xq;rw[List.drop_succ_cons,List.drop_zero];exact Q4 _ _ (by omega)
 have a:(Xq v k f).drop (1+(Lib.uvarint v).length)=Lib.uvarint k++Lib.uvarint f:=by
  unfold Xq;rw[Nat.add_comm,List.drop_succ_cons,drop_left]
 have g:Qb ((Xq v k f).drop (1+(Lib.uvarint v).length))=(k,(Lib.uvarint k).length):=by
  rw[a];exact Q4 _ _ (by omega)
 have b:(Xq v k f).drop (1+(Lib.uvarint v).length+(Lib.uvarint k).length)=Lib.uvarint f:=by
  rw[<-drop_drop,a,drop_left]
 have e:Qb ((Xq v k f).drop (1+(Lib.uvarint v).length+(Lib.uvarint k).length))=(f,(Lib.uvarint f).length):=by
  rw[b];have:=Q4 f [] d;rw[List.append_nil] at this;exact this
 have p:(Xq v k f).length=1+(Lib.uvarint v).length+(Lib.uvarint k).length+(Lib.uvarint f).length:=by
  unfold Xq;simp only [length_cons,length_append];omega
 unfold Z0;simp only [c,g,e];rw[if_neg (by rintro(h | h);exact absurd h (by unfold Xq;simp);exact h rfl),if_neg (by omega),if_neg (by omega),if_neg (by omega)]
theorem ZcP {v:Nat} (e:v<=3) (d:k<6) (a:f<4611686018427387904):(Xq v k f).length<=40:=by
 have c:(Lib.uvarint v).length<=10:=Lib.uvarint_length64 (by omega)
 have g:(Lib.uvarint k).length<=10:=Lib.uvarint_length64 (by omega)
 have b:(Lib.uvarint f).length<=10:=Lib.uvarint_length64 (by omega)
 unfold Xq;simp only [length_cons,length_append];omega
theorem ZpM {d:List Rec} (h:∀ r ∈ d,Qz r) {r:Rec} (e:Qz r):(Zf d r).length<=60:=by
 have g:=Zeu h e;have f:=ZaX e;obtain⟨c,_,_,_,_,i,n,_⟩:=e;have k:(Lib.uvarint r.proc.toNat).length<=10:=Lib.uvarint_length64 (by omega)
 have m:(Lib.uvarint (Lib.zigzag (r.seq-Q7 d r.proc))).length<=10:=Lib.uvarint_length64 (Zbd g);have q:(Lib.uvarint r.op.code.toNat).length<=10:=Lib.uvarint_length64 (by have:=c.1;have:=c.2.1;omega)
 have p:(Lib.uvarint (Lib.zigzag r.op.a)).length<=10:=Lib.uvarint_length64 (Zbd (ZaM c).1);have l:(Lib.uvarint (Lib.zigzag r.op.b)).length<=10:=Lib.uvarint_length64 (Zbd (ZaM c).2);have j:(Lib.uvarint (Lib.zigzag r.resp)).length<=10:=Lib.uvarint_length64 (Zbd f);unfold Zf X6;simp only [length_append];omega
theorem ZfT:∀ (l a:List Rec),(∀ r ∈ a,Qz r)->(∀ r ∈ l,Qz r)->(Yg a l).length<=60*l.length
 | [],_,_,_=>by simp[Yg]
 | r::t,a,hp,hl=>by
  have c:=hl r (by simp)
  have e:=ZpM hp c
  have d:=ZfT t (a++[r]) (fun s b=>by
   rcases List.mem_append.1 b with h | h
   ·exact hp s h
   ·rw[List.mem_singleton.1 h];exact c) (fun s b=>hl s (by simp[b]))
  rw[Yg,length_append,length_cons];omega
theorem Zcl {d:List UInt8} {v:Nat} (h:Z0 d=.ok (v,k,f)):d=Xq v k f∧1<=v∧v<=3∧k<6∧f<4611686018427387904:=by
 unfold Z0 at h;simp only at h;split at h
 ·cases h
 rename_i n
 split at h
 ·cases h
 rename_i B
 split at h
 ·cases h
 rename_i y
 split at h
 ·cases h
 rename_i z
 simp only [Except.ok.injEq,Prod.mk.injEq] at h;obtain⟨x,q,g⟩:=h;have b:=Z2 (l:=d.drop 1) (by omega)
 have e:=Z2 (l:=d.drop (1+(Qb (d.drop 1)).2)) (by omega)
 have a:=Z2 (l:=d.drop (1+(Qb (d.drop 1)).2+(Qb (d.drop (1+(Qb (d.drop 1)).2))).2)) (by omega)
 have C:f<4611686018427387904:=by
  rw[<-g];rcases Xf (d.drop (1+(Qb (d.drop 1)).2+(Qb (d.drop (1+(Qb (d.drop 1)).2))).2)) with h | h
  ·rw[h];decide
  ·exact h.1
 rw[x] at b y;rw[q] at e z;rw[g] at a;generalize (Qb (d.drop 1)).2=i at *;generalize (Qb (d.drop (1+i))).2=j at *;generalize (Qb (d.drop (1+i+j))).2=m at *;refine⟨?_,by omega,by omega,by omega,C⟩
 cases d with
 | nil=>exact absurd (.inl rfl) n
 | cons c t=>
  have D:c=108:=by
   have:=fun h=>n (.inr h)
   simpa using Decidable.not_not.1 this
  have w:(c::t).drop 1=t:=rfl;have p:(c::t).drop (1+i)=t.drop i:=by rw[Nat.add_comm,List.drop_succ_cons]
  have A:(c::t).drop (1+i+j)=(t.drop i).drop j:=by rw[<-drop_drop,p]
  rw[w] at b;rw[p] at e;rw[A] at a
  have u:m=((t.drop i).drop j).length:=by
   have:1+i+j+m=(c::t).length:=Decidable.not_not.1 (fun h=>B (.inr (.inr (.inr h))))
   rw[length_cons] at this;rw[length_drop,length_drop];omega
  rw[u,take_length] at a;unfold Xq;rw[D,b,e,a,List.take_append_drop,List.take_append_drop]
def Zgs (k f:Int):Prop:=0<=k∧k<6∧0<=f∧f<4611686018427387904
instance (k f:Int):Decidable (Zgs k f):=by unfold Zgs;infer_instance
def Jj (v k f:Int):Int:=if 1<=v∧v<=3 then(if Zgs k f then 0 else 1) else 6
def ZgI (v k f:Int):List UInt8:=if 1<=v∧v<=3 then(if Zgs k f then Qd (Xq v.toNat k.toNat f.toNat) else[]) else[]
def Zrb (w:World) (v k f:Int) (e:Ending) (w':World):Prop:=
 ∃ v',e=.returned (.tuple #[v',.int .i64 (Jj v k f)])∧Own w' w.heap.size v' (ZgI v k f)∧Below w.heap.size w w'
theorem Rd.byte (w:World) (c:UInt8):Rd (w.alloc (.cells #[.int .u8 c.toNat] 5)) (.slice (some ⟨w.heap.size,0,none⟩) 1 1) [c]:=by
 refine⟨some ⟨w.heap.size,0,none⟩,1,rfl,Nat.le_refl _,by unfold maxLen;omega,(fun h=>by cases h),.inr ⟨w.heap.size,0,rfl,fun j a=>?_⟩⟩
 have e:j=0:=by simpa using a
 subst e;rw[cell_of_row _ w.heap.size 0 _ 5 (0,0) (heap_alloc_new w _)];rfl
theorem ZlW {l:List UInt8} (h:l.length<=1048576):Zyk l=(Qd l,0):=by
 unfold Zyk;rw[if_pos h]
theorem ZsL (h:q<L.length):L.take (q+1)=L.take q++[L.getD q []]:=by
 rw[take_add_one];simp[List.getD,h]
theorem RdL.at {ao:Option Addr} {cap:Nat} (h:RdL w (.slice ao n cap) L) (k:Nat) (c:k<L.length):
 ∃ b a x,ao=some ⟨b,a,none⟩∧(∀ W,Below w.heap.size w W->W.cell? ⟨b,a+k,none⟩=some x)∧∀ W,Below w.heap.size w W->Rd W x (L.getD k []):=by
 obtain⟨u,t,e,_,_,_,i⟩:=h;simp only [Value.slice.injEq] at e;obtain⟨rfl,_,rfl⟩:=e;rcases i with l | ⟨b,a,g,q⟩
 ·rw[l] at c;simp at c
 ·obtain⟨x,f,m⟩:=q k c
  have j:b<w.heap.size:=World.block_lt_of_cell? w ⟨b,a+k,none⟩ f;exact⟨b,a,x,g,fun W d=>(d.cell (p:=⟨b,a+k,none⟩) j).trans f,fun W d=>m.below d zL⟩
theorem Zcu:∀ (L:List (List UInt8)) (k:Nat),(L.take k).flatten.length<=L.flatten.length
 | [],k=>by simp
 | x::L,0=>by simp
 | x::L,k+1=>by
  have:=Zcu L k;rw[List.take_succ_cons,flatten_cons,flatten_cons,length_append,length_append];omega
theorem Zrc (h:q<L.length):L.getD q [] ∈ L:=by
 have e:L.getD q []=L[q]:=by simp[List.getD,h]
 rw[e];exact getElem_mem h
theorem Zdw (B:List (List UInt8)):(B.map Qd).flatten=Qf B:=by
 unfold Qf;rw[List.flatMap_def]
theorem Zxv (l:List UInt8):(Qb l).1<4611686018427387904:=by
 rcases Xf l with h | h
 ·rw[h];decide
 ·exact h.1
theorem Zxw (W:World) (ao:Option Addr) (cap:Nat) (l:List UInt8) (b:Rd W (.slice ao l.length cap) l) (n:Nat) (d:n<=l.length):Rd W (.slice (if cap=n then ao else Option.map (fun x=>x.add n) ao) (l.length-n) (cap-n)) (l.drop n):=by
 have f:l.length<=cap:=by
  obtain⟨a,c,e,h,-⟩:=b;simp only [Value.slice.injEq] at e;omega
 have h:=b.mid n l.length cap (by omega) (by omega) (by omega) (by omega)
 rw[List.take_of_length_le (by rw[length_drop];omega)] at h
 simpa[sliced] using h
theorem ZpN (W:World) (ao:Option Addr) (l:List UInt8) (cap:Nat) (_hlc:l.length<=cap) (i:Int) (n:Nat) (a:i=(n:Int)) (b:n<=l.length):
 (Instr.sliceAt 53 (.slice ao l.length cap) (some (.int .i64 i)) none none).run prog W=.ok (sliced ao n l.length cap 1) W:=by
 subst a;rw[run_sliceAt_slice W 53 _ _ _ _ Xu,run_slice_l W 53 ao l.length cap Xu .i64 (n:Int) (by omega) (by omega),Jo,Zce]
 rfl
def ZaP (w:World) (b:List UInt8) (e:Ending) (w':World):Prop:=
 ∃ (vl:Value) (l:List Rec) (n:Int),e=.returned (.tuple #[vl,.int .i64 n])∧RdR w' vl l∧DecB b l n∧Below w.heap.size w w'
theorem ZaP.none (h:∀ a,Yc a->X9 a≠b) (c:Below w.heap.size w w'):ZaP w b (.returned (.tuple #[.slice none 0 0,.int .i64 3])) w':=
 ⟨_,[],3,rfl,RdR.nil _,.inr ⟨rfl,rfl,h⟩,c⟩
theorem ZsM (h:Yc l):Qz (l.headD Qi):=by
 obtain⟨b,_,a,_⟩:=h
 match l,b with
 | r::u,_=>exact a r (by simp)
theorem ZpO (h:Yc l) {b:List UInt8} (d:X9 l=b):
 ((Qb b).1:Int)=(l.headD Qi).idx∧(Qb b).2≠0∧(Qb (b.drop (Qb b).2)).1=l.length∧(Qb (b.drop (Qb b).2)).2≠0∧b.drop ((Qb b).2+(Qb (b.drop (Qb b).2)).2)=Yg [] l:=by
 obtain⟨_,f,i,_⟩:=ZsM h;have g:=h.2.1;subst d;have c:Qb (X9 l)=((l.headD Qi).idx.toNat,(Lib.uvarint (l.headD Qi).idx.toNat).length):=Q4 _ _ (by omega)
 have a:(X9 l).drop (Lib.uvarint (l.headD Qi).idx.toNat).length=Lib.uvarint l.length++Yg [] l:=by
  unfold X9;rw[drop_left]
 have e:=Q4 l.length (Yg [] l) (by omega)
 rw[c];simp only;rw[a,e];refine⟨by omega,J2 _,rfl,J2 _,?_⟩
 rw[<-drop_drop,a,drop_left]
theorem Zym (w:World) (ao:Option Addr) (l:List UInt8) (cap:Nat) (d:Rd w (.slice ao l.length cap) l) (n:Nat) (b:n<=l.length):
 ∃ a c,Rd w (.slice a (l.drop n).length c) (l.drop n)∧∀ i:Int,i=(n:Int)->∀ W,(Instr.sliceAt 53 (.slice ao l.length cap) (some (.int .i64 i)) none none).run prog W=.ok (.slice a (l.drop n).length c) W:=by
 have h:=Zxw w ao cap l d n b
 have g:l.length<=cap:=by
  obtain⟨a,c,e,h,-⟩:=d;simp only [Value.slice.injEq] at e;omega
 refine⟨_,_,by rw[length_drop];exact h,fun i f W=>?_⟩
 rw[ZpN W ao l cap g i n f b,length_drop];simp[sliced]
theorem ZkE {d:List UInt8} (h:d=[]∨d.getD 0 0≠108):Z0 d=.error 3:=by
 unfold Z0;rw[if_pos h]
theorem ZsN {d:List UInt8} (h:¬ (d=[]∨d.getD 0 0≠108)) {v i k j f m:Nat} (c:Qb (d.drop 1)=(v,i)) (a:Qb (d.drop (1+i))=(k,j)) (b:Qb (d.drop (1+i+j))=(f,m)):
 Z0 d=if i=0∨j=0∨m=0∨1+i+j+m≠d.length then .error 3 else if v<1∨3<v then .error 6 else if 6<=k then .error 1 else .ok (v,k,f):=by
 unfold Z0;rw[if_neg h,c];simp only;rw[a];simp only;rw[b]
theorem ZaQ {r:Rec} (h:Qz r):Zcx r:=by
 have c:=ZaX h;obtain⟨a,f,g,j,d,e,i,_,_⟩:=h;have b:=ZaM a;exact⟨⟨by omega,by omega⟩,⟨by omega,by omega⟩,⟨by omega,by omega⟩,⟨⟨by have:=a.1;omega,by have:=a.2.1;omega⟩,b.1,b.2⟩,c⟩
def ZpP (L:List (List UInt8)) (v k f:Nat):Seg × Nat × Int:=(⟨k,f,(J4 v f L.tail [] 16).1⟩,1+(J4 v f L.tail [] 16).2.1,(J4 v f L.tail [] 16).2.2)
theorem Xj.set (h:Xj w C v l) (R i:Nat) (a:R<C) (x:Value):Xj (w.setCell ⟨R,i,none⟩ x) C v l:=ownsRow_setCell_below h a x
theorem Z3 {b:World} (h:Below C b w) (R:Nat) (a:C<=R) (e d c:Value):Below C b (((w.setCell ⟨R,0,none⟩ e).setCell ⟨R,1,none⟩ d).setCell ⟨R,2,none⟩ c):=
 ((h.setCell a _).setCell a _).setCell a _
theorem ZsO (v:Nat) (first:Int) (d:List UInt8) (b:List (List UInt8)) (a:List Rec) (last:Nat):
 J4 v first (d::b) a last=match ZqH v d (first+a.length) with
  | none=>(a,0,3)
  | some r=>if last<16 then(a,0,3) else if 4096<a.length+r.length then(a,0,5)
   else((J4 v first b (a++r) r.length).1,(J4 v first b (a++r) r.length).2.1+1,(J4 v first b (a++r) r.length).2.2):=by
 rw[J4]
 cases ZqH v d (first+a.length) <;> rfl
theorem drop_one {j:Nat} (a:j<L.length):L.drop j=L.getD j []::L.drop (j+1):=by
 rw[List.drop_eq_getElem_cons a];simp[List.getD,a]
theorem Zcm:∀ (n:Nat) (b:List UInt8),b.length<=n->Qf (Qp b).1=b.take (Qp b).2.1∧∀ x ∈ (Qp b).1,x.length<=1048576
 | 0,b,hn=>by
  have e:b=[]:=List.eq_nil_of_length_eq_zero (by omega)
  subst e;rw[ZbL];exact⟨rfl,by simp⟩
 | n+1,b,hn=>by
  by_cases e:b=[]
  ·subst e
   rw[ZbL];exact⟨rfl,by simp⟩
  by_cases a:(X8 b).2.2=0
  ·obtain⟨d,i,h,g⟩:=Zlm a
   have j:=ZbK a;rw[Zca e a];obtain⟨f,c⟩:=Zcm n (b.drop (X8 b).2.1) (by rw[length_drop];omega)
   refine⟨?_,fun x hx=>?_⟩
   ·show Qf ((X8 b).1::(Qp (b.drop (X8 b).2.1)).1)=b.take ((X8 b).2.1+(Qp (b.drop (X8 b).2.1)).2.1)
    rw[Q8,f,<-g,List.take_add]
   ·rcases List.mem_cons.1 hx with hx | hx
    ·rw[hx];exact d
    ·exact c x hx
  ·rw[ZbZ e a]
   exact⟨rfl,by simp⟩
theorem Zgt:∀ (L:List (List UInt8)) (x:List UInt8),x ∈ L->x.length+5<=(Qf L).length
 | y::L,x,hx=>by
  rw[Q8,length_append];rcases List.mem_cons.1 hx with h | h
  ·rw[h,Q9]
   have:=Lib.uvarint_pos y.length;omega
  ·have:=Zgt L x h
   omega
theorem ZeP:∀ (L:List (List UInt8)),5*L.length<=(Qf L).length
 | []=>by simp
 | y::L=>by
  have:=ZeP L;have:=ZoN y;rw[Q8,length_append,length_cons];omega
theorem ZeQ (b:List UInt8):(∀ x ∈ (Qp b).1,x.length<=1048576∧x.length<=b.length)∧5*(Qp b).1.length<=b.length:=by
 obtain⟨d,c⟩:=Zcm _ b zL
 have e:(Qf (Qp b).1).length<=b.length:=by
  rw[d,length_take];omega
 refine⟨fun x a=>⟨c x a,?_⟩,?_⟩
 ·have:=Zgt _ x a
  omega
 ·have:=ZeP (Qp b).1
  omega
theorem Zvz (h:2<=L.length):(L.take (L.length-1)).headD []=L.headD []∧(L.take (L.length-1)).tail=L.tail.dropLast∧L.getLastD []=L.getD (L.length-1) []∧L.headD []=(L.take (L.length-1)).getD 0 []:=by
 match L,h with
 | x::y::t,_=>
  refine⟨rfl,?_,?_,rfl⟩
  ·show((x::y::t).take (t.length+1)).tail=(y::t).dropLast
   rw[List.take_succ_cons,List.tail_cons,List.dropLast_eq_take,length_cons];rfl
  ·rw[List.getLastD_eq_getLast?,List.getLast?_eq_getElem?]
   simp[List.getD]
theorem Zzt (b:2<=L.length):ZzC L=match Z0 ((L.take (L.length-1)).headD []) with
 | .error e=>(Zev,e)
 | .ok (v,k,f)=>if(ZpP (L.take (L.length-1)) v k f).2.2≠0 then(Zev,(ZpP (L.take (L.length-1)) v k f).2.2)
  else if ZzB ((L.take (L.length-1)).headD []) (L.take (L.length-1)).tail=L.getD (L.length-1) [] then((ZpP (L.take (L.length-1)) v k f).1,0) else(Zev,16):=by
 obtain⟨d,c,a,_⟩:=Zvz b;unfold ZzC ZpP;rw[if_neg (by omega),d,c,a]
 cases Z0 (L.headD []) <;> rfl
theorem ZvA (w:World) (ao:Option Addr) (L:List (List UInt8)) (m cap:Nat) (j:m=L.length) (b:RdL w (.slice ao m cap) L) (n:Nat) (d:n<=L.length):
 ∃ a c,RdL w (.slice a (L.drop n).length c) (L.drop n)∧∀ i:Int,i=(n:Int)->∀ W,(Instr.sliceAt 144 (.slice ao m cap) (some (.int .i64 i)) none none).run prog W=.ok (.slice a (L.drop n).length c) W:=by
 subst j
 have g:L.length<=cap:=by
  obtain⟨a,c,e,h,-⟩:=b;simp only [Value.slice.injEq] at e;omega
 have h:=b.mid n L.length cap d zL g zL;rw[List.take_of_length_le (by rw[length_drop];omega)] at h
 unfold sliced at h;refine⟨_,_,by rw[length_drop];exact h,fun i f W=>?_⟩
 subst f;rw[run_sliceAt_slice W 144 _ _ _ _ Zdh,run_slice_l W 144 ao L.length cap Zdh .i64 (n:Int) (by omega) (by omega),Zim,Zkv,length_drop]
 rfl
theorem ZsP (w:World) (ao:Option Addr) (L:List (List UInt8)) (m cap:Nat) (g:m=L.length) (b:RdL w (.slice ao m cap) L) (n:Nat) (d:n<=L.length):
 RdL w (.slice ao n cap) (L.take n)∧∀ i:Int,i=(n:Int)->∀ W,(Instr.sliceAt 144 (.slice ao m cap) none (some (.int .i64 i)) none).run prog W=.ok (.slice ao n cap) W:=by
 subst g
 have j:L.length<=cap:=by
  obtain⟨a,c,e,h,-⟩:=b;simp only [Value.slice.injEq] at e;omega
 refine⟨b.front n d,fun i f W=>?_⟩
 subst f;rw[run_sliceAt_slice W 144 _ _ _ _ Zdh,run_slice_h W 144 ao L.length cap Zdh .i64 (n:Int) (by omega) (by omega),Zim,Zkv]
 show Result.ok (sliced ao 0 n cap 1) W=_;unfold sliced
 have e:(if cap=0 then ao else ao.map (·.add (0*1)))=ao:=by
  split
  ·rfl
  ·cases ao <;> simp[Addr.add]
 rw[e,Nat.sub_zero,Nat.sub_zero]
theorem Zxx {d:List UInt8} (h:Z0 d=.error x):x≠0:=by
 intro a;rw[a] at h;unfold Z0 at h;simp only at h
 repeat' split at h
 all_goals simp at h
def Zbb (w:World) (b:List UInt8) (e:Ending) (w':World):Prop:=
 ∃ vl,e=.returned (.tuple #[.agg #[.int .i64 (Gv b).1.kind,.int .i64 (Gv b).1.first,vl],.int .i64 ((Gv b).2.1:Nat),.bool (Gv b).2.2])∧RdR w' vl (Gv b).1.recs∧Below w.heap.size w w'
theorem Zbb.fail (h:Gv b=(Zev,0,false)) (a:Below w.heap.size w w'):Zbb w b (.returned (.tuple #[.agg #[.int .i64 0,.int .i64 0,.slice none 0 0],.int .i64 0,.bool false])) w':=by
 refine⟨.slice none 0 0,?_,?_,a⟩
 ·rw[h]
  rfl
 ·rw[h]
  exact RdR.nil _
theorem ZiG (v:Nat) (first:Int):∀ (B:List (List UInt8)) (a:List Rec) (last:Nat),(J4 v first B a last).2.1<=B.length
 | [],a,last=>by rw[J4];simp
 | d::ds,a,last=>by
  rw[ZsO,length_cons]
  cases ZqH v d (first+a.length) with
  | none=>simp
  | some r=>
   simp only;split
   ·simp
   split
   ·simp
   have b:=ZiG v first ds (a++r) r.length;simp only;omega
theorem ZeR (L:List (List UInt8)) (c:Nat):(Qf (L.take c)).length<=(Qf L).length:=by
 have h:=Zcu (L.map Qd) c;rw[Zdw,<-List.map_take,Zdw] at h;exact h
theorem ZsQ (h:(Qp b).1≠[]):Gv b=match Z0 ((Qp b).1.headD []) with
 | .error _=>(Zev,0,false)
 | .ok (v,k,f)=>((ZpP (Qp b).1 v k f).1,(Qf ((Qp b).1.take (ZpP (Qp b).1 v k f).2.1)).length,true):=by
 unfold Gv ZwK;rw[if_neg h]
 cases Z0 ((Qp b).1.headD []) <;> rfl
theorem Rd.drewN {l:List UInt8} (h:Rd w v l) (n:Nat):Rd (w.drewN n) v l:=h.below (Xo (Below.refl _ w) n) zL
theorem ZAq (w:World) (v:Value) (l:List UInt8) (d:Rd w v l) (K N:Int) (k n:Nat) (j:K=k) (p:N=n) (h:k+n+4<=l.length):
 ∃ e f c,(∀ q,(Instr.sliceAt 53 v none (some (.int .i64 (K+N))) (some (.int .i64 (K+N)))).run prog (w.drewN q)=.ok e (w.drewN q))∧
  (∀ q,(Instr.sliceAt 53 v (some (.int .i64 K)) (some (.int .i64 (K+N))) (some (.int .i64 (K+N)))).run prog (w.drewN q)=.ok f (w.drewN q))∧
  (∀ q,(Instr.sliceAt 53 v (some (.int .i64 (K+N))) (some (.int .i64 (K+N+4))) (some (.int .i64 (K+N+4)))).run prog (w.drewN q)=.ok c (w.drewN q))∧
  Rd w e (l.take (k+n))∧Rd w f ((l.drop k).take n)∧Rd w c ((l.drop (k+n)).take 4):=by
 have a:=d;obtain⟨ao,cap,rfl,m,_⟩:=d;have b:(K+N).toNat=k+n:=by omega
 have i:K.toNat=k:=by omega
 have g:(K+N+4).toNat=k+n+4:=by omega
 refine⟨sliced ao 0 (k+n) (k+n) 1,sliced ao k (k+n) (k+n) 1,sliced ao (k+n) (k+n+4) (k+n+4) 1,?_,?_,?_,?_,?_,?_⟩
 ·intro q
  rw[run_sliceAt_slice _ 53 _ _ _ _ Xu,run_slice_hm _ 53 ao l.length cap Xu .i64 .i64 (K+N) (K+N) (by omega) (by omega) (by omega),Jo,Zce,b]
  rfl
 ·intro q
  rw[run_sliceAt_slice _ 53 _ _ _ _ Xu,run_slice_lhm _ 53 ao l.length cap Xu .i64 .i64 .i64 K (K+N) (K+N) (by omega) (by omega) (by omega) (by omega),Jo,Zce,b,i]
  rfl
 ·intro q
  rw[run_sliceAt_slice _ 53 _ _ _ _ Xu,run_slice_lhm _ 53 ao l.length cap Xu .i64 .i64 .i64 (K+N) (K+N+4) (K+N+4) (by omega) (by omega) (by omega) (by omega),Jo,Zce,b,g]
  rfl
 ·have:=a.mid 0 (k+n) (k+n) (by omega) (by omega) (by omega) (by omega)
  simpa using this
 ·have:=a.mid k (k+n) (k+n) (by omega) (by omega) (by omega) (by omega)
  rwa [show k+n-k=n by omega] at this
 ·have:=a.mid (k+n) (k+n+4) (k+n+4) (by omega) (by omega) (by omega) (by omega)
  rwa [show k+n+4-(k+n)=4 by omega] at this
theorem ZdV {d:Array Oper} {C:World->Prop} {Q:Act->Prop} {rest:List Oper} {o:Oper} {a:Act} (i:o.guard=none) (x:Operand) (lo c b:Option Operand)
 (k:o.op=.slice 53 x lo c b) (e:∀ w',C w'->∃ q,w'=w.drewN q) (v:Value)
 (g:∀ q,(Instr.sliceAt 53 (a.eval x) (lo.map a.eval) (c.map a.eval) (b.map a.eval)).run prog (w.drewN q)=.ok v (w.drewN q))
 (h:wpQuiet prog d C Q rest (a.put o.dst v)):wpQuiet prog d C Q (o::rest) a:=
 wpQuiet_step fun _ f=>by
  rw[if_pos (by simp[Region.wanted,i])]
  refine⟨v,fun w' j=>?_,f _ h⟩
  obtain⟨q,rfl⟩:=e w' j;unfold Oper.quietAt execOp;simp only [k,g,Sem.run_bind,Sem.run_pure,Result.andThen_ok,Oper.quietUpon,and_self]
theorem ZsR (v:Value) (l:List UInt8) (w:World) (u:Rd w v l):
 Calls prog 199 #[v] w fun e w'=>ZdT w l e w':=by
 have HR:=ZZ u;have b:=ZZ (ZyW v l w u);have c:=ZZ (ZcJ v l w u);obtain⟨ao,cap,rfl,ar,P,ax,aA⟩:=u;clear ax aA;have aH:(l.length:Int)<=9223372036854775807:=by unfold maxLen at P;omega
 have aL:=ZZ ar;have aI:=ZZ P;clear ar P;by_cases m:Gn l
 ·have a:=ZZ (ZzG m)
  have F:Hid (decide (Gn l)=true):=decide_eq_true m;rw[F.o] at b;clear m c
  go_enter func199,ntmps199
  go_wp2_with fail
  refine b.o.mono ?_;rintro e d ⟨rfl,rfl⟩;clear b;go_wp2
  go_ret3
  exact ZdT.refused a.o
 have F:Hid (decide (Gn l)=false):=decide_eq_false m;rw[F.o] at b;have t:=ZZ m;clear m;have Q:=Xf l;obtain⟨n,z⟩:∃ n,n=(Qb l).1:=⟨_,rfl⟩;obtain⟨k,p⟩:∃ k,k=(Qb l).2:=⟨_,rfl⟩;rw[<-z,<-p] at Q c;have j:=ZZ z;have i:=ZZ p;have O:=Zsz l
 have am:(n:Int)<4611686018427387904∧(k:Int)<=l.length∧(k:Int)<=9:=by
  rw[<-p] at O;rcases Q with h | h
  ·have I:n=0:=by rw[z,h]
   have h2:k=0:=by rw[p,h]
   omega
  ·omega
 clear O;obtain⟨N,V⟩:∃ N:Int,N=(n:Int):=⟨_,rfl⟩;obtain⟨K,G⟩:∃ K:Int,K=(k:Int):=⟨_,rfl⟩;rw[<-V,<-G] at am c;obtain⟨aJ,aG,O⟩:=am;have aM:0<=N:=by omega
 have aN:0<=K:=by omega
 have f:=ZZ V;have g:=ZZ G;clear V G;clear Q z p;by_cases C:K=0
 ·have a:=ZZ (ZzH t.out (by rw[<-i.o];have:=g.o;omega))
  subst C
  go_enter func199,ntmps199
  go_wp2_with fail
  refine b.o.mono ?_;rintro e d ⟨rfl,rfl⟩;clear b
  go_wp2_with fail
  refine c.o.mono ?_;rintro e d ⟨rfl,rfl⟩;clear c;go_wp2
  go_ret3
  exact ZdT.refused a.o
 have ez:(K == 0)=false:=beq_eq_false_iff_ne.2 C;have aE:1<=K:=by omega
 have A:=ZZ (show(Qb l).2≠0 by rw[<-i.o];have:=g.o;omega)
 clear C;by_cases c3:1048576<N
 ·have a:=ZZ (ZzI t.out A.out (by rw[<-j.o];have:=f.o;omega))
  go_enter func199,ntmps199
  go_wp2_with fail
  refine b.o.mono ?_;rintro e d ⟨rfl,rfl⟩;clear b
  go_wp2_with fail
  refine c.o.mono ?_;rintro e d ⟨rfl,rfl⟩;clear c;go_wp2
  go_ret3
  exact ZdT.refused a.o
 have J:=ZZ (show ¬ 1048576<(Qb l).1 by rw[<-j.o];have:=f.o;omega)
 by_cases c4:(l.length:Int)<K+N+4
 ·have a:=ZZ (ZzJ t.out A.out J.out (by rw[<-j.o,<-i.o];have:=f.o;have:=g.o;omega))
  go_enter func199,ntmps199
  go_wp2_with fail
  refine b.o.mono ?_;rintro e d ⟨rfl,rfl⟩;clear b
  go_wp2_with fail
  refine c.o.mono ?_;rintro e d ⟨rfl,rfl⟩;clear c;go_wp2
  go_ret3
  exact ZdT.refused a.o
 have W:=ZZ (show ¬ l.length<(Qb l).2+4+(Qb l).1 by rw[<-j.o,<-i.o];have:=f.o;have:=g.o;omega)
 have R:Hid (∀ v w,Rd w v (l.take (k+n))->Calls prog 136 #[v] w fun e w'=>e=.returned (.int .u32 (Q2 0 (l.take (k+n)):Nat))∧Below w.heap.size w w'):=fun v w h=>ZlQ v _ w h
 have L:Hid (∀ v w,Rd w v ((l.drop (k+n)).take 4)->Calls prog 161 #[v] w fun e w'=>e=.returned (.int .u64 (Lib.leNat ((l.drop (k+n)).take 4):Nat))∧w'=w):=by
  intro v w h;have:=Zne v _ w h
  rwa [List.take_of_length_le (by simp;omega)] at this
 have D:Hid (Lib.leNat ((l.drop (k+n)).take 4)≠Q2 0 (l.take (k+n))->X8 l=([],0,4)):=fun h=>by
  rw[j.o,i.o] at h;exact ZzK t.out A.out J.out W.out h
 have E:Hid (Lib.leNat ((l.drop (k+n)).take 4)=Q2 0 (l.take (k+n))->X8 l=((l.drop k).take n,k+4+n,0)):=fun h=>by
  rw[j.o,i.o] at h ⊢;exact ZzL t.out A.out J.out W.out h
 have hs:=ZmC (l.take (k+n))
 have hq:Lib.leNat ((l.drop (k+n)).take 4)<4294967296:=by
  have I:=Zhx ((l.drop (k+n)).take 4);have e4:((l.drop (k+n)).take 4).length=4:=by have:=f.o;have:=g.o;simp;omega
  rw[e4] at I;exact I
 generalize Q2 0 (l.take (k+n))=s at *;generalize Lib.leNat ((l.drop (k+n)).take 4)=q at *;obtain⟨S,U⟩:∃ S:Int,S=(s:Int):=⟨_,rfl⟩;obtain⟨T,M⟩:∃ T:Int,T=(q:Int):=⟨_,rfl⟩;rw[<-U] at R;rw[<-M] at L;have aF:0<=S:=by omega
 have aK:S<4294967296:=by omega
 have aq:=ZZ U;have Y:=ZZ M;obtain⟨v1,v2,v3,ah,aa,au,ai,an,ae⟩:=ZAq w _ l HR.o K N k n g.o f.o (by have:=f.o;have:=g.o;omega)
 have ac:=ZZ ai;have aw:=ZZ an;have ak:=ZZ ae;have af:=ZZ ah;have ag:=ZZ aa;have ad:=ZZ au;clear ai an ae ah aa au;clear U M hs hq
 go_enter func199,ntmps199
 go_wp2_with fail
 refine b.o.mono ?_;rintro e d ⟨rfl,rfl⟩;clear b
 go_wp2_with fail
 refine c.o.mono ?_;rintro e d ⟨rfl,rfl⟩;clear c;go_wp2;refine wp_region_quiet_lit (by kernel_rfl) (by kernel_rfl) ?_
 repeat (go_big_quiet_step (fail))
 refine ZdV rfl _ _ _ _ rfl (fun _ h=>h) v1 af.o ?_
 simp only [Act.put,List.setIfInBounds_toArray,set_cons_succ,set_cons_zero]
 repeat (go_big_quiet_step (fail))
 refine ZdV rfl _ _ _ _ rfl (fun _ h=>h) v2 ag.o ?_
 simp only [Act.put,List.setIfInBounds_toArray,set_cons_succ,set_cons_zero]
 repeat (go_big_quiet_step (fail))
 refine ZdV rfl _ _ _ _ rfl (fun _ h=>h) v3 ad.o ?_
 simp only [Act.put,List.setIfInBounds_toArray,set_cons_succ,set_cons_zero]
 repeat (go_big_quiet_step (fail))
 refine wpQuiet_nil ?_;rintro _ ⟨nq,rfl⟩;have Z:=ZZ (Xo (Below.refl d.heap.size d) nq);have av:=ZZ (ac.o.drewN nq);have X:=ZZ (aw.o.drewN nq);have ab:=ZZ (ak.o.drewN nq);clear ac aw ak af ag ad
 go_wp2_with fail
 refine(L.o _ _ ab.o).mono ?_;rintro e w2 ⟨rfl,rfl⟩;clear L ab
 go_wp2_with fail
 refine(R.o _ _ av.o).mono ?_;rintro e w2 ⟨rfl,B⟩;have H:=ZZ (Z.o.trans B);have az:=ZZ (X.o.below B zL);clear R av X B Z;by_cases y:T=S
 ·have aB:(T != S)=false:=by rw[bne_eq_false_iff_eq];exact y
  have a:=ZZ (E.o (by have:=aq.o;have:=Y.o;omega))
  clear y D E;have aC:=ZZ (show((l.drop k).take n).length<=1048576 by have:=f.o;simp;omega)
  have HC:=ZZ (Zvv _ _ w2 az.o (by have:=aC.o;omega))
  generalize (l.drop k).take n=x at *
  go_wp2_with fail
  refine HC.o.mono ?_;rintro e w4 ⟨v4,rfl,aj,ap⟩;have al:=H.o.size;have ay:=ZZ (aj.mono al);have aD:=ZZ (H.o.trans (ap.mono al));clear aj ap HC;go_wp2
  go_ret3
  refine⟨v4,?_,by rw[a.o];exact ay.o,aD.o⟩
  rw[a.o];exact Zxm (by show K+N+4=((k+4+n:Nat):Int);have:=f.o;have:=g.o;omega) rfl
 ·have aB:(T != S)=true:=by rw[bne_iff_ne];exact y
  have a:=ZZ (D.o (by have:=aq.o;have:=Y.o;omega))
  clear y D E;go_wp2
  go_ret3
  refine⟨.slice none 0 0,?_,?_,H.o⟩
  ·rw[a.o];rfl
  ·rw[a.o];exact Own.nil _ _
theorem ZnK (v:Value) (l:List UInt8) (w:World) (t:Rd w v l) (V:l.length<=1000000):
 Calls prog 159 #[v] w fun e w'=>∃ v',e=.returned (.tuple #[v',.int .i64 ((Qp l).2.1:Nat),.int .i64 ((Qp l).2.2:Nat)])∧Zik w' w.heap.size v' (Qp l).1∧Below w.heap.size w w':=by
 have N:=ZZ t;obtain⟨ao,cap,rfl,I,K,M,O⟩:=t;clear M O I K;have Q:=ZZ (fun v k w h=>ZsR v (l.drop k) w h)
 go_enter func159,ntmps159
 go_wp2
 go_loopw[5,6] (fun P j wr=>∃ (A:Nat) (L:List (List UInt8)),j=.int .i64 (A:Int)∧Hid (ZuZ l A L)∧Hid (Zik wr w.heap.size P L)∧Hid (Below w.heap.size w wr)) (fun _ j _=>l.length-(intOf j).toNat)
 case atStart=>exact⟨0,[],rfl,ZuZ.start l,Zik.nil _ _,Below.refl _ _⟩
 case round=>
  obtain⟨A,L,rfl,d,G,f⟩:=hrel;have Z:=d.out.2.2;by_cases i:A<l.length
  ·have F:Hid (∃ v',(Instr.sliceAt 53 (.slice ao l.length cap) (some (.int .i64 (A:Int))) none none).run prog wr=.ok v' wr∧Rd wr v' (l.drop A)):=by
    have:=ZhY wr _ l (N.o.below f.out zL) .i64 (A:Int) (by omega) (by omega)
    rwa [Int.toNat_natCast] at this
   have B:=f.out.size
   go_wp2_with(refine ZfF _ rfl _ _ _ _ rfl _ F.o ?_)
   intro v1 z;have y:=ZZ z;clear z F
   go_wp2_with fail
   refine(Q.o _ A _ y.o).mono ?_;rintro e X ⟨v2,rfl,u,g⟩;have D:=ZZ (u.mono B);have E:=ZZ (G.out.below g zL);have p:=ZZ (f.out.trans (g.mono B));have S:=p.o.size;clear u g y;have n:=ZZ (fun h=>ZbK (l:=l.drop A) h)
   have H:=Zuk (l.drop A);rw[length_drop] at H;by_cases a:(X8 (l.drop A)).2.2=0
   ·have R:=ZZ (d.out.step i a)
    have h5:=n.o a;have Y:=d.out.2.1;rw[a];generalize (X8 (l.drop A)).2.1=m at *;generalize (X8 (l.drop A)).1=x at *;clear a n;obtain⟨a2,W,rfl,_⟩:=D.o.rd
    go_wp2_with(at_builtin;refine ZeJ _ rfl _ _ rfl w.heap.size _ L rfl E.o _ x rfl D.o (by omega) S ?_)
    intro U w3 C q;have T:=ZZ C;have J:=ZZ (p.o.trans q);clear C q;go_wp2;go_roundw
    case rel=>exact⟨A+m,L++[x],by go_num,R,T,J⟩
    case measure=>simp[intOf];omega
   ·have b:=ZZ (d.out.stop i a)
    clear n;generalize (X8 (l.drop A)).2.2=c at *;have aa:((c:Int) != 0)=true:=by rw[bne_iff_ne];omega
    clear a;go_wp2
    go_ret3
    refine⟨_,?_,by rw[b.o];exact E.o,p.o⟩
    rw[b.o];rfl
  ·have b:=ZZ (d.out.whole i)
   go_wp2
   go_ret3
   refine⟨_,?_,by rw[b.o];exact G.out,f.out⟩
   rw[b.o];rfl
theorem ZyX (v:Value) (l:List UInt8) (w:World) (g:Rd w v l) (j:l.length<=1000000):
 Calls prog 114 #[v] w fun e w'=>∃ v',e=.returned (.tuple #[v',.int .i64 ((Zyl l).2:Nat)])∧RdL w' v' (Zyl l).1∧Below w.heap.size w w':=by
 have d:=ZZ (ZnK v l w g j);clear g
 go_enter func114,ntmps114
 go_wp2_with fail
 refine d.o.mono ?_;rintro e n ⟨q,rfl,h,f⟩;have k:=ZZ h;have i:=ZZ f;clear h f d;by_cases a:(Qp l).2.2=0
 ·have b:Hid (Zyl l=((Qp l).1,0)):=if_pos a
  rw[a];clear a;generalize (Qp l).2.1=m at *;go_wp2;go_ret2;refine⟨_,?_,by rw[b.o];exact k.o.rd,i.o⟩
  rw[b.o];rfl
 ·have b:Hid (Zyl l=([],(Qp l).2.2)):=if_neg a
  generalize (Qp l).2.1=m at *;generalize (Qp l).2.2=c at *;have p:((c:Int) != 0)=true:=by rw[bne_iff_ne];omega
  clear a;go_wp2;go_ret2;refine⟨_,?_,by rw[b.o];exact RdL.nil _,i.o⟩
  rw[b.o];rfl
end Go.Proofs.YtnahjngbneicaaaGreatDoor
