import Derived.Test.YtnahjngbneicaaaGreatDoorPack9
namespace Go.Proofs.YtnahjngbneicaaaGreatDoor
open _root_.Go.Proofs.Tryz
open List (drop_drop drop_left flatten_cons getElem_mem length_append length_cons length_drop length_take set_cons_succ set_cons_zero take_add_one take_length)
set_option maxHeartbeats 4000000
set_option maxRecDepth 100000
open Go.RowKit
variable {s:Sto} {w w':World} {C N R T f k n p pd q:Nat} {v:Value} {K:Nat->Prop} {d:Dk} {l:List Rec} {x:Int} {b:List UInt8} {L:List (List UInt8)}
theorem ZnG (e:Ent) (w:World):
 Calls prog 189 #[Zsj e] w fun x w'=>x=.returned (.bool (decide (Zbm e)))∧Below w.heap.size w w':=by
 have b:=ZZ (fun W=>Zig ⟨0,e.proc,e.seq,⟨0,0,0⟩,e.resp⟩ W)
 have d:decide (Qz ⟨0,e.proc,e.seq,⟨0,0,0⟩,e.resp⟩)=decide (Zbm e):=decide_eq_decide.2 (ZuG e);rw[d] at b;clear d;generalize decide (Zbm e)=D at *;obtain⟨p,s,r⟩:=e;unfold Zsj Zso at *
 dsimp only at *
 have c:Hid (∀ X,Below w.heap.size w (w.alloc X)):=fun X=>(Below.refl _ _).alloc zL X
 go_enter func189,ntmps189
 go_wp2_with fail
 refine(b.o _).mono ?_;rintro x g ⟨rfl,a⟩;have f:=ZZ ((c.o _).trans (a.mono (c.o _).size));clear a;go_wp2;go_ret;exact⟨rfl,f.o⟩
theorem ZnH (v:Value) (t:List Ent) (w:World) (hr:RdE w v t):
 Calls prog 140 #[v] w fun x w'=>x=.returned (.bool (decide (Zet t)))∧Below w.heap.size w w':=by
 obtain⟨va,vc,rfl,ad,N,-,hw,I⟩:=hr;have R:=ZZ I;have ai:(t.length:Int)<=9223372036854775807:=by unfold maxLen at N;omega
 obtain⟨D,m⟩:∃ D,D=decide (Zet t):=⟨_,rfl⟩;rw[<-m];have H:Hid (Gf t t.length->D=true):=ZZ (fun h=>by rw[m];exact decide_eq_true h)
 have K:Hid (∀ k,k<t.length->¬ Gf t (k+1)->D=false):=ZZ (fun k O h=>by rw[m];exact decide_eq_false (fun u=>h (Gf.mono u O)))
 have Q:=ZZ (fun e W=>ZnG e W)
 have P:Hid (ZhZ t 0=0):=ZZ rfl;have F:Hid (∀ k,ZhZ t (k+1)=(t.getD k Xi).proc+1):=ZZ (fun k=>rfl)
 have C:Hid (∀ k,Gf t (k+1)↔Gf t k∧Zbm (t.getD k Xi)∧ZhZ t k<=(t.getD k Xi).proc):=ZZ (fun k=>Zpf)
 clear m N ad I hw
 go_enter func140,ntmps140
 go_wp2
 go_loopw[3,8] (fun vl B wr=>∃ (k:Nat) (f:Int),B=.int .i64 (k:Int)∧vl=.int .i64 f∧k<=t.length∧Hid (f=ZhZ t k)∧Hid (Gf t k)∧Hid (Below w.heap.size w wr)) (fun _ B _=>t.length-(intOf B).toNat)
 case atStart=>exact⟨0,0,rfl,rfl,Nat.zero_le _,ZZ P.o.symm,ZZ (Gf.zero t),Below.refl _ _⟩
 case round=>
  obtain⟨k,f,rfl,rfl,O,ab,E,l⟩:=hrel;by_cases i:k<t.length
  case neg=>
   obtain rfl:k=t.length:=by omega
   have HT:=ZZ (H.o E.out);go_wp2;go_ret;rw[HT.o];exact⟨rfl,l.out⟩
  have ak:(k:Int)<(t.length:Int):=by omega
  rcases R.o with S | ⟨c,al,rfl,n⟩
  ·rw[S] at i;simp at i
  obtain⟨c0,c1,T⟩:=(n k i).keep (l.out.block c (n k i).lt);have b:=ZZ (C.o k);have j:=ZZ (K.o k i);have M:=ZZ (F.o k);have d:=ZZ (fun W=>Q.o (t.getD k Xi) W)
  rw[<-ab.out] at b;obtain⟨e,L⟩:∃ e,e=t.getD k Xi:=⟨_,rfl⟩;rw[<-L] at c0 c1 T b M d;clear L n Q C K H F P R;obtain⟨a,y⟩:∃ a,a=decide (Zbm e):=⟨_,rfl⟩;rw[<-y] at d;have g:=ZZ y;have q:Hid (∀ X,Below w.heap.size w (wr.alloc X)):=ZZ (fun X=>l.out.alloc l.out.size X)
  have Z:Hid (∀ cs,Be (wr.alloc (.cells cs 85)) wr.heap.size cs):=ZZ (fun cs=>heap_alloc_new wr _)
  clear y;unfold Zsj at d
  have V:Hid (a=true->0<=e.proc∧e.proc<=64):=ZZ (fun h=>by
   have:Zbm e:=of_decide_eq_true (g.o.symm.trans h)
   exact⟨this.1,this.2.1⟩)
  by_cases aj:e.proc<f
  ·have A:=ZZ (j.o (fun h=>by have:=(b.o.1 h).2.2;omega))
   obtain⟨p,s,r⟩:=e
   dsimp only at *
   clear b j d g;go_wp2;go_ret;rw[A.o];exact⟨rfl,q.o _⟩
  ·have ac:f<=e.proc:=by omega
   have Y:Hid (a=true->Gf t (k+1)):=ZZ (fun h=>b.o.2 ⟨E.out,of_decide_eq_true (g.o.symm.trans h),ac⟩)
   have aa:Hid (a=false->D=false):=ZZ (fun h=>j.o (fun u=>by
    have h3:=(b.o.1 u).2.1;have J:a=true:=g.o.trans (decide_eq_true h3);rw[h] at J
    cases J))
   obtain⟨p,s,r⟩:=e
   dsimp only at *
   clear b j g
   go_wp2_with fail
   refine(d.o _).mono ?_;rintro x W1 ⟨rfl,z⟩;have G:=ZZ ((q.o _).trans (z.mono (q.o _).size));have ae:=ZZ ((Z.o _).below z zL);obtain⟨q0,f0⟩:=ae.o.cell 0;clear z d
   cases a with
   | false=>
    have A:=ZZ (aa.o rfl);go_wp2;go_ret;rw[A.o];exact⟨rfl,G.o⟩
   | true=>
    obtain⟨af,ag⟩:=V.o rfl;have U:=ZZ (Y.o rfl);go_wp2;go_roundw
    case rel=>exact⟨k+1,p+1,by go_num,by go_num,by omega,ZZ M.o.symm,U,G⟩
    case measure=>simp[intOf];omega
theorem ZqY (v:Value) (s:Q0) (w:World) (O:SnV w v s):
 Calls prog 98 #[v] w fun e w'=>e=.returned (.bool (decide (Z6 s)))∧Below w.heap.size w w':=by
 obtain⟨A,I,rfl,u,B,z,f,H⟩:=O;have a:Hid (∀ X,Below w.heap.size w (w.alloc X)):=fun X=>(Below.refl _ _).alloc zL X
 have N:Hid (∀ cs,Bn (w.alloc (.cells cs 41)) w.heap.size cs):=ZZ (fun cs=>heap_alloc_new w _)
 have l:=ZZ (fun W (h:Below w.heap.size w W)=>ZlG (.agg #[.int .i64 s.st.kind,A,.bool s.st.shut,.int .i64 s.st.eng]) s.st W ⟨A,rfl,u.below h zL,B,z⟩)
 have j:=ZZ (fun W (h:Below w.heap.size w W)=>ZnH I s.tab W (f.below h zL))
 obtain⟨T,lc,M,-⟩:=u;obtain⟨Y,V,P⟩:=f.shape;subst M P;clear f;obtain⟨D,i⟩:∃ D,D=decide (Z6 s):=⟨_,rfl⟩;rw[<-i];have d:Hid (D=decide (Z6 s)):=ZZ i;have b:Hid (Z6 s↔(0<=s.idx∧s.idx<4611686018427387904)∧Yl s.st∧Zet s.tab):=ZZ Iff.rfl;obtain⟨m,k⟩:∃ m,m=decide (Yl s.st):=⟨_,rfl⟩;obtain⟨n,q⟩:∃ n,n=decide (Zet s.tab):=⟨_,rfl⟩;rw[<-k] at l;rw[<-q] at j;have y:=ZZ k;have C:=ZZ q;clear i k q B z H;obtain⟨idx,⟨kind,L,R,aa⟩,U⟩:=s
 dsimp only at *
 by_cases t:0<=idx
 case neg=>
  have p:Hid (D=false):=ZZ (by rw[d.o];exact decide_eq_false (fun h=>t (b.o.1 h).1.1))
  go_enter func98,ntmps98
  go_wp2;go_ret;rw[p.o];exact⟨rfl,a.o _⟩
 by_cases F:idx<4611686018427387904
 case neg=>
  have p:Hid (D=false):=ZZ (by rw[d.o];exact decide_eq_false (fun h=>F (b.o.1 h).1.2))
  go_enter func98,ntmps98
  go_wp2;go_ret;rw[p.o];exact⟨rfl,a.o _⟩
 have G:Hid (D=(m && n)):=ZZ (by
  rw[d.o,y.o,C.o,<-Bool.decide_and]
  exact decide_eq_decide.2 (b.o.trans ⟨fun h=>h.2,fun h=>⟨⟨t,F⟩,h⟩⟩))
 clear d b y C
 go_enter func98,ntmps98
 go_wp2_with fail
 refine(l.o _ (a.o _)).mono ?_;rintro x S ⟨rfl,g⟩;have c:=ZZ ((a.o _).trans (g.mono (a.o _).size));have J:=ZZ ((N.o _).below g zL);obtain⟨Z,f5⟩:=J.o.cell 5;clear g l
 cases m with
 | false=>
  go_wp2;go_ret;rw[G.o];exact⟨rfl,c.o⟩
 | true=>
  go_wp2_with fail
  refine(j.o _ c.o).mono ?_;rintro x Q ⟨rfl,E⟩;have K:=ZZ (c.o.trans (E.mono c.o.size));clear E j;go_wp2;go_ret;rw[G.o];exact⟨rfl,K.o⟩
theorem ZsG (C:Value) (A:List Ent) (v:Value) (B:List Ent) (w:World) (N:RdE w C A) (O:RdE w v B):
 Calls prog 46 #[C,v] w fun e w'=>e=.returned (.bool (decide (A=B)))∧Below w.heap.size w w':=by
 obtain⟨aa,ac,rfl,ag,F,-,-,H⟩:=N;obtain⟨X,bc,rfl,-,S,-,-,y⟩:=O;have L:=ZZ H;have P:=ZZ y;obtain⟨D,g⟩:∃ D,D=decide (A=B):=⟨_,rfl⟩;rw[<-g];have t:Hid (A=B->D=true):=fun h=>by rw[g];exact decide_eq_true h
 have l:Hid (¬ A=B->D=false):=fun h=>by rw[g];exact decide_eq_false h
 have ad:=ZuJ;have af:(A.length:Int)<=9223372036854775807:=by unfold maxLen at F;omega
 clear g H y F S;by_cases a:A.length=B.length
 case neg=>
  have K:((A.length:Int) != (B.length:Int))=true:=by rw[bne_iff_ne];omega
  have I:=ZZ (l.o (fun h=>a (by rw[h])))
  clear a
  go_enter func46,ntmps46
  go_wp2;go_ret;rw[I.o];exact⟨rfl,Below.refl _ _⟩
 have K:((A.length:Int) != (B.length:Int))=false:=by rw[bne_eq_false_iff_eq];omega
 have d:=ZZ a
 have u:Hid (A.take A.length=B.take A.length->D=true):=ZZ (fun h=>t.o (by
  rw[take_length,d.o,take_length] at h
  exact h))
 have G:Hid (∀ k,k<A.length->A.getD k Xi≠B.getD k Xi->D=false):=ZZ (fun k U h=>l.o (fun V=>h (by rw[V])))
 clear a t l
 go_enter func46,ntmps46
 go_wp2
 go_loopw[13] (fun q wr=>∃ k:Nat,q=.int .i64 (k:Int)∧k<=A.length∧Hid (A.take k=B.take k)∧Hid (∃ n,wr=w.drewN n)) (fun q _=>A.length-(intOf q).toNat)
 case atStart=>exact⟨0,rfl,Nat.zero_le _,rfl,⟨0,rfl⟩⟩
 case round=>
  obtain⟨k,rfl,U,z,R⟩:=hrel;obtain⟨nw,M⟩:=R.out;subst M;by_cases b:k<A.length
  case neg=>
   obtain rfl:k=A.length:=by omega
   have J:=ZZ (u.o z.out);go_wp2;go_ret;rw[J.o];exact⟨rfl,Xo (Below.refl _ _) _⟩
  rcases L.o with j | ⟨c,Y,rfl,E⟩
  ·rw[j] at b;simp at b
  rcases P.o with j | ⟨c',ab,rfl,x⟩
  ·have a:=d.o;rw[j] at a;simp at a;rw[a] at b;simp at b
  obtain⟨c0,c1,c2⟩:=E k b;obtain⟨d0,d1,Z⟩:=x k (by have:=d.o;omega)
  have ae:(k:Int)<(A.length:Int):=by omega
  have ai:(k:Int)<(B.length:Int):=by have:=d.o;omega
  have p:=ZZ (G.o k b);have i:Hid (A.getD k Xi=B.getD k Xi->A.take (k+1)=B.take (k+1)):=fun h=>by rw[Zks b,Zks (by have:=d.o;omega),z.out,h]
  clear E x u G;generalize A.getD k Xi=r at *;generalize B.getD k Xi=s at *;by_cases f:r=s
  ·subst f
   have Q:=ZZ (i.o rfl);have m:=fun W=>ZuI W r r
   rw[Zsk] at m;clear p i
   go_upto_region 6 with fail
   go_quiet(fail)
   go_wp2;go_roundw
   case rel=>exact⟨k+1,by go_num,by omega,Q,⟨_,rfl⟩⟩
   case measure=>simp[intOf];omega
  ·have T:=ZZ (p.o f)
   have m:=fun W=>ZuI W r s
   rw[ZuK f] at m;clear p i f
   go_upto_region 6 with fail
   go_quiet(fail)
   go_wp2;go_ret;rw[T.o];exact⟨rfl,Xo (Xo (Below.refl _ _) _) _⟩
theorem Zvu (F:Value) (a:Q0) (A:Value) (b:Q0) (w:World) (U:SnV w F a) (hb:SnV w A b):
 Calls prog 20 #[F,A] w fun e w'=>e=.returned (.bool (decide (Zpm a b)))∧Below w.heap.size w w':=by
 obtain⟨C,Q,rfl,B,M,H,k,T⟩:=U;obtain⟨vl',af,rfl,O,J,K,t,ac⟩:=hb;have g:Hid (∀ X Y,Below w.heap.size w ((w.alloc X).alloc Y)):=fun X Y=>((Below.refl _ _).alloc zL X).alloc (by simp) Y
 have R:Hid (∀ cs d,Bn ((w.alloc (.cells cs 41)).alloc (.cells d 41)) w.heap.size cs):=fun cs d=>(Below.heap_alloc _ _ _ (by simp)).trans (heap_alloc_new w _)
 have ab:Hid (∀ cs d,Bn ((w.alloc (.cells cs 41)).alloc (.cells d 41)) (w.heap.size+1) d):=fun cs d=>ZdR w _ _
 have z:=ZZ (fun W (h:Below w.heap.size w W)=>Zvt (.agg #[.int .i64 a.st.kind,C,.bool a.st.shut,.int .i64 a.st.eng]) a.st (.agg #[.int .i64 b.st.kind,vl',.bool b.st.shut,.int .i64 b.st.eng]) b.st W ⟨C,rfl,B.below h zL,M,H⟩ ⟨vl',rfl,O.below h zL,J,K⟩)
 have y:=ZZ (fun W (h:Below w.heap.size w W)=>ZsG Q a.tab af b.tab W (k.below h zL) (t.below h zL))
 obtain⟨la,lc,aa,-⟩:=B;obtain⟨ak,ar,ae,-⟩:=O;obtain⟨ta,tc,ag⟩:=k.shape;obtain⟨al,am,P⟩:=t.shape;subst aa ag ae P;obtain⟨D,v⟩:∃ D,D=decide (Zpm a b):=⟨_,rfl⟩;rw[<-v];have p:Hid (D=decide (Zpm a b)):=ZZ v;have j:Hid (Zpm a b↔Zmw a.st b.st∧a.idx=b.idx∧a.tab=b.tab):=ZZ Iff.rfl;obtain⟨m,q⟩:∃ m,m=decide (Zmw a.st b.st):=⟨_,rfl⟩;obtain⟨n,u⟩:∃ n,n=decide (a.tab=b.tab):=⟨_,rfl⟩;rw[<-q] at z;rw[<-u] at y;have G:=ZZ q;have N:=ZZ u;clear v q u M H T J K ac k t;obtain⟨idx,⟨kind,L,an,ao⟩,au⟩:=a;obtain⟨l,⟨aj,L',aq,ai⟩,ap⟩:=b
 dsimp only at *
 by_cases c:idx=l
 case neg=>
  have S:(idx == l)=false:=beq_eq_false_iff_ne.2 c;have HF:Hid (D=false):=ZZ (by rw[p.o];exact decide_eq_false (fun h=>c (j.o.1 h).2.1))
  clear c
  go_enter func20,ntmps20
  go_wp2;go_ret;rw[HF.o];exact⟨rfl,g.o _ _⟩
 have S:(idx == l)=true:=beq_iff_eq.2 c
 have E:Hid (D=(m && n)):=ZZ (by
  rw[p.o,G.o,N.o,<-Bool.decide_and]
  exact decide_eq_decide.2 (j.o.trans ⟨fun h=>⟨h.1,h.2.2⟩,fun h=>⟨h.1,c,h.2⟩⟩))
 clear p j G N c
 go_enter func20,ntmps20
 go_wp2_with fail
 refine(z.o _ (g.o _ _)).mono ?_;rintro x W1 ⟨rfl,i⟩;have f:=ZZ ((g.o _ _).trans (i.mono (g.o _ _).size));have ad:=ZZ ((R.o _ _).below i zL);have V:=ZZ ((ab.o _ _).below i zL);obtain⟨q5,f5⟩:=ad.o.cell 5;obtain⟨r5,g5⟩:=V.o.cell 5;clear i z
 cases m with
 | false=>
  go_wp2;go_ret;rw[E.o];exact⟨rfl,f.o⟩
 | true=>
  go_wp2_with fail
  refine(y.o _ f.o).mono ?_;rintro x W2 ⟨rfl,I⟩;have Z:=ZZ (f.o.trans (I.mono f.o.size));clear I y;go_wp2;go_ret;rw[E.o];exact⟨rfl,Z.o⟩
def ZqZ (w:World) (s:Q0) (e:Ending) (w':World):Prop:=
 ∃ v',e=.returned (.tuple #[v',.int .i64 (if Z6 s then 0 else 1)])∧Own w' w.heap.size v' (if Z6 s then ZjA s else[])∧Below w.heap.size w w'
theorem Zaq:∀ (n:Nat) (l:List UInt8),l.length<=n->(Qf (Ya l)).length<=15*l.length
 | 0,l,h=>by
  have e:l=[]:=List.eq_nil_of_length_eq_zero (by omega)
  rw[e,Yn];simp[Qf]
 | n+1,l,h=>by
  by_cases e:l=[]
  ·rw[e,Yn]
   simp[Qf]
  ·have c:l.length≠0:=by simpa using e
   have b:=Zaq n (l.drop 64) (by rw[length_drop];omega)
   have a:=J7 (d:=l.take 64) (by rw[length_take];omega)
   rw[Zx e,Q8,length_append];rw[length_drop] at b;rw[length_take] at a;omega
theorem Zxt {s:Q0} (h:Z6 s):(ZjA s).length<=80000:=by
 have c:=Zay h;have a:s.idx.toNat<4611686018427387904:=by have:=h.1;omega
 have b:=Zey a (w:=Xt s) (by omega)
 have f:=J7 (d:=Zbn s.idx.toNat (Xt s)) (by omega)
 have e:=Zaq _ (Xt s) zL;unfold ZjA ZaI;rw[Q8,length_append];omega
theorem Zra (n:Int) (w:World) (l:-9223372036854775808<=n) (p:n<=9223372036854775807):
 Calls prog 134 #[.int .i64 n] w fun e w'=>e=.returned (.int .i64 (ZgE n:Nat))∧Below w.heap.size w w':=by
 by_cases h:0<=n∧n<=1048576
 ·obtain⟨c,d⟩:=h
  have a:Hid (ZgE n=(Lib.uvarint n.toNat).length+4+n.toNat):=if_pos ⟨c,d⟩
  have g:Hid (∀ w,Calls prog 132 #[.slice none 0 0,.int .i64 n] w fun e w'=>∃ ao cap,e=.returned (.slice ao (Lib.uvarint n.toNat).length cap)∧Below w.heap.size w w'):=by
   intro w;refine(ZbE (.slice none 0 0) [] n w (Rd.nil _) (by simp)).mono ?_
   have e:Zsd [] n=Lib.uvarint n.toNat:=if_pos ⟨by omega,by omega⟩
   rintro m w' ⟨v',rfl,f,j⟩;rw[e] at f;obtain⟨ao,cap,rfl,_⟩:=f.rd;exact⟨ao,cap,rfl,j⟩
  have t:(Lib.uvarint n.toNat).length<=3:=Zzy (by omega)
  generalize (Lib.uvarint n.toNat).length=q at *
  go_enter func134,ntmps134
  go_wp2_with fail
  refine(g.o _).mono ?_;rintro e k ⟨ao,cap,rfl,b⟩;have i:=ZZ b;clear b g;go_wp2;go_ret;refine⟨ZbV ?_,i.o⟩;rw[a.o];omega
 ·have a:Hid (ZgE n=0):=if_neg h
  by_cases c:n<0
  ·clear h
   go_enter func134,ntmps134
   go_wp2;go_ret;exact⟨ZbV (by rw[a.o];rfl),Below.refl _ _⟩
  ·have d:1048576<n:=by omega
   clear h
   go_enter func134,ntmps134
   go_wp2;go_ret;exact⟨ZbV (by rw[a.o];rfl),Below.refl _ _⟩
theorem ZyW (v:Value) (l:List UInt8) (w:World) (q:Rd w v l):
 Calls prog 217 #[v] w fun e w'=>e=.returned (.bool (decide (Gn l)))∧w'=w:=by
 obtain⟨ao,cap,rfl,E,x,t,f⟩:=q;clear t;have D:(l.length:Int)<=9223372036854775807:=by unfold maxLen at x;omega
 by_cases B:(l.length:Int)<10
 ·go_enter func217,ntmps217
  go_wp2
  go_loop [10] (fun i=>∃ k:Nat,i=.int .i64 k∧k<=l.length∧Hid (∀ j,j<k->128<=(l.getD j 0).toNat)) (fun i=>l.length-(intOf i).toNat)
  case atStart=>exact⟨0,rfl,by omega,fun j g=>by omega⟩
  case round=>
   obtain⟨k,rfl,C,n⟩:=hrel;by_cases d:k<l.length
   ·rcases f with f | ⟨b,z,rfl,p⟩
    ·subst f;simp at d
    ·have u:=p k d
     clear p;obtain⟨y,a⟩:∃ y,y=(l.getD k 0).toNat:=⟨_,rfl⟩;rw[<-a] at u;have m:Hid (y=(l.getD k 0).toNat):=a;clear a;by_cases A:(y:Int)<128
     ·go_wp2
      go_ret;refine⟨Zeg ?_,rfl⟩
      symm
      refine decide_eq_false fun c=>?_
      have:=c.2 k d;rw[<-m.o] at this;omega
     ·go_wp2
      go_round
      case rel=>
       refine⟨k+1,by go_num,by omega,fun j g=>?_⟩
       by_cases e:j=k
       ·rw[e,<-m.o];omega
       ·exact n.out j (by omega)
      case measure=>simp[intOf];omega
   ·go_wp2
    go_ret;refine⟨Zeg ?_,rfl⟩
    symm
    exact decide_eq_true ⟨by omega,fun j g=>n.out j (by omega)⟩
 ·go_enter func217,ntmps217
  go_wp2;go_ret;refine⟨Zeg ?_,rfl⟩
  symm
  exact decide_eq_false fun c=>by have:=c.1;omega
theorem Own.made0 (w:World) (B:Nat) (a:B<=w.heap.size):Own (w.alloc (.cells #[] 5)) B (.slice (some ⟨w.heap.size,0,none⟩) 0 0) []:=
 ⟨rfl,.inr ⟨w.heap.size,0,#[],rfl,a,heap_alloc_new w _,Nat.le_refl _,Nat.zero_le _,rfl,rfl⟩⟩
theorem Zvv (v:Value) (l:List UInt8) (w:World) (c:Rd w v l) (B:l.length<=70368744177664):
 Calls prog 113 #[v] w fun e w'=>∃ v',e=.returned v'∧Own w' w.heap.size v' l∧Below w.heap.size w w':=by
 have x:=ZZ c;obtain⟨ao,cap,rfl,A,u,a,g⟩:=c
 cases ao with
 | none=>
  have t:=a rfl;have n:l=[]:=List.eq_nil_of_length_eq_zero (by omega)
  subst n;subst t;clear g a;have m:∀ w,(binOp .eql 53 (.slice none 0 0) (.slice none 0 0)).run prog w=.ok (.bool true) w:=fun w=>run_eql_slice_nil w _ _ none 0 0 underlying53
  go_enter func113,ntmps113
  go_wp2;go_ret;exact⟨_,rfl,Own.nil _ _,Below.refl _ _⟩
 | some f=>
  clear g a A u;have m:∀ w,(binOp .eql 53 (.slice (some f) l.length cap) (.slice none 0 0)).run prog w=.ok (.bool false) w:=fun w=>run_eql_slice_nil w _ _ (some f) _ _ underlying53
  have y:=ZZ (Own.made0 w w.heap.size zL);have b:=ZZ ((Below.refl w.heap.size w).alloc zL (.cells #[] 5));have k:=ZZ (x.o.below b.o zL);have z:Hid (w.heap.size<=(w.alloc (.cells #[] 5)).heap.size):=b.o.size
  go_enter func113,ntmps113
  go_wp2_with(at_builtin;refine Xw _ rfl _ _ rfl w.heap.size _ [] rfl y.o _ l rfl k.o (by simp;omega) z.o ?_)
  intro p C d i;have j:=ZZ d;have q:=ZZ (b.o.trans i);clear d i;go_wp2;go_ret;exact⟨p,rfl,j.o,q.o⟩
theorem Zdj (v:Value) (l:List UInt8) (w:World) (B:Rd w v l):
 Calls prog 91 #[v] w fun e w'=>∃ v',e=.returned (.tuple #[v',.int .i64 ((Zyk l).2:Nat)])∧Own w' w.heap.size v' (Zyk l).1∧Below w.heap.size w w':=by
 have X:=ZZ B;obtain⟨i0,hi,au,ai,ap⟩:=info_parts Zlf;obtain⟨ao,cap,rfl,aw,ar,T,ac⟩:=B;clear T ac;have av:(l.length:Int)<=9223372036854775807:=by unfold maxLen at ar;omega
 by_cases h:(l.length:Int)<=1048576
 ·have a:Hid (Zyk l=(Ze l++Lib.leBytes 4 (Q2 0 (Ze l)),0)):=if_pos (by omega)
  have P:Hid (∀ w,Calls prog 132 #[.slice none 0 0,.int .i64 (l.length:Int)] w fun e w'=>∃ v',e=.returned v'∧Own w' w.heap.size v' (Lib.uvarint l.length)∧Below w.heap.size w w'):=by
   intro w;have:=ZbE (.slice none 0 0) [] (l.length:Int) w (Rd.nil _) (by simp)
   have e:Zsd [] (l.length:Int)=Lib.uvarint l.length:=if_pos ⟨by omega,by omega⟩
   rwa [e] at this
  have J:Hid (∀ w,Calls prog 134 #[.int .i64 (l.length:Int)] w fun e w'=>e=.returned (.int .i64 (ZgE (l.length:Int):Nat))∧Below w.heap.size w w'):=fun w=>Zra _ w (by omega) (by omega)
  have g:Hid (∀ v w,Rd w v (Ze l)->Calls prog 136 #[v] w fun e w'=>e=.returned (.int .u32 (Q2 0 (Ze l):Nat))∧Below w.heap.size w w'):=fun v w h=>ZlQ v _ w h
  have m:Hid (∀ w,Calls prog 135 #[.int .u32 (Q2 0 (Ze l):Nat)] w fun e w'=>∃ v',e=.returned v'∧Own w' w.heap.size v' (Lib.leBytes 4 (Q2 0 (Ze l)))∧Below w.heap.size w w'):=fun w=>ZhX _ w (ZmC _)
  have n:Hid (Ze l=Lib.uvarint l.length++l):=rfl;have af:Hid ((Lib.leBytes 4 (Q2 0 (Ze l))).length=4):=Lib.leBytes_length 4 _;have b:Hid ((Lib.uvarint l.length).length<=3):=Zzy (by omega)
  have ax:ZgE (l.length:Int)<=2000000:=by
   have e:ZgE (l.length:Int)=(Lib.uvarint l.length).length+4+l.length:=if_pos ⟨by omega,h⟩
   have:=b.o;rw[e];omega
  generalize ZgE (l.length:Int)=z at *;generalize Q2 0 (Ze l)=s at *;obtain⟨S,C⟩:∃ S:Int,S=(s:Int):=⟨_,rfl⟩;rw[<-C] at m g;clear C;generalize Lib.leBytes 4 s=q at *;generalize Lib.uvarint l.length=u at *;generalize Ze l=hd at *;have hh:=n.o;subst hh;clear n
  go_enter func91,ntmps91
  go_wp2_with fail
  refine(J.o _).mono ?_;rintro e w1 ⟨rfl,j⟩;have U:=ZZ j;have x:=j.size;clear j J
  go_wp2_with(at_make;refine wpList_make_own _ rfl _ _ 53 rfl w.heap.size 5 i0 (.int .u8 0) 1 underlying53 hi au ai _ _ _ z rfl rfl (by omega) (by rw[ap];omega) (by unfold maxLen;omega) x ?_)
  intro w2 t H;have an:Hid (Own w2 w.heap.size (.slice (some ⟨w1.heap.size,0,none⟩) 0 z) []):=t;have K:=ZZ (U.o.grown H x (fun k hk=>by cases hk))
  have al:=K.o.size;clear t H
  go_wp2_with fail
  refine(P.o _).mono ?_;rintro e w3 ⟨v3,rfl,G,i⟩;have A:=ZZ (K.o.trans (i.mono al));have am:=ZZ G.rd;have ae:=ZZ (an.o.below i zL);have W:=A.o.size;clear G i P
  go_wp2_with(at_builtin;refine Xw _ rfl _ _ rfl w.heap.size _ [] rfl ae.o _ u rfl am.o (by have:=b.o;simp;omega) W ?_)
  intro v4 w4 F L;have f:=ZZ (A.o.trans L);have ag:Hid (Own w4 w.heap.size v4 u):=F;have ab:=f.o.size;clear F L
  go_wp2_with(at_builtin;refine Xw _ rfl _ _ rfl w.heap.size _ u rfl ag.o _ l rfl (X.o.below f.o zL) (by have:=b.o;omega) ab ?_)
  intro R w5 D y;have M:=ZZ (f.o.trans y);have I:Hid (Own w5 w.heap.size R (u++l)):=D;have ad:=M.o.size;clear D y
  go_wp2_with fail
  refine(g.o _ _ I.o.rd).mono ?_;rintro e w6 ⟨rfl,c⟩;have Q:=ZZ (M.o.trans (c.mono ad));have Y:=ZZ (I.o.below c zL);have ak:=Q.o.size;clear c g
  go_wp2_with fail
  refine(m.o _).mono ?_;rintro e w7 ⟨v7,rfl,p,d⟩;have O:=ZZ (Q.o.trans (d.mono ak));have aq:=ZZ p.rd;have aa:=ZZ (Y.o.below d zL);have aj:=O.o.size;clear p d m
  go_wp2_with(at_builtin;refine Xw _ rfl _ _ rfl w.heap.size _ (u++l) rfl aa.o _ q rfl aq.o (by have:=b.o;have:=af.o;simp;omega) aj ?_)
  intro v8 w8 N E;have V:=ZZ (O.o.trans E);have Z:=ZZ N;clear N E;go_wp2;go_ret2;exact⟨v8,by rw[a.o];rfl,by rw[a.o];show Own _ _ _ (u++l++q);rw[List.append_assoc];exact Z.o,V.o⟩
 ·have a:Hid (Zyk l=([],5)):=if_neg (by omega)
  go_enter func91,ntmps91
  go_wp2;go_ret2;exact⟨_,by rw[a.o];rfl,by rw[a.o];exact Own.nil _ _,Below.refl _ _⟩
theorem ZlS {B B':Nat} {e:TypeId} {xs:List Value} (h:w.ownsRow B e k v n xs) (d:Below B' w w') (l:w.heap.size<=B'):w'.ownsRow B e k v n xs:=by
 obtain⟨i,a⟩:=h;refine⟨i,?_⟩;rcases a with a | ⟨g,cap,cur,f,c,b,r⟩
 ·exact .inl a
 ·have j:g<w.heap.size:=(Array.getElem?_eq_some_iff.1 b).1
  exact .inr ⟨g,cap,cur,f,c,by rw[d.block g (by omega)];exact b,r⟩
theorem ZlT (P:List (List UInt8)) (q:Nat) (a:q<P.length):Qf (P.take (q+1))=Qf (P.take q)++Qd (P.getD q []):=by
 have b:P.take (q+1)=P.take q++[P.getD q []]:=by
  rw[take_add_one,List.getElem?_eq_getElem a];simp[List.getD,a]
 rw[b,Zax,Q8];simp[Qf]
theorem Zct (P:List (List UInt8)) (q:Nat):(Qf (P.take q)).length<=(Qf P).length:=by
 have h:Qf P=Qf (P.take q)++Qf (P.drop q):=by rw[<-Zax,List.take_append_drop]
 rw[h,length_append];omega
theorem ZpH (s:Q0):ZaI s=Zbn s.idx.toNat (Xt s)::Ya (Xt s):=rfl
theorem Zvw (s:Q0):Xt s≠[]:=by
 unfold Xt;intro h;have b:=(List.append_eq_nil_iff.1 h).1;have a:=congrArg List.length b;have:=J2 (Zeq s.st).length;rw[List.length_nil] at a;omega
theorem ZpI (v:Value) (s:Q0) (w:World) (hs:SnV w v s):
 Calls prog 56 #[v] w fun e w'=>ZqZ w s e w':=by
 have an:=ZZ hs;obtain⟨vl,vt,rfl,hl,hk,he,ht,hi⟩:=hs;obtain⟨la,lc,bk,-⟩:=id hl;obtain⟨ta,tc,a1⟩:=ht.shape;subst bk a1;have E:=ZZ (fun W (h:Below w.heap.size w W)=>ZqY _ s W (an.o.below h zL))
 obtain⟨P,n⟩:∃ P,P=w.alloc (.cells #[.int .i64 s.idx,.int .i64 s.st.kind,.slice la s.st.L.length lc,.bool s.st.shut,.int .i64 s.st.eng,.slice ta s.tab.length tc] 41):=⟨_,rfl⟩;have m:Hid (Below w.heap.size w P):=ZZ (by rw[n];exact(Below.refl _ _).alloc zL _)
 have f:Hid (Bn P w.heap.size #[.int .i64 s.idx,.int .i64 s.st.kind,.slice la s.st.L.length lc,.bool s.st.shut,.int .i64 s.st.eng,.slice ta s.tab.length tc]):=ZZ (by rw[n];exact heap_alloc_new w _)
 obtain⟨H,-⟩:=f.o.cell 0;obtain⟨p1,-⟩:=f.o.cell 1;obtain⟨p2,-⟩:=f.o.cell 2;obtain⟨p3,-⟩:=f.o.cell 3;obtain⟨p4,-⟩:=f.o.cell 4;obtain⟨p5,-⟩:=f.o.cell 5;unfold ZqZ;clear hl hk he ht hi;by_cases d:Z6 s
 case neg=>
  rw[if_neg d,if_neg d];rw[decide_eq_false d] at E;clear d
  go_enter func56,ntmps56
  go_upto_region 1 with fail
  rw[<-n];clear n
  go_wp2_with fail
  refine(E.o _ m.o).mono ?_;rintro x W1 ⟨rfl,B⟩;have u:=ZZ (m.o.trans (B.mono m.o.size));clear B;go_wp2;go_ret2;exact⟨_,rfl,Own.nil _ _,u.o⟩
 rw[if_pos d,if_pos d];rw[decide_eq_true d] at E;have aK:=ZZ (fun W (h:Below w.heap.size w W)=>ZpG _ s W (an.o.below h zL) d)
 have a8:=Zay d;have aU:=d.1;have V:=ZZ (fun v1 W h=>ZjO s.idx v1 (Xt s) W h)
 have N:=ZZ (fun W=>Zxs s.idx ((Xt s).length:Int) (Q2 0 (Xt s)) W aU ⟨by omega,by omega⟩ (ZmC _))
 rw[Int.toNat_natCast,Zxr] at N;have aD:=ZZ (fun v1 W h=>ZkB v1 (Xt s) W h (by omega))
 have I:Hid (ZaI s=Zbn s.idx.toNat (Xt s)::Ya (Xt s)):=ZZ (ZpH s);have Z:Hid (∀ x ∈ ZaI s,x.length<=1048576):=ZZ (Zki d);have av:Hid ((Qf (ZaI s)).length<=80000):=ZZ (Zxt d);have aJ:Hid (ZjA s=Qf (ZaI s)):=ZZ rfl;rw[aJ.o]
 have ak:Hid (0<(Ya (Xt s)).length∧(Ya (Xt s)).length<=5000):=ZZ (by
  constructor
  ·rw[Zx (Zvw s)]
   simp
  ·have h1:=Zct (ZaI s) (ZaI s).length
   have h2:∀ (L:List (List UInt8)),(∀ x ∈ L,1<=x.length)->L.length<=L.flatten.length:=fun L hL=>by
    induction L with
    | nil=>simp
    | cons x t ih=>
     have T:=hL x (by simp)
     have h4:=ih (fun y hy=>hL y (by simp[hy]))
     rw[length_cons,flatten_cons,length_append];omega
   have T:=h2 (Ya (Xt s)) (fun x hx=>(Zfw _ _ x zL hx).2)
   rw[ZdI _ _ zL] at T
   omega)
 generalize Xt s=R at *;generalize Zbn s.idx.toNat R=k at *;generalize Ya R=PW at *;generalize Q2 0 R=CR at *;obtain⟨b,aL⟩:∃ b,b=ZaI s:=⟨_,rfl⟩;rw[<-aL] at I Z av ⊢;clear aL aJ d;obtain⟨CI,aB⟩:∃ CI:Int,CI=(CR:Int):=⟨_,rfl⟩;rw[<-aB] at V N;clear aB an
 go_enter func56,ntmps56
 go_upto_region 1 with fail
 rw[<-n];clear n
 go_wp2_with fail
 refine(E.o _ m.o).mono ?_;rintro x W1 ⟨rfl,B⟩;have u:=ZZ (m.o.trans (B.mono m.o.size));have j:=ZZ (f.o.below B zL);clear B E H p1 p2 p3 p4 p5 f m;obtain⟨H,-⟩:=j.o.cell 0;obtain⟨p1,-⟩:=j.o.cell 1;obtain⟨p2,-⟩:=j.o.cell 2;obtain⟨p3,-⟩:=j.o.cell 3;obtain⟨p4,-⟩:=j.o.cell 4;obtain⟨p5,-⟩:=j.o.cell 5
 go_wp2_with fail
 refine(aK.o _ u.o).mono ?_;rintro x W2 ⟨v2,rfl,ae,aq⟩;have al:=ZZ (u.o.trans (aq.mono u.o.size));have aX:=ZZ (j.o.below aq zL);have ar:=ZZ ae.rd;obtain⟨a2,c2,bb⟩:∃ a c,v2=.slice a R.length c:=by obtain⟨a,c,h,-⟩:=ae.rd;exact⟨a,c,h⟩
 subst bb;clear ae aq aK H p1 p2 p3 p4 p5 j u;obtain⟨H,-⟩:=aX.o.cell 0
 go_wp2_with fail
 refine(V.o _ _ ar.o).mono ?_;rintro x W3 ⟨rfl,au⟩;have ad:=ZZ (al.o.trans (au.mono al.o.size));have aQ:=ZZ (ar.o.below au zL);clear au V aX H al ar
 go_wp2_with fail
 refine(N.o _).mono ?_;rintro x i ⟨v4,rfl,aj,am⟩;have aR:=ZZ (ad.o.trans (am.mono ad.o.size));have ab:=ZZ (aQ.o.below am zL);have aF:=ZZ aj.rd;obtain⟨z,p,bd⟩:∃ a c,v4=.slice a k.length c:=by obtain⟨a,c,h,-⟩:=aj.rd;exact⟨a,c,h⟩
 subst bd;clear aj am N ad aQ;have Q:Hid (Below i.heap.size i (i.alloc (.cells #[.slice z k.length p] 53))):=ZZ ((Below.refl _ _).alloc zL _);have aO:Hid ((i.alloc (.cells #[.slice z k.length p] 53)).ownsRow i.heap.size 53 1 (.slice (some ⟨i.heap.size,0,none⟩) 1 1) 1 [.slice z k.length p]):=ZZ (World.ownsRow_lit i #[.slice z k.length p] 1 zL (by unfold maxLen;omega) rfl)
 go_wp2_with fail
 refine(aD.o _ _ (ab.o.below Q.o zL)).mono ?_;rintro x W6 ⟨v6,xs,rfl,X,O,af⟩;have ay:=ZZ (Q.o.trans (af.mono Q.o.size));have aE:=ZZ (ZlS aO.o af zL);have M:=ZZ O;have aV:=ZZ X;clear af O aO Q aD;rcases X.2 with ⟨-,hn⟩ | ⟨g6,bi,bq,O,-⟩
 ·have:=ak.o
  omega
 subst O;clear X;have aW:=ay.o.size;have a9:=ak.o
 go_wp2_with(at_builtin;refine Zam _ rfl _ _ rfl i.heap.size _ 1 [.slice z k.length p] rfl aE.o _ PW.length bi xs rfl M.o.1 (World.ownsRow.cells aV.o rfl) M.o.one (by omega) aW ?_)
 intro v7 l aa aN;have U:=ZZ (ay.o.trans aN);have ac:=ZZ (aR.o.trans (U.o.mono aR.o.size));have aY:=ZZ (aF.o.below U.o zL);have aH:=ZZ (ab.o.below U.o zL);have aS:=ZZ aa;have ap:b.length=1+PW.length:=by rw[I.o,length_cons];omega
 have bp:(b.length:Int)<=100000:=by omega
 have bf:Hid (∀ q,q<b.length->∃ x,([Value.slice z k.length p]++xs)[q]?=some x∧Rd l x (b.getD q [])):=ZZ (fun q C=>by
  cases q with
  | zero=>
   refine⟨_,rfl,?_⟩;rw[I.o];exact aY.o
  | succ q=>
   obtain⟨x,h1,h2,T⟩:=M.o.2 q (by omega)
   refine⟨x,by simpa using h1,?_⟩
   rw[I.o]
   exact T l aH.o)
 rcases aa.2 with ⟨-,hn⟩ | ⟨Y,bm,bo,bj,-⟩
 ·omega
 subst bj;rw[<-ap] at aS;clear aa aN aY aH aE M aF ab ay U ak a9 aW aV;have a6:Hid (∀ q,q<b.length->Qf (b.take (q+1))=Qf (b.take q)++Qd (b.getD q [])):=ZZ (fun q C=>ZlT b q C)
 have aC:Hid (∀ q,(Qf (b.take q)).length<=80000):=ZZ (fun q=>Nat.le_trans (Zct b q) av.o)
 have bl:Hid (∀ q,q<b.length->(b.getD q []).length<=1048576):=ZZ (fun q C=>Z.o _ (by rw[show b.getD q []=b[q] by simp[List.getD,C]];exact getElem_mem C))
 rw[<-ap];clear ap I Z a8 aU av;go_wp2
 go_loopw[6,27] (fun vo vi wr=>∃ q:Nat,vi=.int .i64 (q:Int)∧q<=b.length∧Hid (Own wr l.heap.size vo (Qf (b.take q)))∧Hid (Below l.heap.size l wr)) (fun _ vi _=>b.length-(intOf vi).toNat)
 case atStart=>exact⟨0,rfl,Nat.zero_le _,ZZ (Own.nil _ _),Below.refl _ _⟩
 case round=>
  obtain⟨q,rfl,C,J,A⟩:=hrel;by_cases ao:q<b.length
  case neg=>
   obtain rfl:q=b.length:=by omega
   rw[take_length] at J;go_wp2;go_ret2;exact⟨_,rfl,J.out.mono ac.o.size,ac.o.trans (A.out.mono ac.o.size)⟩
  have bn:(q:Int)<(b.length:Int):=by omega
  obtain⟨x,aG,ag⟩:=bf.o q ao;have K:=World.ownsRow.cells aS.o (g:=Y) rfl q x aG;rw[Addr.add_lit] at K;have aP:wr.cell? ⟨Y,0+q,none⟩=some x:=(A.out.cell (World.block_lt_of_cell? l ⟨Y,0+q,none⟩ K)).trans K;rw[Nat.zero_add] at aP;have aZ:=ZZ (ag.below A.out zL)
  have a0:Hid (Zyk (b.getD q [])=(Qd (b.getD q []),0)):=ZZ (by
   unfold Zyk
   rw[if_pos (bl.o q ao)])
  have aw:=ZZ (a6.o q ao);have bg:=ZZ (aC.o q);have ax:=ZZ (aC.o (q+1));have S:=ZZ (Zdj x (b.getD q []) wr aZ.o);rw[a0.o] at S;rw[aw.o] at ax
  dsimp only at S
  obtain⟨xa,xc,be⟩:∃ a c,x=.slice a (b.getD q []).length c:=by obtain⟨a,c,h,-⟩:=ag;exact⟨a,c,h⟩
  subst be;clear aG ag K a0 aZ;generalize Qd (b.getD q [])=F at *;generalize b.getD q []=D at *;obtain⟨G,hG⟩:∃ G,G=Qf (b.take q):=⟨_,rfl⟩;rw[<-hG] at J aw bg ax;clear hG
  go_wp2_with fail
  refine S.o.mono ?_;rintro e W8 ⟨v8,rfl,aT,ai⟩;have ba:=ZZ aT.rd;have az:=ZZ (J.out.below ai zL);have aA:=ZZ (A.out.trans (ai.mono A.out.size));have a5:=ZZ aA.o.size;have a7:Hid (G.length+F.length<=70368744177664):=ZZ (by have:=ax.o;rw[length_append] at this;omega)
  clear aT ai S J A aP
  go_wp2_with(at_builtin;refine Xw _ rfl _ _ rfl l.heap.size _ G rfl az.o _ F rfl ba.o a7.o a5.o ?_)
  intro v9 W9 aM aI;have a3:=ZZ aM;have bc:=ZZ (aA.o.trans aI);clear aM aI az;go_wp2;go_roundw
  case rel=>exact⟨q+1,by go_num,by omega,ZZ (by rw[aw.o];exact a3.o),bc⟩
  case measure=>simp[intOf];omega
theorem ZpJ (w:World) (h:SD K w pd p s d N T) (g:∀ k,K k->k<w.heap.size) (n:ZpE s):
 Calls prog 26 #[ptr p] w fun e w'=>Jz K w pd p (Yf (s,d)) (N+4) T e w':=by
 have a:=ZZ (ZeO w h g n);unfold Yf;obtain⟨r,m⟩:∃ r,r=Q5 (s,d):=⟨_,rfl⟩;rw[<-m] at a ⊢;have A:=ZZ g;obtain⟨R,j⟩:∃ R,R=if r.2=0 then(({ r.1.1 with cur:=0 },r.1.2),(0:Int)) else r:=⟨_,rfl⟩
 rw[<-j];have b:=ZZ j;clear h g m j n;obtain⟨⟨q,D⟩,c⟩:=r
 dsimp only at b
 unfold Jz at a
 dsimp only at a
 go_enter func26,ntmps26
 go_wp2_with fail
 refine a.o.mono ?_;rintro e y ⟨rfl,i,l⟩;have t:=ZZ i;have u:=ZZ l;have x:Hid (∀ k,K k->k<y.heap.size):=ZZ (fun k z=>Nat.lt_of_lt_of_le (A.o k z) l.size)
 obtain⟨⟨-,-,C,-⟩,fz⟩:=i.cells;have F:=fz 12;clear i l a fz;by_cases f:c=0
 ·subst f
  rw[if_pos rfl] at b;have v:=ZZ (t.o.setHead (s':={ q with cur:=0 }) x.o 12 (.int .i64 0) rfl rfl rfl (fun _=>rfl))
  generalize q.cur=E at *;go_wp2;go_ret;rw[b.o];exact⟨rfl,v.o.1,u.o.trans v.o.2 (fun _ _ h=>h)⟩
 ·rw[if_neg f] at b
  have B:(c != 0)=true:=by rw[bne_iff_ne];exact f
  clear f;go_wp2;go_ret;rw[b.o];exact⟨rfl,t.o,u.o⟩
theorem Zvx {l:List Int} (b:k<l.length) (a:l.getD k 0=x):x ∈ l:=by
 rw[<-a];exact Zir b
theorem ZsH (v:Value) (l:List Int) (x:Int) (w:World) (u:RdI w v l):
 Calls prog 144 #[v,.int .i64 x] w fun e w'=>(∃ k:Int,e=.returned (.int .i64 k)∧((0<=k∧x ∈ l)∨(k=-1∧x ∉ l)))∧w'=w:=by
 obtain⟨ao,cap,rfl,E,q,-,-,t⟩:=u;have I:(l.length:Int)<=9223372036854775807:=by unfold maxLen at q;omega
 have D:=ZZ t;clear t q E
 go_enter func144,ntmps144
 go_wp2
 go_loop [8] (fun i=>∃ k:Nat,i=.int .i64 k∧k<=l.length∧Hid (∀ j,j<k->l.getD j 0≠x)) (fun i=>l.length-(intOf i).toNat)
 case atStart=>exact⟨0,rfl,Nat.zero_le _,fun j c=>by omega⟩
 case round=>
  obtain⟨k,rfl,H,n⟩:=hrel;by_cases b:k<l.length
  ·rcases D.o with z | ⟨g,F,rfl,p⟩
   ·rw[z] at b;simp at b
   have A:=p k b;clear p;have C:=ZZ b;obtain⟨y,d⟩:∃ y,y=l.getD k 0:=⟨_,rfl⟩;rw[<-d] at A;have m:=ZZ d;clear d;by_cases a:x=y
   ·subst a
    go_wp2;go_ret;exact⟨⟨(k:Int),rfl,.inl ⟨by omega,Zvx C.o m.o.symm⟩⟩,rfl⟩
   ·have G:(x == y)=false:=beq_eq_false_iff_ne.2 a
    have f:=ZZ a;clear a;go_wp2
    go_round
    case rel=>
     refine⟨k+1,by go_num,by omega,fun j c=>?_⟩
     by_cases e:j=k
     ·rw[e,<-m.o];exact fun h=>f.o h.symm
     ·exact n.out j (by omega)
    case measure=>simp[intOf];omega
  ·have f:Hid (x ∉ l):=ZZ (fun B=>by
    obtain⟨j,c,e⟩:=List.getElem_of_mem B
    exact n.out j (by omega) (by simp[List.getD,c,e]))
   go_wp2;go_ret;exact⟨⟨-1,rfl,.inr ⟨rfl,f.o⟩⟩,rfl⟩
theorem ZlU (v:Value) (l:List Int) (x:Int) (w:World) (f:RdI w v l):
 Calls prog 106 #[v,.int .i64 x] w fun e w'=>e=.returned (.bool (decide (x ∈ l)))∧w'=w:=by
 have g:=ZZ (ZsH v l x w f);obtain⟨ao,cap,rfl,-⟩:=f;obtain⟨b,d⟩:∃ b,b=decide (x ∈ l):=⟨_,rfl⟩;rw[<-d];have c:=ZZ d;clear d
 go_enter func106,ntmps106
 go_wp2_with fail
 refine g.o.mono ?_;rintro e j ⟨⟨k,rfl,i⟩,rfl⟩;clear g;rcases i with ⟨m,a⟩ | ⟨rfl,a⟩
 ·rw[decide_eq_true a] at c
  clear a;go_wp2;go_ret;rw[c.o];exact⟨rfl,rfl⟩
 ·rw[decide_eq_false a] at c
  clear a;go_wp2;go_ret;rw[c.o];exact⟨rfl,rfl⟩
theorem ZsI (w:World) (h:SD K w pd p s d N T) (y:∀ k,K k->k<w.heap.size) (A:N<=1000000) (hT:T<=1000000000):
 Calls prog 63 #[ptr p] w fun e w'=>Jz K w pd p (Yy (s,d)) (N+2) T e w':=by
 obtain⟨⟨V,-⟩,-⟩:=h.cells
 have E:Hid (Calls prog 28 #[ptr pd] w fun e w'=>∃ v,e=.returned v∧Qs w' w.heap.size v (Qk d)∧Below w.heap.size w w'):=ZZ (by
  obtain⟨F,M,I,L,⟨U,G,t,-⟩,-⟩:=h
  exact ZeC w G t A)
 have S:Hid (∀ n ∈ Qk d,I64 n):=ZZ (by
  obtain⟨F,M,I,L,⟨U,G,t,-⟩,-⟩:=h;intro n hn;have:=Zbg t n hn
  exact⟨by omega,by omega⟩)
 have q:=ZZ h;have HK:=ZZ y;have l:Hid (∀ W,Below w.heap.size w W->Calls prog 69 #[ptr pd,.int .i64 1] W fun e w'=>Jz K W pd p (Xm (fun d=>Qj d 1) (s,d)) (N+2) T e w'):=ZZ (fun W C=>(q.o.below C).step (fun d=>Qj d 1) (fun k Z=>Nat.lt_of_lt_of_le (HK.o k Z) C.size) (fun F X _=>Zkk 1 ⟨by decide,by decide⟩ _ X A hT))
 obtain⟨R,m⟩:∃ R,R=Yy (s,d):=⟨_,rfl⟩;rw[<-m];have i:=ZZ m;clear h y m
 go_enter func63,ntmps63
 go_wp2_with fail
 refine E.o.mono ?_;rintro e j ⟨P,rfl,u,f⟩;have z:=ZZ f;have g:=ZZ (ZlU P (Qk d) 1 j (u.rd S.o))
 obtain⟨a1,n1,c1,Y⟩:∃ a n c,P=.slice a n c:=by
  obtain⟨a,c,hh⟩:=u.shape;exact⟨a,_,c,hh⟩
 subst Y;have O:Hid (Ql (fun k=>¬ K k) w j):=ZZ (Ql.ofBelow f)
 obtain⟨⟨d0,-⟩,-⟩:=(q.o.below f).cells;clear u f E V;by_cases b:1 ∈ Qk d
 ·rw[decide_eq_true b] at g
  have x:Hid (R=Xm (fun d=>Qj d 1) (s,d)):=ZZ (by rw[i.o];unfold Yy;rw[if_pos b])
  have J:=ZZ (l.o j z.o);rw[<-x.o] at J;clear b i l
  go_wp2_with fail
  refine g.o.mono ?_;rintro e Q ⟨rfl,rfl⟩
  go_wp2_with fail
  refine J.o.mono ?_;rintro e W3 ⟨rfl,D,H⟩;have B:=ZZ (And.intro D H);clear D H;go_wp2;go_ret;exact⟨rfl,B.o.1,O.o.trans B.o.2 (fun _ _ h=>h)⟩
 ·rw[decide_eq_false b] at g
  have x:Hid (R=((s,d),0)):=ZZ (by rw[i.o];unfold Yy;rw[if_neg b])
  clear b i l
  go_wp2_with fail
  refine g.o.mono ?_;rintro e Q ⟨rfl,rfl⟩;go_wp2;go_ret;rw[x.o];exact⟨rfl,(q.o.below z.o).mono (by omega) zL,O.o⟩
theorem ZpK (w:World) (h:SD K w pd p s d N T) (b:∀ k,K k->k<w.heap.size) (n:w.cell? ⟨R,0,none⟩=some (ptr p)):
 Calls prog 58 #[.pointer (some ⟨R,0,none⟩)] w fun e w'=>Jz K w pd p (Xm (fun d=>X3 d 1) (s,d)) (N+2) T e w':=by
 have c:=ZZ (h.step (fun d=>X3 d 1) b (fun F i _=>ZqM 1 ⟨by decide,by decide⟩ _ i))
 obtain⟨⟨m,-⟩,-⟩:=h.cells;obtain⟨r,a⟩:∃ r,r=Xm (fun d=>X3 d 1) (s,d):=⟨_,rfl⟩
 rw[<-a] at c ⊢;clear h b a
 go_enter func58,ntmps58
 go_wp2_with fail
 refine c.o.mono ?_;rintro e l ⟨rfl,f,g⟩;have j:=ZZ (And.intro f g);clear f g;go_wp2;go_ret;exact⟨rfl,j.o⟩
theorem ZpL (w:World) (h:SD K w pd p s d N T) (y:∀ k,K k->k<w.heap.size) (H:w.cell? ⟨R,0,none⟩=some (ptr p)) (C:K R) (E:N<=1000000) (Y:T<=1000000000):
 Calls prog 60 #[.pointer (some ⟨R,0,none⟩)] w fun e w'=>Jz K w pd p (Gs (s,d)) (N+2) T e w':=by
 have t:=ZZ h;have j:=ZZ y;have i:=ZZ C
 have Z:Hid (∀ W,Below w.heap.size w W->Calls prog 50 #[ptr p,.int .i64 3] W fun e w'=>e=.returned (.int .i64 (Xs d 3))∧Below w.heap.size w w'):=ZZ (fun W b=>by
  obtain⟨F,M,I,L,h1,O,-⟩:=t.o.below b;refine(Zgn 3 W O h1 E (by decide) (by decide)).mono ?_
  rintro e w' ⟨rfl,f⟩
  exact⟨rfl,b.trans (f.mono b.size)⟩)
 have D:Hid (I64 (Xs d 3)):=ZZ (by
  obtain⟨F,M,I,L,⟨L1,g1,g2,-⟩,-⟩:=h;have f:∀ n ∈ Xk (Qk d) 3,0<=n∧n<1048576:=fun n u=>Zbg g2 n (List.mem_filter.1 u).1
  unfold Xs;generalize Xk (Qk d) 3=l at f ⊢;by_cases Q:l.length=0
  ·rw[List.eq_nil_of_length_eq_zero Q]
   exact⟨by decide,by decide⟩
  ·have e:l.getD (l.length-1) (3-2)=l[l.length-1]'(by omega):=by simp[List.getD,show l.length-1<l.length by omega]
   have:=f _ (getElem_mem (show l.length-1<l.length by omega))
   rw[e]
   exact⟨by omega,by omega⟩)
 have J:Hid (∀ W,Below w.heap.size w W->Calls prog 61 #[ptr pd,.int .i64 1,.int .i64 (Xs d 3)] W fun e w'=>Jz K W pd p (Gs (s,d)) (N+2) T e w'):=ZZ (fun W b=>(t.o.below b).step (fun d=>Ji d 1 (Xs d 3)) (fun k X=>Nat.lt_of_lt_of_le (j.o k X) b.size) (fun F U _=>ZrZ 1 (Xs d 3) ⟨by decide,by decide⟩ D.o _ U E Y))
 have g:Hid (∀ W,Below w.heap.size w W->W.cell? ⟨R,0,none⟩=some (ptr p)∧W.cell? ⟨p,0,none⟩=some (ptr pd)):=ZZ (fun W b=>by
  obtain⟨⟨m,-⟩,-⟩:=(t.o.below b).cells
  exact⟨(b.cell (p:=⟨R,0,none⟩) (j.o R i.o)).trans H,m⟩)
 have S:Hid (∀ W W' (r:SDk × Int),Below w.heap.size w W->SD K W' pd p r.1.1 r.1.2 (N+2) T->Ql (fun k=>¬ K k) W W'->W'.cell? ⟨R,0,none⟩=some (ptr p)∧W'.cell? ⟨p,0,none⟩=some (ptr pd)):=ZZ (fun W W' (r:SDk × Int) b hs ho=>by
  obtain⟨⟨m,-⟩,-⟩:=hs.cells
  exact⟨(World.cell?_of_block (a:=⟨R,0,none⟩) (ho.block R (Nat.lt_of_lt_of_le (j.o R i.o) b.size) (fun u=>u i.o))).trans (g.o W b).1,m⟩)
 have G:Hid (Below w.heap.size w w.drew):=ZZ (Below.refl _ _).drew;obtain⟨c9,c0⟩:=g.o w (Below.refl _ _);obtain⟨r,x⟩:∃ r,r=Gs (s,d):=⟨_,rfl⟩;rw[<-x] at J ⊢;generalize Xs d 3=nn at *;clear h y x H C D
 go_enter func60,ntmps60
 go_upto_region 1 with fail
 go_region_held(fun W=>W.cell? ⟨R,0,none⟩=some (ptr p)∧W.cell? ⟨p,0,none⟩=some (ptr pd))
  (first | (with_reducible exact g.o _ G.o) | (with_reducible exact g.o _ c.o) | (with_reducible exact V.o))
  (first
   | (go_at_call 50;refine(Z.o _ G.o).mono ?_;rintro e B ⟨rfl,z⟩;have c:=ZZ z;clear z)
   | (go_at_call 61;refine(J.o B c.o).mono ?_;rintro e P ⟨rfl,q,v⟩;have A:=ZZ (And.intro q v);have V:=ZZ (S.o B P r c.o q v);clear q v))
 all_goals
  go_wp2;go_ret;exact⟨rfl,A.o.1,(Ql.ofBelow c.o).trans A.o.2 (fun _ _ h=>h)⟩
theorem ZfQ (h:q<l.length):l.take (q+1)=l.take q++[l.getD q Qi]:=by
 rw[take_add_one];simp[List.getD,h]
theorem ZnI:∀ (l:List Rec) (i:Int) (j:Nat),Xl i l->j<l.length->(l.getD j Qi).idx=i+j
 | r::t,i,0,h,_=>by
  have:=h.1;simp[List.getD,this]
 | r::t,i,j+1,h,hj=>by
  have:=ZnI t (i+1) j h.2 (by simpa using hj)
  simp only [List.getD,List.getElem?_cons_succ] at this ⊢;rw[this];omega
theorem ZfR:∀ (l:List Rec) (i:Int) (r:Rec),Xl i (l++[r])↔Xl i l∧r.idx=i+l.length
 | [],i,r=>by simp[Xl]
 | s::t,i,r=>by
  rw[List.cons_append,Xl,Xl,ZfR t (i+1) r,length_cons,and_assoc];constructor
  ·rintro⟨h1,h2,h3⟩
   exact⟨h1,h2,by omega⟩
  ·rintro⟨h1,h2,h3⟩
   exact⟨h1,h2,by omega⟩
theorem ZkC:∀ (l:List Rec) (i:Int) (k:Nat),Xl i l->Xl i (l.take k)
 | _,_,0,_=>by simp[Xl]
 | [],_,k+1,_=>by simp[Xl]
 | r::t,i,k+1,h=>by
  rw[List.take_succ_cons];exact⟨h.1,ZkC t (i+1) k h.2⟩
def ZjQ (l:List Rec) (k:Nat):Prop:=(∀ r ∈ l.take k,Qz r)∧Xl (l.headD Qi).idx (l.take k)
theorem ZsJ (l:List Rec):ZjQ l 0:=⟨fun r h=>by simp at h,by simp[Xl]⟩
theorem ZsK (c:k<l.length):ZjQ l (k+1)↔ZjQ l k∧Qz (l.getD k Qi)∧(l.getD k Qi).idx=(l.headD Qi).idx+k:=by
 unfold ZjQ;rw[ZfQ c,ZfR];have b:(l.take k).length=k:=by simp;omega
 rw[b];constructor
 ·rintro⟨h1,h2,h3⟩
  exact⟨⟨fun r a=>h1 r (by simp[a]),h2⟩,h1 _ (by simp),h3⟩
 ·rintro⟨⟨h1,h2⟩,h3,h4⟩
  refine⟨fun r a=>?_,h2,h4⟩
  rcases List.mem_append.1 a with h | h
  ·exact h1 r h
  ·simp only [List.mem_singleton] at h
   rw[h];exact h3
theorem Zvy (h:ZjQ l l.length) (a:1<=l.length) (b:l.length<=256):Yc l:=by
 unfold ZjQ at h;rw[take_length] at h;exact⟨a,b,h.1,h.2⟩
theorem Yc.part (h:Yc l) (k:Nat):ZjQ l k:=⟨fun r a=>h.2.2.1 r (List.mem_of_mem_take a),ZkC l _ k h.2.2.2⟩
theorem Zgr {o:Opn} (h:Ge o):(X6 o).length<=30:=by
 have b:=Zwv (ZaM h).1;have d:=Zwv (ZaM h).2;have e:0<=o.code:=h.1;have a:o.code<=10:=h.2.1;have c:=Gh (n:=o.code.toNat) (by omega)
 unfold X6;rw[length_append,length_append];omega
theorem ZkD {b:List Rec} (d:∀ r ∈ b,Qz r) {r:Rec} (a:Qz r):(Zf b r).length<=60:=by
 have e:=Zeu d a;have c:=ZaX a;have f:=Zgr a.1;obtain⟨_,_,_,_,_,i,g,_⟩:=a;have j:=Gh (n:=r.proc.toNat) (by omega)
 have k:=Zwv e;have l:=Zwv c;unfold Zf;simp only [length_append];omega
theorem ZnJ:∀ (l a:List Rec),(∀ r ∈ a,Qz r)->(∀ r ∈ l,Qz r)->(Yg a l).length<=60*l.length
 | [],_,_,_=>by simp[Yg]
 | r::t,a,hp,hl=>by
  have c:=ZkD hp (hl r (by simp))
  have d:=ZnJ t (a++[r]) (fun s b=>by
   rcases List.mem_append.1 b with h | h
   ·exact hp s h
   ·simp at h;rw[h];exact hl r (by simp)) (fun s b=>hl s (by simp[b]))
  rw[Yg,length_append,length_cons];omega
def ZlV (w:World) (l:List Rec) (e:Ending) (w':World):Prop:=
 ∃ v',e=.returned (.tuple #[v',.int .i64 (if Yc l then 0 else 1)])∧Own w' w.heap.size v' (if Yc l then X9 l else[])∧Below w.heap.size w w'
theorem Below.allocs {a:World} (h:Below a.heap.size a w) (X:Obj):Below a.heap.size a (w.alloc X):=h.alloc h.size X
theorem Zxu (h:n<128):Lib.uvarint n=[n.toUInt8]:=Lib.uvarint_small h
theorem ZfS {v:Nat} (n:1<=v) (p:v<=3) (q:k<6) (g:f<4611686018427387904):Z0 (Xq v k f)=.ok (v,k,f):=by
 have j:=Lib.uvarint_pos v;have l:=Lib.uvarint_pos k;have i:=Lib.uvarint_pos f
 have e:Qb ((Xq v k f).drop 1)=(v,(Lib.uvarint v).length):=by
  unfold Xq;rw[List.drop_succ_cons,List.drop_zero];exact Q4 _ _ (by omega)
 have a:(Xq v k f).drop (1+(Lib.uvarint v).length)=Lib.uvarint k++Lib.uvarint f:=by
  unfold Xq;rw[Nat.add_comm,List.drop_succ_cons,drop_left]
 have d:Qb ((Xq v k f).drop (1+(Lib.uvarint v).length))=(k,(Lib.uvarint k).length):=by
  rw[a];exact Q4 _ _ (by omega)
 have b:(Xq v k f).drop (1+(Lib.uvarint v).length+(Lib.uvarint k).length)=Lib.uvarint f:=by
  rw[<-drop_drop,a,drop_left]
 have c:Qb ((Xq v k f).drop (1+(Lib.uvarint v).length+(Lib.uvarint k).length))=(f,(Lib.uvarint f).length):=by
  rw[b];have:=Q4 f [] g;rw[List.append_nil] at this;exact this
 have m:(Xq v k f).length=1+(Lib.uvarint v).length+(Lib.uvarint k).length+(Lib.uvarint f).length:=by
  unfold Xq;simp only [length_cons,length_append];omega
 unfold Z0;simp only [e,d,c];rw[if_neg (by rintro(h | h);exact absurd h (by unfold Xq;simp);exact h rfl),if_neg (by omega),if_neg (by omega),if_neg (by omega)]
theorem ZcP {v:Nat} (e:v<=3) (d:k<6) (g:f<4611686018427387904):(Xq v k f).length<=40:=by
 have b:(Lib.uvarint v).length<=10:=Lib.uvarint_length64 (by omega)
 have c:(Lib.uvarint k).length<=10:=Lib.uvarint_length64 (by omega)
 have a:(Lib.uvarint f).length<=10:=Lib.uvarint_length64 (by omega)
 unfold Xq;simp only [length_cons,length_append];omega
theorem ZpM {e:List Rec} (g:∀ r ∈ e,Qz r) {r:Rec} (d:Qz r):(Zf e r).length<=60:=by
 have i:=Zeu g d;have f:=ZaX d;obtain⟨c,_,_,_,_,m,j,_⟩:=d;have k:(Lib.uvarint r.proc.toNat).length<=10:=Lib.uvarint_length64 (by omega)
 have n:(Lib.uvarint (Lib.zigzag (r.seq-Q7 e r.proc))).length<=10:=Lib.uvarint_length64 (Zbd i);have q:(Lib.uvarint r.op.code.toNat).length<=10:=Lib.uvarint_length64 (by have:=c.1;have:=c.2.1;omega)
 have t:(Lib.uvarint (Lib.zigzag r.op.a)).length<=10:=Lib.uvarint_length64 (Zbd (ZaM c).1);have p:(Lib.uvarint (Lib.zigzag r.op.b)).length<=10:=Lib.uvarint_length64 (Zbd (ZaM c).2);have l:(Lib.uvarint (Lib.zigzag r.resp)).length<=10:=Lib.uvarint_length64 (Zbd f);unfold Zf X6;simp only [length_append];omega
theorem ZfT:∀ (l a:List Rec),(∀ r ∈ a,Qz r)->(∀ r ∈ l,Qz r)->(Yg a l).length<=60*l.length
 | [],_,_,_=>by simp[Yg]
 | r::t,a,hp,hl=>by
  have c:=hl r (by simp)
  have d:=ZpM hp c
  have e:=ZfT t (a++[r]) (fun s b=>by
   rcases List.mem_append.1 b with h | h
   ·exact hp s h
   ·rw[List.mem_singleton.1 h];exact c) (fun s b=>hl s (by simp[b]))
  rw[Yg,length_append,length_cons];omega
theorem Zcl {d:List UInt8} {v:Nat} (h:Z0 d=.ok (v,k,f)):d=Xq v k f∧1<=v∧v<=3∧k<6∧f<4611686018427387904:=by
 unfold Z0 at h;simp only at h;split at h
 ·cases h
 rename_i n
 split at h
 ·cases h
 rename_i C
 split at h
 ·cases h
 rename_i z
 split at h
 ·cases h
 rename_i q
 simp only [Except.ok.injEq,Prod.mk.injEq] at h;obtain⟨u,A,g⟩:=h;have b:=Z2 (l:=d.drop 1) (by omega)
 have e:=Z2 (l:=d.drop (1+(Qb (d.drop 1)).2)) (by omega)
 have a:=Z2 (l:=d.drop (1+(Qb (d.drop 1)).2+(Qb (d.drop (1+(Qb (d.drop 1)).2))).2)) (by omega)
 have w:f<4611686018427387904:=by
  rw[<-g];rcases Xf (d.drop (1+(Qb (d.drop 1)).2+(Qb (d.drop (1+(Qb (d.drop 1)).2))).2)) with h | h
  ·rw[h];decide
  ·exact h.1
 rw[u] at b z;rw[A] at e q;rw[g] at a;generalize (Qb (d.drop 1)).2=i at *;generalize (Qb (d.drop (1+i))).2=j at *;generalize (Qb (d.drop (1+i+j))).2=m at *;refine⟨?_,by omega,by omega,by omega,w⟩
 cases d with
 | nil=>exact absurd (.inl rfl) n
 | cons c t=>
  have x:c=108:=by
   have:=fun h=>n (.inr h)
   simpa using Decidable.not_not.1 this
  have B:(c::t).drop 1=t:=rfl;have p:(c::t).drop (1+i)=t.drop i:=by rw[Nat.add_comm,List.drop_succ_cons]
  have D:(c::t).drop (1+i+j)=(t.drop i).drop j:=by rw[<-drop_drop,p]
  rw[B] at b;rw[p] at e;rw[D] at a
  have y:m=((t.drop i).drop j).length:=by
   have:1+i+j+m=(c::t).length:=Decidable.not_not.1 (fun h=>C (.inr (.inr (.inr h))))
   rw[length_cons] at this;rw[length_drop,length_drop];omega
  rw[y,take_length] at a;unfold Xq;rw[x,b,e,a,List.take_append_drop,List.take_append_drop]
def Zgs (k f:Int):Prop:=0<=k∧k<6∧0<=f∧f<4611686018427387904
instance (k f:Int):Decidable (Zgs k f):=by unfold Zgs;infer_instance
def Jj (v k f:Int):Int:=if 1<=v∧v<=3 then(if Zgs k f then 0 else 1) else 6
def ZgI (v k f:Int):List UInt8:=if 1<=v∧v<=3 then(if Zgs k f then Qd (Xq v.toNat k.toNat f.toNat) else[]) else[]
def Zrb (w:World) (v k f:Int) (e:Ending) (w':World):Prop:=
 ∃ v',e=.returned (.tuple #[v',.int .i64 (Jj v k f)])∧Own w' w.heap.size v' (ZgI v k f)∧Below w.heap.size w w'
theorem Rd.byte (w:World) (c:UInt8):Rd (w.alloc (.cells #[.int .u8 c.toNat] 5)) (.slice (some ⟨w.heap.size,0,none⟩) 1 1) [c]:=by
 refine⟨some ⟨w.heap.size,0,none⟩,1,rfl,Nat.le_refl _,by unfold maxLen;omega,(fun h=>by cases h),.inr ⟨w.heap.size,0,rfl,fun j a=>?_⟩⟩
 have e:j=0:=by simpa using a
 subst e;rw[cell_of_row _ w.heap.size 0 _ 5 (0,0) (heap_alloc_new w _)];rfl
theorem ZlW {l:List UInt8} (h:l.length<=1048576):Zyk l=(Qd l,0):=by
 unfold Zyk;rw[if_pos h]
theorem ZsL (h:q<L.length):L.take (q+1)=L.take q++[L.getD q []]:=by
 rw[take_add_one];simp[List.getD,h]
theorem RdL.at {w:World} {ao:Option Addr} {n cap:Nat} {L:List (List UInt8)} (h:RdL w (.slice ao n cap) L) (k:Nat) (d:k<L.length):
 ∃ b a x,ao=some ⟨b,a,none⟩∧(∀ W,Below w.heap.size w W->W.cell? ⟨b,a+k,none⟩=some x)∧∀ W,Below w.heap.size w W->Rd W x (L.getD k []):=by
 obtain⟨u,t,e,_,_,_,m⟩:=h;simp only [Value.slice.injEq] at e;obtain⟨rfl,_,rfl⟩:=e;rcases m with g | ⟨b,a,i,j⟩
 ·rw[g] at d;simp at d
 ·obtain⟨x,f,q⟩:=j k d
  have l:b<w.heap.size:=World.block_lt_of_cell? w ⟨b,a+k,none⟩ f;exact⟨b,a,x,i,fun W c=>(c.cell (p:=⟨b,a+k,none⟩) l).trans f,fun W c=>q.below c zL⟩
theorem Zcu:∀ (L:List (List UInt8)) (k:Nat),(L.take k).flatten.length<=L.flatten.length
 | [],k=>by simp
 | x::L,0=>by simp
 | x::L,k+1=>by
  have:=Zcu L k;rw[List.take_succ_cons,flatten_cons,flatten_cons,length_append,length_append];omega
theorem Zrc (h:q<L.length):L.getD q [] ∈ L:=by
 have e:L.getD q []=L[q]:=by simp[List.getD,h]
 rw[e];exact getElem_mem h
theorem Zdw (B:List (List UInt8)):(B.map Qd).flatten=Qf B:=by
 unfold Qf;rw[List.flatMap_def]
theorem Zxv (l:List UInt8):(Qb l).1<4611686018427387904:=by
 rcases Xf l with h | h
 ·rw[h];decide
 ·exact h.1
theorem Zxw (W:World) (ao:Option Addr) (cap:Nat) (l:List UInt8) (b:Rd W (.slice ao l.length cap) l) (n:Nat) (f:n<=l.length):Rd W (.slice (if cap=n then ao else Option.map (fun x=>x.add n) ao) (l.length-n) (cap-n)) (l.drop n):=by
 have d:l.length<=cap:=by
  obtain⟨a,c,e,h,-⟩:=b;simp only [Value.slice.injEq] at e;omega
 have h:=b.mid n l.length cap (by omega) (by omega) (by omega) (by omega)
 rw[List.take_of_length_le (by rw[length_drop];omega)] at h
 simpa[sliced] using h
theorem ZpN (W:World) (ao:Option Addr) (l:List UInt8) (cap:Nat) (_hlc:l.length<=cap) (i:Int) (n:Nat) (a:i=(n:Int)) (b:n<=l.length):
 (Instr.sliceAt 53 (.slice ao l.length cap) (some (.int .i64 i)) none none).run prog W=.ok (sliced ao n l.length cap 1) W:=by
 subst a;rw[run_sliceAt_slice W 53 _ _ _ _ Xu,run_slice_l W 53 ao l.length cap Xu .i64 (n:Int) (by omega) (by omega),Jo,Zce]
 rfl
def ZaP (w:World) (b:List UInt8) (e:Ending) (w':World):Prop:=
 ∃ (vl:Value) (l:List Rec) (n:Int),e=.returned (.tuple #[vl,.int .i64 n])∧RdR w' vl l∧DecB b l n∧Below w.heap.size w w'
theorem ZaP.none {w w':World} {b:List UInt8} (h:∀ a,Yc a->X9 a≠b) (c:Below w.heap.size w w'):ZaP w b (.returned (.tuple #[.slice none 0 0,.int .i64 3])) w':=
 ⟨_,[],3,rfl,RdR.nil _,.inr ⟨rfl,rfl,h⟩,c⟩
theorem ZsM (h:Yc l):Qz (l.headD Qi):=by
 obtain⟨a,_,b,_⟩:=h
 match l,a with
 | r::u,_=>exact b r (by simp)
theorem ZpO (h:Yc l) {b:List UInt8} (c:X9 l=b):
 ((Qb b).1:Int)=(l.headD Qi).idx∧(Qb b).2≠0∧(Qb (b.drop (Qb b).2)).1=l.length∧(Qb (b.drop (Qb b).2)).2≠0∧b.drop ((Qb b).2+(Qb (b.drop (Qb b).2)).2)=Yg [] l:=by
 obtain⟨_,i,g,_⟩:=ZsM h;have f:=h.2.1;subst c;have d:Qb (X9 l)=((l.headD Qi).idx.toNat,(Lib.uvarint (l.headD Qi).idx.toNat).length):=Q4 _ _ (by omega)
 have a:(X9 l).drop (Lib.uvarint (l.headD Qi).idx.toNat).length=Lib.uvarint l.length++Yg [] l:=by
  unfold X9;rw[drop_left]
 have e:=Q4 l.length (Yg [] l) (by omega)
 rw[d];simp only;rw[a,e];refine⟨by omega,J2 _,rfl,J2 _,?_⟩
 rw[<-drop_drop,a,drop_left]
theorem Zym (w:World) (ao:Option Addr) (l:List UInt8) (cap:Nat) (b:Rd w (.slice ao l.length cap) l) (n:Nat) (d:n<=l.length):
 ∃ a c,Rd w (.slice a (l.drop n).length c) (l.drop n)∧∀ i:Int,i=(n:Int)->∀ W,(Instr.sliceAt 53 (.slice ao l.length cap) (some (.int .i64 i)) none none).run prog W=.ok (.slice a (l.drop n).length c) W:=by
 have h:=Zxw w ao cap l b n d
 have f:l.length<=cap:=by
  obtain⟨a,c,e,h,-⟩:=b;simp only [Value.slice.injEq] at e;omega
 refine⟨_,_,by rw[length_drop];exact h,fun i g W=>?_⟩
 rw[ZpN W ao l cap f i n g d,length_drop];simp[sliced]
theorem ZkE {d:List UInt8} (h:d=[]∨d.getD 0 0≠108):Z0 d=.error 3:=by
 unfold Z0;rw[if_pos h]
theorem ZsN {d:List UInt8} (h:¬ (d=[]∨d.getD 0 0≠108)) {v i k j f m:Nat} (a:Qb (d.drop 1)=(v,i)) (b:Qb (d.drop (1+i))=(k,j)) (c:Qb (d.drop (1+i+j))=(f,m)):
 Z0 d=if i=0∨j=0∨m=0∨1+i+j+m≠d.length then .error 3 else if v<1∨3<v then .error 6 else if 6<=k then .error 1 else .ok (v,k,f):=by
 unfold Z0;rw[if_neg h,a];simp only;rw[b];simp only;rw[c]
theorem ZaQ {r:Rec} (h:Qz r):Zcx r:=by
 have c:=ZaX h;obtain⟨a,i,d,e,f,g,j,_,_⟩:=h;have b:=ZaM a;exact⟨⟨by omega,by omega⟩,⟨by omega,by omega⟩,⟨by omega,by omega⟩,⟨⟨by have:=a.1;omega,by have:=a.2.1;omega⟩,b.1,b.2⟩,c⟩
def ZpP (L:List (List UInt8)) (v k f:Nat):Seg × Nat × Int:=(⟨k,f,(J4 v f L.tail [] 16).1⟩,1+(J4 v f L.tail [] 16).2.1,(J4 v f L.tail [] 16).2.2)
theorem Xj.set (h:Xj w C v l) (R i:Nat) (a:R<C) (x:Value):Xj (w.setCell ⟨R,i,none⟩ x) C v l:=ownsRow_setCell_below h a x
theorem Z3 {b:World} (h:Below C b w) (R:Nat) (a:C<=R) (c e d:Value):Below C b (((w.setCell ⟨R,0,none⟩ c).setCell ⟨R,1,none⟩ e).setCell ⟨R,2,none⟩ d):=
 ((h.setCell a _).setCell a _).setCell a _
theorem ZsO (v:Nat) (first:Int) (d:List UInt8) (b:List (List UInt8)) (a:List Rec) (last:Nat):
 J4 v first (d::b) a last=match ZqH v d (first+a.length) with
  | none=>(a,0,3)
  | some r=>if last<16 then(a,0,3) else if 4096<a.length+r.length then(a,0,5)
   else((J4 v first b (a++r) r.length).1,(J4 v first b (a++r) r.length).2.1+1,(J4 v first b (a++r) r.length).2.2):=by
 rw[J4]
 cases ZqH v d (first+a.length) <;> rfl
theorem drop_one {j:Nat} (a:j<L.length):L.drop j=L.getD j []::L.drop (j+1):=by
 rw[List.drop_eq_getElem_cons a];simp[List.getD,a]
theorem Zcm:∀ (n:Nat) (b:List UInt8),b.length<=n->Qf (Qp b).1=b.take (Qp b).2.1∧∀ x ∈ (Qp b).1,x.length<=1048576
 | 0,b,hn=>by
  have e:b=[]:=List.eq_nil_of_length_eq_zero (by omega)
  subst e;rw[ZbL];exact⟨rfl,by simp⟩
 | n+1,b,hn=>by
  by_cases e:b=[]
  ·subst e
   rw[ZbL];exact⟨rfl,by simp⟩
  by_cases a:(X8 b).2.2=0
  ·obtain⟨f,k,i,d⟩:=Zlm a
   have j:=ZbK a;rw[Zca e a];obtain⟨g,c⟩:=Zcm n (b.drop (X8 b).2.1) (by rw[length_drop];omega)
   refine⟨?_,fun x hx=>?_⟩
   ·show Qf ((X8 b).1::(Qp (b.drop (X8 b).2.1)).1)=b.take ((X8 b).2.1+(Qp (b.drop (X8 b).2.1)).2.1)
    rw[Q8,g,<-d,List.take_add]
   ·rcases List.mem_cons.1 hx with hx | hx
    ·rw[hx];exact f
    ·exact c x hx
  ·rw[ZbZ e a]
   exact⟨rfl,by simp⟩
theorem Zgt:∀ (L:List (List UInt8)) (x:List UInt8),x ∈ L->x.length+5<=(Qf L).length
 | y::L,x,hx=>by
  rw[Q8,length_append];rcases List.mem_cons.1 hx with h | h
  ·rw[h,Q9]
   have:=Lib.uvarint_pos y.length;omega
  ·have:=Zgt L x h
   omega
theorem ZeP:∀ (L:List (List UInt8)),5*L.length<=(Qf L).length
 | []=>by simp
 | y::L=>by
  have:=ZeP L;have:=ZoN y;rw[Q8,length_append,length_cons];omega
theorem ZeQ (b:List UInt8):(∀ x ∈ (Qp b).1,x.length<=1048576∧x.length<=b.length)∧5*(Qp b).1.length<=b.length:=by
 obtain⟨c,d⟩:=Zcm _ b zL
 have e:(Qf (Qp b).1).length<=b.length:=by
  rw[c,length_take];omega
 refine⟨fun x a=>⟨d x a,?_⟩,?_⟩
 ·have:=Zgt _ x a
  omega
 ·have:=ZeP (Qp b).1
  omega
theorem Zvz (h:2<=L.length):(L.take (L.length-1)).headD []=L.headD []∧(L.take (L.length-1)).tail=L.tail.dropLast∧L.getLastD []=L.getD (L.length-1) []∧L.headD []=(L.take (L.length-1)).getD 0 []:=by
 match L,h with
 | x::y::t,_=>
  refine⟨rfl,?_,?_,rfl⟩
  ·show((x::y::t).take (t.length+1)).tail=(y::t).dropLast
   rw[List.take_succ_cons,List.tail_cons,List.dropLast_eq_take,length_cons];rfl
  ·rw[List.getLastD_eq_getLast?,List.getLast?_eq_getElem?]
   simp[List.getD]
theorem Zzt (c:2<=L.length):ZzC L=match Z0 ((L.take (L.length-1)).headD []) with
 | .error e=>(Zev,e)
 | .ok (v,k,f)=>if(ZpP (L.take (L.length-1)) v k f).2.2≠0 then(Zev,(ZpP (L.take (L.length-1)) v k f).2.2)
  else if ZzB ((L.take (L.length-1)).headD []) (L.take (L.length-1)).tail=L.getD (L.length-1) [] then((ZpP (L.take (L.length-1)) v k f).1,0) else(Zev,16):=by
 obtain⟨d,b,a,_⟩:=Zvz c;unfold ZzC ZpP;rw[if_neg (by omega),d,b,a]
 cases Z0 (L.headD []) <;> rfl
theorem ZvA (w:World) (ao:Option Addr) (L:List (List UInt8)) (m cap:Nat) (d:m=L.length) (b:RdL w (.slice ao m cap) L) (n:Nat) (j:n<=L.length):
 ∃ a c,RdL w (.slice a (L.drop n).length c) (L.drop n)∧∀ i:Int,i=(n:Int)->∀ W,(Instr.sliceAt 144 (.slice ao m cap) (some (.int .i64 i)) none none).run prog W=.ok (.slice a (L.drop n).length c) W:=by
 subst d
 have f:L.length<=cap:=by
  obtain⟨a,c,e,h,-⟩:=b;simp only [Value.slice.injEq] at e;omega
 have h:=b.mid n L.length cap j zL f zL;rw[List.take_of_length_le (by rw[length_drop];omega)] at h
 unfold sliced at h;refine⟨_,_,by rw[length_drop];exact h,fun i g W=>?_⟩
 subst g;rw[run_sliceAt_slice W 144 _ _ _ _ Zdh,run_slice_l W 144 ao L.length cap Zdh .i64 (n:Int) (by omega) (by omega),Zim,Zkv,length_drop]
 rfl
theorem ZsP (w:World) (ao:Option Addr) (L:List (List UInt8)) (m cap:Nat) (g:m=L.length) (b:RdL w (.slice ao m cap) L) (n:Nat) (d:n<=L.length):
 RdL w (.slice ao n cap) (L.take n)∧∀ i:Int,i=(n:Int)->∀ W,(Instr.sliceAt 144 (.slice ao m cap) none (some (.int .i64 i)) none).run prog W=.ok (.slice ao n cap) W:=by
 subst g
 have j:L.length<=cap:=by
  obtain⟨a,c,e,h,-⟩:=b;simp only [Value.slice.injEq] at e;omega
 refine⟨b.front n d,fun i f W=>?_⟩
 subst f;rw[run_sliceAt_slice W 144 _ _ _ _ Zdh,run_slice_h W 144 ao L.length cap Zdh .i64 (n:Int) (by omega) (by omega),Zim,Zkv]
 show Result.ok (sliced ao 0 n cap 1) W=_;unfold sliced
 have e:(if cap=0 then ao else ao.map (·.add (0*1)))=ao:=by
  split
  ·rfl
  ·cases ao <;> simp[Addr.add]
 rw[e,Nat.sub_zero,Nat.sub_zero]
theorem Zxx {d:List UInt8} (h:Z0 d=.error x):x≠0:=by
 intro a;rw[a] at h;unfold Z0 at h;simp only at h
 repeat' split at h
 all_goals simp at h
def Zbb (w:World) (b:List UInt8) (e:Ending) (w':World):Prop:=
 ∃ vl,e=.returned (.tuple #[.agg #[.int .i64 (Gv b).1.kind,.int .i64 (Gv b).1.first,vl],.int .i64 ((Gv b).2.1:Nat),.bool (Gv b).2.2])∧RdR w' vl (Gv b).1.recs∧Below w.heap.size w w'
theorem Zbb.fail (h:Gv b=(Zev,0,false)) (a:Below w.heap.size w w'):Zbb w b (.returned (.tuple #[.agg #[.int .i64 0,.int .i64 0,.slice none 0 0],.int .i64 0,.bool false])) w':=by
 refine⟨.slice none 0 0,?_,?_,a⟩
 ·rw[h]
  rfl
 ·rw[h]
  exact RdR.nil _
theorem ZiG (v:Nat) (first:Int):∀ (B:List (List UInt8)) (a:List Rec) (last:Nat),(J4 v first B a last).2.1<=B.length
 | [],a,last=>by rw[J4];simp
 | d::ds,a,last=>by
  rw[ZsO,length_cons]
  cases ZqH v d (first+a.length) with
  | none=>simp
  | some r=>
   simp only;split
   ·simp
   split
   ·simp
   have b:=ZiG v first ds (a++r) r.length;simp only;omega
theorem ZeR (L:List (List UInt8)) (c:Nat):(Qf (L.take c)).length<=(Qf L).length:=by
 have h:=Zcu (L.map Qd) c;rw[Zdw,<-List.map_take,Zdw] at h;exact h
theorem ZsQ (h:(Qp b).1≠[]):Gv b=match Z0 ((Qp b).1.headD []) with
 | .error _=>(Zev,0,false)
 | .ok (v,k,f)=>((ZpP (Qp b).1 v k f).1,(Qf ((Qp b).1.take (ZpP (Qp b).1 v k f).2.1)).length,true):=by
 unfold Gv ZwK;rw[if_neg h]
 cases Z0 ((Qp b).1.headD []) <;> rfl
theorem Rd.drewN {l:List UInt8} (h:Rd w v l) (n:Nat):Rd (w.drewN n) v l:=h.below (Xo (Below.refl _ w) n) zL
theorem ZAq (w:World) (v:Value) (l:List UInt8) (c:Rd w v l) (K N:Int) (k n:Nat) (j:K=k) (p:N=n) (h:k+n+4<=l.length):
 ∃ f e d,(∀ q,(Instr.sliceAt 53 v none (some (.int .i64 (K+N))) (some (.int .i64 (K+N)))).run prog (w.drewN q)=.ok f (w.drewN q))∧
  (∀ q,(Instr.sliceAt 53 v (some (.int .i64 K)) (some (.int .i64 (K+N))) (some (.int .i64 (K+N)))).run prog (w.drewN q)=.ok e (w.drewN q))∧
  (∀ q,(Instr.sliceAt 53 v (some (.int .i64 (K+N))) (some (.int .i64 (K+N+4))) (some (.int .i64 (K+N+4)))).run prog (w.drewN q)=.ok d (w.drewN q))∧
  Rd w f (l.take (k+n))∧Rd w e ((l.drop k).take n)∧Rd w d ((l.drop (k+n)).take 4):=by
 have a:=c;obtain⟨ao,cap,rfl,m,_⟩:=c;have b:(K+N).toNat=k+n:=by omega
 have g:K.toNat=k:=by omega
 have i:(K+N+4).toNat=k+n+4:=by omega
 refine⟨sliced ao 0 (k+n) (k+n) 1,sliced ao k (k+n) (k+n) 1,sliced ao (k+n) (k+n+4) (k+n+4) 1,?_,?_,?_,?_,?_,?_⟩
 ·intro q
  rw[run_sliceAt_slice _ 53 _ _ _ _ Xu,run_slice_hm _ 53 ao l.length cap Xu .i64 .i64 (K+N) (K+N) (by omega) (by omega) (by omega),Jo,Zce,b]
  rfl
 ·intro q
  rw[run_sliceAt_slice _ 53 _ _ _ _ Xu,run_slice_lhm _ 53 ao l.length cap Xu .i64 .i64 .i64 K (K+N) (K+N) (by omega) (by omega) (by omega) (by omega),Jo,Zce,b,g]
  rfl
 ·intro q
  rw[run_sliceAt_slice _ 53 _ _ _ _ Xu,run_slice_lhm _ 53 ao l.length cap Xu .i64 .i64 .i64 (K+N) (K+N+4) (K+N+4) (by omega) (by omega) (by omega) (by omega),Jo,Zce,b,i]
  rfl
 ·have:=a.mid 0 (k+n) (k+n) (by omega) (by omega) (by omega) (by omega)
  simpa using this
 ·have:=a.mid k (k+n) (k+n) (by omega) (by omega) (by omega) (by omega)
  rwa [show k+n-k=n by omega] at this
 ·have:=a.mid (k+n) (k+n+4) (k+n+4) (by omega) (by omega) (by omega) (by omega)
  rwa [show k+n+4-(k+n)=4 by omega] at this
theorem ZdV {d:Array Oper} {C:World->Prop} {Q:Act->Prop} {rest:List Oper} {o:Oper} {a:Act} (j:o.guard=none) (x:Operand) (lo b c:Option Operand)
 (g:o.op=.slice 53 x lo b c) (i:∀ w',C w'->∃ q,w'=w.drewN q) (v:Value)
 (k:∀ q,(Instr.sliceAt 53 (a.eval x) (lo.map a.eval) (b.map a.eval) (c.map a.eval)).run prog (w.drewN q)=.ok v (w.drewN q))
 (h:wpQuiet prog d C Q rest (a.put o.dst v)):wpQuiet prog d C Q (o::rest) a:=
 wpQuiet_step fun _ e=>by
  rw[if_pos (by simp[Region.wanted,j])]
  refine⟨v,fun w' f=>?_,e _ h⟩
  obtain⟨q,rfl⟩:=i w' f;unfold Oper.quietAt execOp;simp only [g,k,Sem.run_bind,Sem.run_pure,Result.andThen_ok,Oper.quietUpon,and_self]
theorem ZsR (v:Value) (l:List UInt8) (w:World) (u:Rd w v l):
 Calls prog 199 #[v] w fun e w'=>ZdT w l e w':=by
 have HR:=ZZ u;have b:=ZZ (ZyW v l w u);have c:=ZZ (ZcJ v l w u);obtain⟨ao,cap,rfl,ae,R,ax,az⟩:=u;clear ax az;have aG:(l.length:Int)<=9223372036854775807:=by unfold maxLen at R;omega
 have aJ:=ZZ ae;have aL:=ZZ R;clear ae R;by_cases m:Gn l
 ·have a:=ZZ (ZzG m)
  have M:Hid (decide (Gn l)=true):=decide_eq_true m;rw[M.o] at b;clear m c
  go_enter func199,ntmps199
  go_wp2_with fail
  refine b.o.mono ?_;rintro e d ⟨rfl,rfl⟩;clear b;go_wp2
  go_ret3
  exact ZdT.refused a.o
 have M:Hid (decide (Gn l)=false):=decide_eq_false m;rw[M.o] at b;have p:=ZZ m;clear m;have U:=Xf l;obtain⟨n,A⟩:∃ n,n=(Qb l).1:=⟨_,rfl⟩;obtain⟨k,t⟩:∃ k,k=(Qb l).2:=⟨_,rfl⟩;rw[<-A,<-t] at U c;have i:=ZZ A;have j:=ZZ t;have Q:=Zsz l
 have aa:(n:Int)<4611686018427387904∧(k:Int)<=l.length∧(k:Int)<=9:=by
  rw[<-t] at Q;rcases U with h | h
  ·have L:n=0:=by rw[A,h]
   have h2:k=0:=by rw[t,h]
   omega
  ·omega
 clear Q;obtain⟨N,I⟩:∃ N:Int,N=(n:Int):=⟨_,rfl⟩;obtain⟨K,E⟩:∃ K:Int,K=(k:Int):=⟨_,rfl⟩;rw[<-I,<-E] at aa c;obtain⟨aH,aE,Q⟩:=aa;have aN:0<=N:=by omega
 have aF:0<=K:=by omega
 have f:=ZZ I;have g:=ZZ E;clear I E;clear U A t;by_cases C:K=0
 ·have a:=ZZ (ZzH p.out (by rw[<-j.o];have:=g.o;omega))
  subst C
  go_enter func199,ntmps199
  go_wp2_with fail
  refine b.o.mono ?_;rintro e d ⟨rfl,rfl⟩;clear b
  go_wp2_with fail
  refine c.o.mono ?_;rintro e d ⟨rfl,rfl⟩;clear c;go_wp2
  go_ret3
  exact ZdT.refused a.o
 have ez:(K == 0)=false:=beq_eq_false_iff_ne.2 C;have aK:1<=K:=by omega
 have z:=ZZ (show(Qb l).2≠0 by rw[<-j.o];have:=g.o;omega)
 clear C;by_cases c3:1048576<N
 ·have a:=ZZ (ZzI p.out z.out (by rw[<-i.o];have:=f.o;omega))
  go_enter func199,ntmps199
  go_wp2_with fail
  refine b.o.mono ?_;rintro e d ⟨rfl,rfl⟩;clear b
  go_wp2_with fail
  refine c.o.mono ?_;rintro e d ⟨rfl,rfl⟩;clear c;go_wp2
  go_ret3
  exact ZdT.refused a.o
 have B:=ZZ (show ¬ 1048576<(Qb l).1 by rw[<-i.o];have:=f.o;omega)
 by_cases c4:(l.length:Int)<K+N+4
 ·have a:=ZZ (ZzJ p.out z.out B.out (by rw[<-i.o,<-j.o];have:=f.o;have:=g.o;omega))
  go_enter func199,ntmps199
  go_wp2_with fail
  refine b.o.mono ?_;rintro e d ⟨rfl,rfl⟩;clear b
  go_wp2_with fail
  refine c.o.mono ?_;rintro e d ⟨rfl,rfl⟩;clear c;go_wp2
  go_ret3
  exact ZdT.refused a.o
 have C4:=ZZ (show ¬ l.length<(Qb l).2+4+(Qb l).1 by rw[<-i.o,<-j.o];have:=f.o;have:=g.o;omega)
 have P:Hid (∀ v w,Rd w v (l.take (k+n))->Calls prog 136 #[v] w fun e w'=>e=.returned (.int .u32 (Q2 0 (l.take (k+n)):Nat))∧Below w.heap.size w w'):=fun v w h=>ZlQ v _ w h
 have V:Hid (∀ v w,Rd w v ((l.drop (k+n)).take 4)->Calls prog 161 #[v] w fun e w'=>e=.returned (.int .u64 (Lib.leNat ((l.drop (k+n)).take 4):Nat))∧w'=w):=by
  intro v w h;have:=Zne v _ w h
  rwa [List.take_of_length_le (by simp;omega)] at this
 have F:Hid (Lib.leNat ((l.drop (k+n)).take 4)≠Q2 0 (l.take (k+n))->X8 l=([],0,4)):=fun h=>by
  rw[i.o,j.o] at h;exact ZzK p.out z.out B.out C4.out h
 have H:Hid (Lib.leNat ((l.drop (k+n)).take 4)=Q2 0 (l.take (k+n))->X8 l=((l.drop k).take n,k+4+n,0)):=fun h=>by
  rw[i.o,j.o] at h ⊢;exact ZzL p.out z.out B.out C4.out h
 have hs:=ZmC (l.take (k+n))
 have hq:Lib.leNat ((l.drop (k+n)).take 4)<4294967296:=by
  have L:=Zhx ((l.drop (k+n)).take 4);have e4:((l.drop (k+n)).take 4).length=4:=by have:=f.o;have:=g.o;simp;omega
  rw[e4] at L;exact L
 generalize Q2 0 (l.take (k+n))=s at *;generalize Lib.leNat ((l.drop (k+n)).take 4)=q at *;obtain⟨S,G⟩:∃ S:Int,S=(s:Int):=⟨_,rfl⟩;obtain⟨T,D⟩:∃ T:Int,T=(q:Int):=⟨_,rfl⟩;rw[<-G] at P;rw[<-D] at V;have aM:0<=S:=by omega
 have aI:S<4294967296:=by omega
 have aw:=ZZ G;have au:=ZZ D;obtain⟨v1,v2,v3,ag,W,ai,ab,af,aj⟩:=ZAq w _ l HR.o K N k n g.o f.o (by have:=f.o;have:=g.o;omega)
 have av:=ZZ ab;have al:=ZZ af;have X:=ZZ aj;have aq:=ZZ ag;have ak:=ZZ W;have ar:=ZZ ai;clear ab af aj ag W ai;clear G D hs hq
 go_enter func199,ntmps199
 go_wp2_with fail
 refine b.o.mono ?_;rintro e d ⟨rfl,rfl⟩;clear b
 go_wp2_with fail
 refine c.o.mono ?_;rintro e d ⟨rfl,rfl⟩;clear c;go_wp2;refine wp_region_quiet_lit (by kernel_rfl) (by kernel_rfl) ?_
 repeat (go_big_quiet_step (fail))
 refine ZdV rfl _ _ _ _ rfl (fun _ h=>h) v1 aq.o ?_
 simp only [Act.put,List.setIfInBounds_toArray,set_cons_succ,set_cons_zero]
 repeat (go_big_quiet_step (fail))
 refine ZdV rfl _ _ _ _ rfl (fun _ h=>h) v2 ak.o ?_
 simp only [Act.put,List.setIfInBounds_toArray,set_cons_succ,set_cons_zero]
 repeat (go_big_quiet_step (fail))
 refine ZdV rfl _ _ _ _ rfl (fun _ h=>h) v3 ar.o ?_
 simp only [Act.put,List.setIfInBounds_toArray,set_cons_succ,set_cons_zero]
 repeat (go_big_quiet_step (fail))
 refine wpQuiet_nil ?_;rintro _ ⟨nq,rfl⟩;have am:=ZZ (Xo (Below.refl d.heap.size d) nq);have ap:=ZZ (av.o.drewN nq);have Z:=ZZ (al.o.drewN nq);have Y:=ZZ (X.o.drewN nq);clear av al X aq ak ar
 go_wp2_with fail
 refine(V.o _ _ Y.o).mono ?_;rintro e w2 ⟨rfl,rfl⟩;clear V Y
 go_wp2_with fail
 refine(P.o _ _ ap.o).mono ?_;rintro e w2 ⟨rfl,O⟩;have J:=ZZ (am.o.trans O);have aA:=ZZ (Z.o.below O zL);clear P ap Z O am;by_cases y:T=S
 ·have ay:(T != S)=false:=by rw[bne_eq_false_iff_eq];exact y
  have a:=ZZ (H.o (by have:=aw.o;have:=au.o;omega))
  clear y F H;have aD:=ZZ (show((l.drop k).take n).length<=1048576 by have:=f.o;simp;omega)
  have HC:=ZZ (Zvv _ _ w2 aA.o (by have:=aD.o;omega))
  generalize (l.drop k).take n=x at *
  go_wp2_with fail
  refine HC.o.mono ?_;rintro e w4 ⟨v4,rfl,ac,ad⟩;have an:=J.o.size;have aB:=ZZ (ac.mono an);have aC:=ZZ (J.o.trans (ad.mono an));clear ac ad HC;go_wp2
  go_ret3
  refine⟨v4,?_,by rw[a.o];exact aB.o,aC.o⟩
  rw[a.o];exact Zxm (by show K+N+4=((k+4+n:Nat):Int);have:=f.o;have:=g.o;omega) rfl
 ·have ay:(T != S)=true:=by rw[bne_iff_ne];exact y
  have a:=ZZ (F.o (by have:=aw.o;have:=au.o;omega))
  clear y F H;go_wp2
  go_ret3
  refine⟨.slice none 0 0,?_,?_,J.o⟩
  ·rw[a.o];rfl
  ·rw[a.o];exact Own.nil _ _
theorem ZnK (v:Value) (l:List UInt8) (w:World) (q:Rd w v l) (Z:l.length<=1000000):
 Calls prog 159 #[v] w fun e w'=>∃ v',e=.returned (.tuple #[v',.int .i64 ((Qp l).2.1:Nat),.int .i64 ((Qp l).2.2:Nat)])∧Zik w' w.heap.size v' (Qp l).1∧Below w.heap.size w w':=by
 have P:=ZZ q;obtain⟨ao,cap,rfl,S,O,K,Q⟩:=q;clear K Q S O;have M:=ZZ (fun v k w h=>ZsR v (l.drop k) w h)
 go_enter func159,ntmps159
 go_wp2
 go_loopw[5,6] (fun N p wr=>∃ (A:Nat) (L:List (List UInt8)),p=.int .i64 (A:Int)∧Hid (ZuZ l A L)∧Hid (Zik wr w.heap.size N L)∧Hid (Below w.heap.size w wr)) (fun _ p _=>l.length-(intOf p).toNat)
 case atStart=>exact⟨0,[],rfl,ZuZ.start l,Zik.nil _ _,Below.refl _ _⟩
 case round=>
  obtain⟨A,L,rfl,d,u,f⟩:=hrel;have X:=d.out.2.2;by_cases g:A<l.length
  ·have t:Hid (∃ v',(Instr.sliceAt 53 (.slice ao l.length cap) (some (.int .i64 (A:Int))) none none).run prog wr=.ok v' wr∧Rd wr v' (l.drop A)):=by
    have:=ZhY wr _ l (P.o.below f.out zL) .i64 (A:Int) (by omega) (by omega)
    rwa [Int.toNat_natCast] at this
   have D:=f.out.size
   go_wp2_with(refine ZfF _ rfl _ _ _ _ rfl _ t.o ?_)
   intro v1 y;have E:=ZZ y;clear y t
   go_wp2_with fail
   refine(M.o _ A _ E.o).mono ?_;rintro e w2 ⟨V,rfl,C,j⟩;have F:=ZZ (C.mono D);have z:=ZZ (u.out.below j zL);have i:=ZZ (f.out.trans (j.mono D));have R:=i.o.size;clear C j E;have n:=ZZ (fun h=>ZbK (l:=l.drop A) h)
   have J:=Zuk (l.drop A);rw[length_drop] at J;by_cases a:(X8 (l.drop A)).2.2=0
   ·have I:=ZZ (d.out.step g a)
    have h5:=n.o a;have aa:=d.out.2.1;rw[a];generalize (X8 (l.drop A)).2.1=m at *;generalize (X8 (l.drop A)).1=x at *;clear a n;obtain⟨a2,c2,rfl,_⟩:=F.o.rd
    go_wp2_with(at_builtin;refine ZeJ _ rfl _ _ rfl w.heap.size _ L rfl z.o _ x rfl F.o (by omega) R ?_)
    intro U Y B G;have H:=ZZ B;have T:=ZZ (i.o.trans G);clear B G;go_wp2;go_roundw
    case rel=>exact⟨A+m,L++[x],by go_num,I,H,T⟩
    case measure=>simp[intOf];omega
   ·have b:=ZZ (d.out.stop g a)
    clear n;generalize (X8 (l.drop A)).2.2=c at *;have W:((c:Int) != 0)=true:=by rw[bne_iff_ne];omega
    clear a;go_wp2
    go_ret3
    refine⟨_,?_,by rw[b.o];exact z.o,i.o⟩
    rw[b.o];rfl
  ·have b:=ZZ (d.out.whole g)
   go_wp2
   go_ret3
   refine⟨_,?_,by rw[b.o];exact u.out,f.out⟩
   rw[b.o];rfl
theorem ZyX (v:Value) (l:List UInt8) (w:World) (d:Rd w v l) (k:l.length<=1000000):
 Calls prog 114 #[v] w fun e w'=>∃ v',e=.returned (.tuple #[v',.int .i64 ((Zyl l).2:Nat)])∧RdL w' v' (Zyl l).1∧Below w.heap.size w w':=by
 have f:=ZZ (ZnK v l w d k);clear d
 go_enter func114,ntmps114
 go_wp2_with fail
 refine f.o.mono ?_;rintro e t ⟨p,rfl,j,i⟩;have n:=ZZ j;have g:=ZZ i;clear j i f;by_cases b:(Qp l).2.2=0
 ·have a:Hid (Zyl l=((Qp l).1,0)):=if_pos b
  rw[b];clear b;generalize (Qp l).2.1=m at *;go_wp2;go_ret2;refine⟨_,?_,by rw[a.o];exact n.o.rd,g.o⟩
  rw[a.o];rfl
 ·have a:Hid (Zyl l=([],(Qp l).2.2)):=if_neg b
  generalize (Qp l).2.1=m at *;generalize (Qp l).2.2=c at *;have q:((c:Int) != 0)=true:=by rw[bne_iff_ne];omega
  clear b;go_wp2;go_ret2;refine⟨_,?_,by rw[a.o];exact RdL.nil _,g.o⟩
  rw[a.o];rfl
end Go.Proofs.YtnahjngbneicaaaGreatDoor
