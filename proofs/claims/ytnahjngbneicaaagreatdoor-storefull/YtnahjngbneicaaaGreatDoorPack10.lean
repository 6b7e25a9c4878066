import Derived.Test.YtnahjngbneicaaaGreatDoorPack9
namespace Go.Proofs.YtnahjngbneicaaaGreatDoor
set_option linter.unusedSimpArgs false
open _root_.Go.Proofs.Tryz
open List (drop_drop drop_left flatten_cons getElem_mem length_append length_cons length_drop length_take set_cons_succ set_cons_zero take_add_one take_length)
set_option maxHeartbeats 4000000
set_option maxRecDepth 100000
open Go.RowKit
variable {s:Sto} {w w':World} {C N R T f k n p pd q:Nat} {v:Value} {K:Nat->Prop} {d:Dk} {l:List Rec} {x:Int} {b:List UInt8} {L:List (List UInt8)}
abbrev zgo:=@List.map_take
abbrev zgr:=@Go.World.ownsRow_lit
theorem Zoa (e:Ent) (w:World):
 Calls prog 189 #[ZsD e] w fun x w'=>x=.returned (.bool (decide (Dh e)))∧Below w.heap.size w w':=by
 have d:=ZZ (fun W=>Ziu ⟨0,e.proc,e.seq,⟨0,0,0⟩,e.resp⟩ W)
 have a:decide (Q1 ⟨0,e.proc,e.seq,⟨0,0,0⟩,e.resp⟩)=decide (Dh e):=zco.2 (Zva e);rw[a] at d;clear a;generalize decide (Dh e)=D at *;obtain⟨p,s,r⟩:=e;unfold ZsD ZsI at *
 dsimp only at *
 have b:Hid (∀ X,Below w.heap.size w (w.alloc X)):=fun X=>(zac _ _).alloc zL X
 go_enter func189,ntmps189
 go_wp2_with fail
 refine(d.o _).mono ?_;rintro x g ⟨rfl,c⟩;have f:=ZZ ((b.o _).trans (c.mono (b.o _).size));clear c;go_wp2;go_ret;exact⟨rfl,f.o⟩
theorem Zob (v:Value) (t:List Ent) (w:World) (Z:RdE w v t):
 Calls prog 140 #[v] w fun x w'=>x=.returned (.bool (decide (Zdv t)))∧Below w.heap.size w w':=by
 obtain⟨va,vc,rfl,T,K,-,hw,E⟩:=Z;have I:=ZZ E;have ae:(t.length:Int)<=9223372036854775807:=by unfold maxLen at K;omega
 obtain⟨D,l⟩:=zg7 (decide (Zdv t));rw[<-l];have Q:Hid (Gk t t.length->D=true):=ZZ (fun h=>by rw[l];exact zan h)
 have C:Hid (∀ k,k<t.length->¬ Gk t (k+1)->D=false):=ZZ (fun k G h=>by rw[l];exact zai (fun y=>h (Gk.mono y G)))
 have R:=ZZ (fun e W=>Zoa e W)
 have P:Hid (Zim t 0=0):=ZZ rfl;have M:Hid (∀ k,Zim t (k+1)=(t.getD k Xj).proc+1):=ZZ (fun k=>rfl)
 have O:Hid (∀ k,Gk t (k+1)↔Gk t k∧Dh (t.getD k Xj)∧Zim t k<=(t.getD k Xj).proc):=ZZ (fun k=>Zpw)
 clear l K T E hw
 go_enter func140,ntmps140
 go_wp2
 go_loopw[3,8] (fun vl z wr=>∃ (k:Nat) (i:Int),z=.int .i64 (k:Int)∧vl=.int .i64 i∧k<=t.length∧Hid (i=Zim t k)∧Hid (Gk t k)∧Hid (Below w.heap.size w wr)) (fun _ z _=>t.length-(intOf z).toNat)
 case atStart=>exact⟨0,0,rfl,rfl,zap _,ZZ P.o.symm,ZZ (Gk.zero t),zac _ _⟩
 case round=>
  obtain⟨k,i,rfl,rfl,G,Y,J,j⟩:=hrel;by_cases f:k<t.length
  case neg=>
   obtain rfl:k=t.length:=by omega
   have HT:=ZZ (Q.o J.out);go_wp2;go_ret;rw[HT.o];exact⟨rfl,j.out⟩
  have ai:(k:Int)<(t.length:Int):=by omega
  rcases I.o with h0 | ⟨c,af,rfl,A⟩
  ·rw[h0] at f;simp at f
  obtain⟨c0,c1,c2⟩:=(A k f).keep (j.out.block c (A k f).lt);have b:=ZZ (O.o k);have m:=ZZ (C.o k f);have N:=ZZ (M.o k);have d:=ZZ (fun W=>R.o (t.getD k Xj) W)
  rw[<-Y.out] at b;obtain⟨e,H⟩:=zg7 (t.getD k Xj);rw[<-H] at c0 c1 c2 b N d;clear H A R O C Q M P I;obtain⟨a,n⟩:=zg7 (decide (Dh e));rw[<-n] at d;have g:=ZZ n;have q:Hid (∀ X,Below w.heap.size w (wr.alloc X)):=ZZ (fun X=>j.out.alloc j.out.size X)
  have HX:Hid (∀ cs,Be (wr.alloc (.cells cs 85)) wr.heap.size cs):=ZZ (fun cs=>zak wr _)
  clear n;unfold ZsD at d
  have S:Hid (a=true->0<=e.proc∧e.proc<=64):=ZZ (fun h=>by
   have:Dh e:=zcm (g.o.symm.trans h)
   exact⟨this.1,this.2.1⟩)
  by_cases ak:e.proc<i
  ·have B:=ZZ (m.o (fun h=>by have:=(b.o.1 h).2.2;omega))
   obtain⟨p,s,r⟩:=e
   dsimp only at *
   clear b m d g;go_wp2;go_ret;rw[B.o];exact⟨rfl,q.o _⟩
  ·have ad:i<=e.proc:=by omega
   have aa:Hid (a=true->Gk t (k+1)):=ZZ (fun h=>b.o.2 ⟨J.out,zcm (g.o.symm.trans h),ad⟩)
   have U:Hid (a=false->D=false):=ZZ (fun h=>m.o (fun y=>by
    have V:=(b.o.1 y).2.1;have F:a=true:=g.o.trans (zan V);rw[h] at F
    cases F))
   obtain⟨p,s,r⟩:=e
   dsimp only at *
   clear b m g
   go_wp2_with fail
   refine(d.o _).mono ?_;rintro x W1 ⟨rfl,u⟩;have L:=ZZ ((q.o _).trans (u.mono (q.o _).size));have ac:=ZZ ((HX.o _).below u zL);obtain⟨q0,f0⟩:=ac.o.cell 0;clear u d
   cases a with
   | false=>
    have B:=ZZ (U.o rfl);go_wp2;go_ret;rw[B.o];exact⟨rfl,L.o⟩
   | true=>
    obtain⟨aj,ag⟩:=S.o rfl;have ab:=ZZ (aa.o rfl);go_wp2;go_roundw
    case rel=>exact⟨k+1,p+1,by go_num,by go_num,by omega,ZZ N.o.symm,ab,L⟩
    case measure=>simp[intOf];omega
theorem Zrp (v:Value) (s:Q0) (w:World) (H:SnV w v s):
 Calls prog 98 #[v] w fun e w'=>e=.returned (.bool (decide (Zs s)))∧Below w.heap.size w w':=by
 obtain⟨y,M,rfl,F,z,B,j,N⟩:=H;have a:Hid (∀ X,Below w.heap.size w (w.alloc X)):=fun X=>(zac _ _).alloc zL X
 have O:Hid (∀ cs,Bn (w.alloc (.cells cs 41)) w.heap.size cs):=ZZ (fun cs=>zak w _)
 have l:=ZZ (fun W (h:Below w.heap.size w W)=>ZlW (.agg #[.int .i64 s.st.kind,y,.bool s.st.shut,.int .i64 s.st.eng]) s.st W ⟨y,rfl,F.below h zL,z,B⟩)
 have f:=ZZ (fun W (h:Below w.heap.size w W)=>Zob M s.tab W (j.below h zL))
 obtain⟨la,lc,I,-⟩:=F;obtain⟨U,S,J⟩:=j.shape;subst I J;clear j;obtain⟨D,i⟩:=zg7 (decide (Zs s));rw[<-i];have b:Hid (D=decide (Zs s)):=ZZ i;have c:Hid (Zs s↔(0<=s.idx∧s.idx<4611686018427387904)∧Ym s.st∧Zdv s.tab):=ZZ Iff.rfl;obtain⟨m,q⟩:=zg7 (decide (Ym s.st));obtain⟨n,g⟩:=zg7 (decide (Zdv s.tab));rw[<-q] at l;rw[<-g] at f;have E:=ZZ q;have C:=ZZ g;clear i q g z B N;obtain⟨idx,⟨kind,L,V,T⟩,Q⟩:=s
 dsimp only at *
 by_cases G:0<=idx
 case neg=>
  have k:Hid (D=false):=ZZ (by rw[b.o];exact zai (fun h=>G (c.o.1 h).1.1))
  go_enter func98,ntmps98
  go_wp2;go_ret;rw[k.o];exact⟨rfl,a.o _⟩
 by_cases A:idx<4611686018427387904
 case neg=>
  have k:Hid (D=false):=ZZ (by rw[b.o];exact zai (fun h=>A (c.o.1 h).1.2))
  go_enter func98,ntmps98
  go_wp2;go_ret;rw[k.o];exact⟨rfl,a.o _⟩
 have u:Hid (D=(m && n)):=ZZ (by
  rw[b.o,E.o,C.o,<-zeg]
  exact zco.2 (c.o.trans ⟨fun h=>h.2,fun h=>⟨⟨G,A⟩,h⟩⟩))
 clear b c E C
 go_enter func98,ntmps98
 go_wp2_with fail
 refine(l.o _ (a.o _)).mono ?_;rintro x R ⟨rfl,p⟩;have d:=ZZ ((a.o _).trans (p.mono (a.o _).size));have K:=ZZ ((O.o _).below p zL);obtain⟨Y,Z⟩:=K.o.cell 5;clear p l
 cases m with
 | false=>
  go_wp2;go_ret;rw[u.o];exact⟨rfl,d.o⟩
 | true=>
  go_wp2_with fail
  refine(f.o _ d.o).mono ?_;rintro x W2 ⟨rfl,t⟩;have P:=ZZ (d.o.trans (t.mono d.o.size));clear t f;go_wp2;go_ret;rw[u.o];exact⟨rfl,P.o⟩
theorem Ztb (E:Value) (A:List Ent) (C:Value) (B:List Ent) (w:World) (P:RdE w E A) (R:RdE w C B):
 Calls prog 46 #[E,C] w fun e w'=>e=.returned (.bool (decide (A=B)))∧Below w.heap.size w w':=by
 obtain⟨Y,ac,rfl,ab,y,-,-,x⟩:=P;obtain⟨ba,bc,rfl,-,L,-,-,F⟩:=R;have V:=ZZ x;have O:=ZZ F;obtain⟨D,g⟩:=zg7 (decide (A=B));rw[<-g];have z:Hid (A=B->D=true):=fun h=>by rw[g];exact zan h
 have i:Hid (¬ A=B->D=false):=fun h=>by rw[g];exact zai h
 have ad:=Zvd;have aj:(A.length:Int)<=9223372036854775807:=by unfold maxLen at y;omega
 clear g x F y L;by_cases a:A.length=B.length
 case neg=>
  have J:((A.length:Int) != (B.length:Int))=true:=by rw[zbq];omega
  have T:=ZZ (i.o (fun h=>a (by rw[h])))
  clear a
  go_enter func46,ntmps46
  go_wp2;go_ret;rw[T.o];exact⟨rfl,zac _ _⟩
 have J:((A.length:Int) != (B.length:Int))=false:=by rw[zby];omega
 have d:=ZZ a
 have v:Hid (A.take A.length=B.take A.length->D=true):=ZZ (fun h=>z.o (by
  rw[take_length,d.o,take_length] at h
  exact h))
 have G:Hid (∀ k,k<A.length->A.getD k Xj≠B.getD k Xj->D=false):=ZZ (fun k M h=>i.o (fun I=>h (by rw[I])))
 clear a z i
 go_enter func46,ntmps46
 go_wp2
 go_loopw[13] (fun j wr=>∃ k:Nat,j=.int .i64 (k:Int)∧k<=A.length∧Hid (A.take k=B.take k)∧Hid (∃ n,wr=w.drewN n)) (fun j _=>A.length-(intOf j).toNat)
 case atStart=>exact⟨0,rfl,zap _,rfl,⟨0,rfl⟩⟩
 case round=>
  obtain⟨k,rfl,M,H,S⟩:=hrel;obtain⟨nw,Q⟩:=S.out;subst Q;by_cases b:k<A.length
  case neg=>
   obtain rfl:k=A.length:=by omega
   have U:=ZZ (v.o H.out);go_wp2;go_ret;rw[U.o];exact⟨rfl,X6 (zac _ _) _⟩
  rcases V.o with q | ⟨c,af,rfl,t⟩
  ·rw[q] at b;simp at b
  rcases O.o with q | ⟨c',ae,rfl,u⟩
  ·have a:=d.o;rw[q] at a;simp at a;rw[a] at b;simp at b
  obtain⟨X,c1,c2⟩:=t k b;obtain⟨Z,d1,d2⟩:=u k (by have:=d.o;omega)
  have ai:(k:Int)<(A.length:Int):=by omega
  have ag:(k:Int)<(B.length:Int):=by have:=d.o;omega
  have p:=ZZ (G.o k b);have l:Hid (A.getD k Xj=B.getD k Xj->A.take (k+1)=B.take (k+1)):=fun h=>by rw[ZkG b,ZkG (by have:=d.o;omega),H.out,h]
  clear t u v G;generalize A.getD k Xj=r at *;generalize B.getD k Xj=s at *;by_cases f:r=s
  ·subst f
   have N:=ZZ (l.o rfl);have m:=fun W=>Zvc W r r
   rw[ZsE] at m;clear p l
   go_upto_region 6 with fail
   go_quiet(fail)
   go_wp2;go_roundw
   case rel=>exact⟨k+1,by go_num,by omega,N,⟨_,rfl⟩⟩
   case measure=>simp[intOf];omega
  ·have K:=ZZ (p.o f)
   have m:=fun W=>Zvc W r s
   rw[Zve f] at m;clear p l f
   go_upto_region 6 with fail
   go_quiet(fail)
   go_wp2;go_ret;rw[K.o];exact⟨rfl,X6 (X6 (zac _ _) _) _⟩
theorem ZiS (G:Value) (a:Q0) (F:Value) (b:Q0) (w:World) (Q:SnV w G a) (hb:SnV w F b):
 Calls prog 20 #[G,F] w fun e w'=>e=.returned (.bool (decide (ZpD a b)))∧Below w.heap.size w w':=by
 obtain⟨I,vt,rfl,N,C,E,q,hi⟩:=Q;obtain⟨vl',R,rfl,O,M,A,t,ad⟩:=hb;have f:Hid (∀ X Y,Below w.heap.size w ((w.alloc X).alloc Y)):=fun X Y=>((zac _ _).alloc zL X).alloc (by simp) Y
 have P:Hid (∀ cs c,Bn ((w.alloc (.cells cs 41)).alloc (.cells c 41)) w.heap.size cs):=fun cs c=>(zav _ _ _ (by simp)).trans (zak w _)
 have Z:Hid (∀ cs c,Bn ((w.alloc (.cells cs 41)).alloc (.cells c 41)) (w.heap.size+1) c):=fun cs c=>Zeb w _ _
 have y:=ZZ (fun W (h:Below w.heap.size w W)=>ZvN (.agg #[.int .i64 a.st.kind,I,.bool a.st.shut,.int .i64 a.st.eng]) a.st (.agg #[.int .i64 b.st.kind,vl',.bool b.st.shut,.int .i64 b.st.eng]) b.st W ⟨I,rfl,N.below h zL,C,E⟩ ⟨vl',rfl,O.below h zL,M,A⟩)
 have z:=ZZ (fun W (h:Below w.heap.size w W)=>Ztb vt a.tab R b.tab W (q.below h zL) (t.below h zL))
 obtain⟨la,lc,ab,-⟩:=N;obtain⟨aj,ag,aa,-⟩:=O;obtain⟨ta,tc,ac⟩:=q.shape;obtain⟨af,al,ae⟩:=t.shape;subst ab ac aa ae;obtain⟨D,u⟩:=zg7 (decide (ZpD a b));rw[<-u];have j:Hid (D=decide (ZpD a b)):=ZZ u;have l:Hid (ZpD a b↔ZmO a.st b.st∧a.idx=b.idx∧a.tab=b.tab):=ZZ Iff.rfl;obtain⟨m,v⟩:=zg7 (decide (ZmO a.st b.st));obtain⟨n,k⟩:=zg7 (decide (a.tab=b.tab));rw[<-v] at y;rw[<-k] at z;have H:=ZZ v;have J:=ZZ k;clear u v k C E hi M A ad q t;obtain⟨idx,⟨kind,L,ai,ap⟩,ak⟩:=a;obtain⟨p,⟨aq,L',am,ao⟩,an⟩:=b
 dsimp only at *
 by_cases d:idx=p
 case neg=>
  have T:(idx == p)=false:=zah.2 d;have HF:Hid (D=false):=ZZ (by rw[j.o];exact zai (fun h=>d (l.o.1 h).2.1))
  clear d
  go_enter func20,ntmps20
  go_wp2;go_ret;rw[HF.o];exact⟨rfl,f.o _ _⟩
 have T:(idx == p)=true:=zbi.2 d
 have B:Hid (D=(m && n)):=ZZ (by
  rw[j.o,H.o,J.o,<-zeg]
  exact zco.2 (l.o.trans ⟨fun h=>⟨h.1,h.2.2⟩,fun h=>⟨h.1,d,h.2⟩⟩))
 clear j l H J d
 go_enter func20,ntmps20
 go_wp2_with fail
 refine(y.o _ (f.o _ _)).mono ?_;rintro x W1 ⟨rfl,g⟩;have i:=ZZ ((f.o _ _).trans (g.mono (f.o _ _).size));have S:=ZZ ((P.o _ _).below g zL);have V:=ZZ ((Z.o _ _).below g zL);obtain⟨q5,f5⟩:=S.o.cell 5;obtain⟨r5,g5⟩:=V.o.cell 5;clear g y
 cases m with
 | false=>
  go_wp2;go_ret;rw[B.o];exact⟨rfl,i.o⟩
 | true=>
  go_wp2_with fail
  refine(z.o _ i.o).mono ?_;rintro x W2 ⟨rfl,K⟩;have U:=ZZ (i.o.trans (K.mono i.o.size));clear K z;go_wp2;go_ret;rw[B.o];exact⟨rfl,U.o⟩
def Zrq (w:World) (s:Q0) (e:Ending) (w':World):Prop:=
 ∃ v',e=.returned (.tuple #[v',.int .i64 (if Zs s then 0 else 1)])∧Own w' w.heap.size v' (if Zs s then ZjN s else[])∧Below w.heap.size w w'
theorem Zaq:∀ (n:Nat) (l:List UInt8),l.length<=n->(Qf (Yd l)).length<=15*l.length
 | 0,l,h=>by
  have e:l=[]:=zao (by omega)
  rw[e,Yp];simp[Qf]
 | n+1,l,h=>by
  by_cases e:l=[]
  ·rw[e,Yp]
   simp[Qf]
  ·have c:l.length≠0:=by simpa using e
   have a:=Zaq n (l.drop 64) (by rw[length_drop];omega)
   have b:=Ga (d:=l.take 64) (by rw[length_take];omega)
   rw[Z5 e,Q9,length_append];rw[length_drop] at a;rw[length_take] at b;omega
theorem ZxR {s:Q0} (h:Zs s):(ZjN s).length<=80000:=by
 have c:=Zaz h;have a:s.idx.toNat<4611686018427387904:=by have:=h.1;omega
 have f:=ZeI a (w:=Xt s) (by omega)
 have e:=Ga (d:=Zbl s.idx.toNat (Xt s)) (by omega)
 have b:=Zaq _ (Xt s) zL;unfold ZjN ZaJ;rw[Q9,length_append];omega
theorem Zrr (n:Int) (w:World) (t:-9223372036854775808<=n) (l:n<=9223372036854775807):
 Calls prog 134 #[.int .i64 n] w fun e w'=>e=.returned (.int .i64 (ZgR n:Nat))∧Below w.heap.size w w':=by
 by_cases h:0<=n∧n<=1048576
 ·obtain⟨g,d⟩:=h
  have a:Hid (ZgR n=(Lib.uvarint n.toNat).length+4+n.toNat):=zab ⟨g,d⟩
  have b:Hid (∀ w,Calls prog 132 #[.slice none 0 0,.int .i64 n] w fun e w'=>∃ ao cap,e=.returned (.slice ao (Lib.uvarint n.toNat).length cap)∧Below w.heap.size w w'):=by
   intro w;refine(ZbD (.slice none 0 0) [] n w (Rd.nil _) (by simp)).mono ?_
   have e:Zsx [] n=Lib.uvarint n.toNat:=zab ⟨by omega,by omega⟩
   rintro p w' ⟨v',rfl,c,j⟩;rw[e] at c;obtain⟨ao,cap,rfl,_⟩:=c.rd;exact⟨ao,cap,rfl,j⟩
  have k:(Lib.uvarint n.toNat).length<=3:=ZAe (by omega)
  generalize (Lib.uvarint n.toNat).length=q at *
  go_enter func134,ntmps134
  go_wp2_with fail
  refine(b.o _).mono ?_;rintro e m ⟨ao,cap,rfl,f⟩;have i:=ZZ f;clear f b;go_wp2;go_ret;refine⟨ZbV ?_,i.o⟩;rw[a.o];omega
 ·have a:Hid (ZgR n=0):=zaa h
  by_cases g:n<0
  ·clear h
   go_enter func134,ntmps134
   go_wp2;go_ret;exact⟨ZbV (by rw[a.o];rfl),zac _ _⟩
  ·have d:1048576<n:=by omega
   clear h
   go_enter func134,ntmps134
   go_wp2;go_ret;exact⟨ZbV (by rw[a.o];rfl),zac _ _⟩
theorem ZzC (v:Value) (l:List UInt8) (w:World) (x:Rd w v l):
 Calls prog 217 #[v] w fun e w'=>e=.returned (.bool (decide (Gv l)))∧w'=w:=by
 obtain⟨ao,cap,rfl,z,t,u,d⟩:=x;clear u;have D:(l.length:Int)<=9223372036854775807:=by unfold maxLen at t;omega
 by_cases E:(l.length:Int)<10
 ·go_enter func217,ntmps217
  go_wp2
  go_loop [10] (fun i=>∃ k:Nat,i=.int .i64 k∧k<=l.length∧Hid (∀ j,j<k->128<=(l.getD j 0).toNat)) (fun i=>l.length-(intOf i).toNat)
  case atStart=>exact⟨0,rfl,by omega,fun j m=>by omega⟩
  case round=>
   obtain⟨k,rfl,B,n⟩:=hrel;by_cases f:k<l.length
   ·rcases d with d | ⟨b,A,rfl,g⟩
    ·subst d;simp at f
    ·have q:=g k f
     clear g;obtain⟨y,c⟩:=zg7 ((l.getD k 0).toNat);rw[<-c] at q;have p:Hid (y=(l.getD k 0).toNat):=c;clear c;by_cases C:(y:Int)<128
     ·go_wp2
      go_ret;refine⟨Zeq ?_,rfl⟩
      symm
      refine zai fun a=>?_
      have:=a.2 k f;rw[<-p.o] at this;omega
     ·go_wp2
      go_round
      case rel=>
       refine⟨k+1,by go_num,by omega,fun j m=>?_⟩
       by_cases e:j=k
       ·rw[e,<-p.o];omega
       ·exact n.out j (by omega)
      case measure=>simp[intOf];omega
   ·go_wp2
    go_ret;refine⟨Zeq ?_,rfl⟩
    symm
    exact zan ⟨by omega,fun j m=>n.out j (by omega)⟩
 ·go_enter func217,ntmps217
  go_wp2;go_ret;refine⟨Zeq ?_,rfl⟩
  symm
  exact zai fun a=>by have:=a.1;omega
theorem Own.made0 (w:World) (B:Nat) (a:B<=w.heap.size):Own (w.alloc (.cells #[] 5)) B (.slice (some ⟨w.heap.size,0,none⟩) 0 0) []:=
 ⟨rfl,.inr ⟨w.heap.size,0,#[],rfl,a,zak w _,za0 _,zap _,rfl,rfl⟩⟩
theorem ZvO (v:Value) (l:List UInt8) (w:World) (d:Rd w v l) (B:l.length<=70368744177664):
 Calls prog 113 #[v] w fun e w'=>∃ v',e=.returned v'∧Own w' w.heap.size v' l∧Below w.heap.size w w':=by
 have u:=ZZ d;obtain⟨ao,cap,rfl,p,q,a,f⟩:=d
 cases ao with
 | none=>
  have m:=a rfl;have x:l=[]:=zao (by omega)
  subst x;subst m;clear f a;have k:∀ w,(binOp .eql 53 (.slice none 0 0) (.slice none 0 0)).run prog w=.ok (.bool true) w:=fun w=>zc5 w _ _ none 0 0 underlying53
  go_enter func113,ntmps113
  go_wp2;go_ret;exact⟨_,rfl,Own.nil _ _,zac _ _⟩
 | some c=>
  clear f a p q;have k:∀ w,(binOp .eql 53 (.slice (some c) l.length cap) (.slice none 0 0)).run prog w=.ok (.bool false) w:=fun w=>zc5 w _ _ (some c) _ _ underlying53
  have t:=ZZ (Own.made0 w w.heap.size zL);have b:=ZZ ((zac w.heap.size w).alloc zL (.cells #[] 5));have j:=ZZ (u.o.below b.o zL);have z:Hid (w.heap.size<=(w.alloc (.cells #[] 5)).heap.size):=b.o.size
  go_enter func113,ntmps113
  go_wp2_with(at_builtin;refine Xx _ rfl _ _ rfl w.heap.size _ [] rfl t.o _ l rfl j.o (by simp;omega) z.o ?_)
  intro y C g i;have n:=ZZ g;have A:=ZZ (b.o.trans i);clear g i;go_wp2;go_ret;exact⟨y,rfl,n.o,A.o⟩
theorem Zdp (v:Value) (l:List UInt8) (w:World) (H:Rd w v l):
 Calls prog 91 #[v] w fun e w'=>∃ v',e=.returned (.tuple #[v',.int .i64 ((ZyR l).2:Nat)])∧Own w' w.heap.size v' (ZyR l).1∧Below w.heap.size w w':=by
 have HR:=ZZ H;obtain⟨i0,hi,T,ag,Y⟩:=zbx Zlw;obtain⟨ao,cap,rfl,au,aj,V,X⟩:=H;clear V X;have av:(l.length:Int)<=9223372036854775807:=by unfold maxLen at aj;omega
 by_cases h:(l.length:Int)<=1048576
 ·have a:Hid (ZyR l=(Zh l++Lib.leBytes 4 (Q3 0 (Zh l)),0)):=zab (by omega)
  have p:Hid (∀ w,Calls prog 132 #[.slice none 0 0,.int .i64 (l.length:Int)] w fun e w'=>∃ v',e=.returned v'∧Own w' w.heap.size v' (Lib.uvarint l.length)∧Below w.heap.size w w'):=by
   intro w;have:=ZbD (.slice none 0 0) [] (l.length:Int) w (Rd.nil _) (by simp)
   have e:Zsx [] (l.length:Int)=Lib.uvarint l.length:=zab ⟨by omega,by omega⟩
   rwa [e] at this
  have F:Hid (∀ w,Calls prog 134 #[.int .i64 (l.length:Int)] w fun e w'=>e=.returned (.int .i64 (ZgR (l.length:Int):Nat))∧Below w.heap.size w w'):=fun w=>Zrr _ w (by omega) (by omega)
  have f:Hid (∀ v w,Rd w v (Zh l)->Calls prog 136 #[v] w fun e w'=>e=.returned (.int .u32 (Q3 0 (Zh l):Nat))∧Below w.heap.size w w'):=fun v w h=>Zmi v _ w h
  have m:Hid (∀ w,Calls prog 135 #[.int .u32 (Q3 0 (Zh l):Nat)] w fun e w'=>∃ v',e=.returned v'∧Own w' w.heap.size v' (Lib.leBytes 4 (Q3 0 (Zh l)))∧Below w.heap.size w w'):=fun w=>Zik _ w (ZmU _)
  have x:Hid (Zh l=Lib.uvarint l.length++l):=rfl;have ak:Hid ((Lib.leBytes 4 (Q3 0 (Zh l))).length=4):=zcz 4 _;have b:Hid ((Lib.uvarint l.length).length<=3):=ZAe (by omega)
  have aw:ZgR (l.length:Int)<=2000000:=by
   have e:ZgR (l.length:Int)=(Lib.uvarint l.length).length+4+l.length:=zab ⟨by omega,h⟩
   have:=b.o;rw[e];omega
  generalize ZgR (l.length:Int)=z at *;generalize Q3 0 (Zh l)=s at *;obtain⟨S,K⟩:∃ S:Int,S=(s:Int):=⟨_,rfl⟩;rw[<-K] at m f;clear K;generalize Lib.leBytes 4 s=q at *;generalize Lib.uvarint l.length=u at *;generalize Zh l=hd at *;have hh:=x.o;subst hh;clear x
  go_enter func91,ntmps91
  go_wp2_with fail
  refine(F.o _).mono ?_;rintro e w1 ⟨rfl,d⟩;have al:=ZZ d;have P:=d.size;clear d F
  go_wp2_with(at_make;refine wpList_make_own _ rfl _ _ 53 rfl w.heap.size 5 i0 (.int .u8 0) 1 underlying53 hi T ag _ _ _ z rfl rfl (by omega) (by rw[Y];omega) (by unfold maxLen;omega) P ?_)
  intro w2 B C;have aa:Hid (Own w2 w.heap.size (.slice (some ⟨w1.heap.size,0,none⟩) 0 z) []):=B;have Q:=ZZ (al.o.grown C P (fun k hk=>by cases hk))
  have ad:=Q.o.size;clear B C
  go_wp2_with fail
  refine(p.o _).mono ?_;rintro e w3 ⟨v3,rfl,n,g⟩;have L:=ZZ (Q.o.trans (g.mono ad));have ac:=ZZ n.rd;have an:=ZZ (aa.o.below g zL);have ap:=L.o.size;clear n g p
  go_wp2_with(at_builtin;refine Xx _ rfl _ _ rfl w.heap.size _ [] rfl an.o _ u rfl ac.o (by have:=b.o;simp;omega) ap ?_)
  intro v4 w4 J N;have c:=ZZ (L.o.trans N);have U:Hid (Own w4 w.heap.size v4 u):=J;have Z:=c.o.size;clear J N
  go_wp2_with(at_builtin;refine Xx _ rfl _ _ rfl w.heap.size _ u rfl U.o _ l rfl (HR.o.below c.o zL) (by have:=b.o;omega) Z ?_)
  intro v5 W t M;have G:=ZZ (c.o.trans M);have y:Hid (Own W w.heap.size v5 (u++l)):=t;have ar:=G.o.size;clear t M
  go_wp2_with fail
  refine(f.o _ _ y.o.rd).mono ?_;rintro e w6 ⟨rfl,i⟩;have A:=ZZ (G.o.trans (i.mono ar));have ab:=ZZ (y.o.below i zL);have R:=A.o.size;clear i f
  go_wp2_with fail
  refine(m.o _).mono ?_;rintro e w7 ⟨v7,rfl,I,j⟩;have E:=ZZ (A.o.trans (j.mono R));have ae:=ZZ I.rd;have ai:=ZZ (ab.o.below j zL);have aq:=E.o.size;clear I j m
  go_wp2_with(at_builtin;refine Xx _ rfl _ _ rfl w.heap.size _ (u++l) rfl ai.o _ q rfl ae.o (by have:=b.o;have:=ak.o;simp;omega) aq ?_)
  intro v8 w8 D O;have am:=ZZ (E.o.trans O);have af:=ZZ D;clear D O;go_wp2;go_ret2;exact⟨v8,by rw[a.o];rfl,by rw[a.o];show Own _ _ _ (u++l++q);rw[zcr];exact af.o,am.o⟩
 ·have a:Hid (ZyR l=([],5)):=zaa (by omega)
  go_enter func91,ntmps91
  go_wp2;go_ret2;exact⟨_,by rw[a.o];rfl,by rw[a.o];exact Own.nil _ _,zac _ _⟩
theorem Zmk {B B':Nat} {e:TypeId} {xs:List Value} (h:w.ownsRow B e k v n xs) (f:Below B' w w') (j:w.heap.size<=B'):w'.ownsRow B e k v n xs:=by
 obtain⟨d,a⟩:=h;refine⟨d,?_⟩;rcases a with a | ⟨g,cap,cur,i,c,b,r⟩
 ·exact .inl a
 ·have l:g<w.heap.size:=(zar.1 b).1
  exact .inr ⟨g,cap,cur,i,c,by rw[f.block g (by omega)];exact b,r⟩
theorem Zml (P:List (List UInt8)) (q:Nat) (a:q<P.length):Qf (P.take (q+1))=Qf (P.take q)++Qd (P.getD q []):=by
 have b:P.take (q+1)=P.take q++[P.getD q []]:=by
  rw[take_add_one,za4 a];simp[List.getD,a]
 rw[b,Zay,Q9];simp[Qf]
theorem Zcs (P:List (List UInt8)) (q:Nat):(Qf (P.take q)).length<=(Qf P).length:=by
 have h:Qf P=Qf (P.take q)++Qf (P.drop q):=by rw[<-Zay,zb9]
 rw[h,length_append];omega
theorem ZpY (s:Q0):ZaJ s=Zbl s.idx.toNat (Xt s)::Yd (Xt s):=rfl
theorem ZvP (s:Q0):Xt s≠[]:=by
 unfold Xt;intro h;have b:=(List.append_eq_nil_iff.1 h).1;have a:=congrArg List.length b;have:=J6 (ZeA s.st).length;rw[zc0] at a;omega
theorem ZpZ (v:Value) (s:Q0) (w:World) (hs:SnV w v s):
 Calls prog 56 #[v] w fun e w'=>Zrq w s e w':=by
 have av:=ZZ hs;obtain⟨vl,vt,rfl,hl,hk,he,ht,hi⟩:=hs;obtain⟨la,lc,ba,-⟩:=id hl;obtain⟨ta,tc,bd⟩:=ht.shape;subst ba bd;have I:=ZZ (fun W (h:Below w.heap.size w W)=>Zrp _ s W (av.o.below h zL))
 obtain⟨U,z⟩:=zg7 (w.alloc (.cells #[.int .i64 s.idx,.int .i64 s.st.kind,.slice la s.st.L.length lc,.bool s.st.shut,.int .i64 s.st.eng,.slice ta s.tab.length tc] 41));have k:Hid (Below w.heap.size w U):=ZZ (by rw[z];exact(zac _ _).alloc zL _)
 have f:Hid (Bn U w.heap.size #[.int .i64 s.idx,.int .i64 s.st.kind,.slice la s.st.L.length lc,.bool s.st.shut,.int .i64 s.st.eng,.slice ta s.tab.length tc]):=ZZ (by rw[z];exact zak w _)
 obtain⟨E,-⟩:=f.o.cell 0;obtain⟨V,-⟩:=f.o.cell 1;obtain⟨p2,-⟩:=f.o.cell 2;obtain⟨p3,-⟩:=f.o.cell 3;obtain⟨p4,-⟩:=f.o.cell 4;obtain⟨p5,-⟩:=f.o.cell 5;unfold Zrq;clear hl hk he ht hi;by_cases d:Zs s
 case neg=>
  rw[zaa d,zaa d];rw[zai d] at I;clear d
  go_enter func56,ntmps56
  go_upto_region 1 with fail
  rw[<-z];clear z
  go_wp2_with fail
  refine(I.o _ k.o).mono ?_;rintro x W1 ⟨rfl,u⟩;have B:=ZZ (k.o.trans (u.mono k.o.size));clear u;go_wp2;go_ret2;exact⟨_,rfl,Own.nil _ _,B.o⟩
 rw[zab d,zab d];rw[zan d] at I;have aO:=ZZ (fun W (h:Below w.heap.size w W)=>ZpX _ s W (av.o.below h zL) d)
 have a7:=Zaz d;have aV:=d.1;have al:=ZZ (fun v1 W h=>Zkb s.idx v1 (Xt s) W h)
 have K:=ZZ (fun W=>ZxQ s.idx ((Xt s).length:Int) (Q3 0 (Xt s)) W aV ⟨by omega,by omega⟩ (ZmU _))
 rw[zbj,ZxP] at K;have aR:=ZZ (fun v1 W h=>ZkO v1 (Xt s) W h (by omega))
 have H:Hid (ZaJ s=Zbl s.idx.toNat (Xt s)::Yd (Xt s)):=ZZ (ZpY s);have ac:Hid (∀ x ∈ ZaJ s,x.length<=1048576):=ZZ (Zkw d);have ag:Hid ((Qf (ZaJ s)).length<=80000):=ZZ (ZxR d);have aZ:Hid (ZjN s=Qf (ZaJ s)):=ZZ rfl;rw[aZ.o]
 have Z:Hid (0<(Yd (Xt s)).length∧(Yd (Xt s)).length<=5000):=ZZ (by
  constructor
  ·rw[Z5 (ZvP s)]
   simp
  ·have h1:=Zcs (ZaJ s) (ZaJ s).length
   have h2:∀ (L:List (List UInt8)),(∀ x ∈ L,1<=x.length)->L.length<=L.flatten.length:=fun L hL=>by
    induction L with
    | nil=>simp
    | cons x t ih=>
     have N:=hL x (by simp)
     have h4:=ih (fun y hy=>hL y (by simp[hy]))
     rw[length_cons,flatten_cons,length_append];omega
   have N:=h2 (Yd (Xt s)) (fun x hx=>(ZfF _ _ x zL hx).2)
   rw[ZdR _ _ zL] at N
   omega)
 generalize Xt s=Q at *;generalize Zbl s.idx.toNat Q=l at *;generalize Yd Q=PW at *;generalize Q3 0 Q=CR at *;obtain⟨b,aF⟩:=zg7 (ZaJ s);rw[<-aF] at H ac ag ⊢;clear aF aZ d;obtain⟨CI,aY⟩:∃ CI:Int,CI=(CR:Int):=⟨_,rfl⟩;rw[<-aY] at al K;clear aY av
 go_enter func56,ntmps56
 go_upto_region 1 with fail
 rw[<-z];clear z
 go_wp2_with fail
 refine(I.o _ k.o).mono ?_;rintro x W1 ⟨rfl,u⟩;have B:=ZZ (k.o.trans (u.mono k.o.size));have j:=ZZ (f.o.below u zL);clear u I E V p2 p3 p4 p5 f k;obtain⟨E,-⟩:=j.o.cell 0;obtain⟨V,-⟩:=j.o.cell 1;obtain⟨p2,-⟩:=j.o.cell 2;obtain⟨p3,-⟩:=j.o.cell 3;obtain⟨p4,-⟩:=j.o.cell 4;obtain⟨p5,-⟩:=j.o.cell 5
 go_wp2_with fail
 refine(aO.o _ B.o).mono ?_;rintro x W2 ⟨v2,rfl,ae,aq⟩;have ay:=ZZ (B.o.trans (aq.mono B.o.size));have aN:=ZZ (j.o.below aq zL);have ad:=ZZ ae.rd;obtain⟨a2,c2,bc⟩:∃ a c,v2=.slice a Q.length c:=by obtain⟨a,c,h,-⟩:=ae.rd;exact⟨a,c,h⟩
 subst bc;clear ae aq aO E V p2 p3 p4 p5 j B;obtain⟨E,-⟩:=aN.o.cell 0
 go_wp2_with fail
 refine(al.o _ _ ad.o).mono ?_;rintro x W3 ⟨rfl,am⟩;have ak:=ZZ (ay.o.trans (am.mono ay.o.size));have aU:=ZZ (ad.o.below am zL);clear am al aN E ay ad
 go_wp2_with fail
 refine(K.o _).mono ?_;rintro x i ⟨v4,rfl,aj,ap⟩;have a0:=ZZ (ak.o.trans (ap.mono ak.o.size));have au:=ZZ (aU.o.below ap zL);have aL:=ZZ aj.rd;obtain⟨C,n,bk⟩:∃ a c,v4=.slice a l.length c:=by obtain⟨a,c,h,-⟩:=aj.rd;exact⟨a,c,h⟩
 subst bk;clear aj ap K ak aU;have T:Hid (Below i.heap.size i (i.alloc (.cells #[.slice C l.length n] 53))):=ZZ ((zac _ _).alloc zL _);have aA:Hid ((i.alloc (.cells #[.slice C l.length n] 53)).ownsRow i.heap.size 53 1 (.slice (some ⟨i.heap.size,0,none⟩) 1 1) 1 [.slice C l.length n]):=ZZ (zgr i #[.slice C l.length n] 1 zL (by unfold maxLen;omega) rfl)
 go_wp2_with fail
 refine(aR.o _ _ (au.o.below T.o zL)).mono ?_;rintro x W6 ⟨v6,xs,rfl,an,R,ao⟩;have Y:=ZZ (T.o.trans (ao.mono T.o.size));have aI:=ZZ (Zmk aA.o ao zL);have M:=ZZ R;have aP:=ZZ an;clear ao R aA T aR;rcases an.2 with ⟨-,hn⟩ | ⟨g6,a8,bn,R,-⟩
 ·have:=Z.o
  omega
 subst R;clear an;have aG:=Y.o.size;have a6:=Z.o
 go_wp2_with(at_builtin;refine Zam _ rfl _ _ rfl i.heap.size _ 1 [.slice C l.length n] rfl aI.o _ PW.length a8 xs rfl M.o.1 (zc4 aP.o rfl) M.o.one (by omega) aG ?_)
 intro v7 m ai aS;have P:=ZZ (Y.o.trans aS);have af:=ZZ (a0.o.trans (P.o.mono a0.o.size));have az:=ZZ (aL.o.below P.o zL);have aD:=ZZ (au.o.below P.o zL);have aM:=ZZ ai;have ax:b.length=1+PW.length:=by rw[H.o,length_cons];omega
 have bo:(b.length:Int)<=100000:=by omega
 have bl:Hid (∀ q,q<b.length->∃ x,([Value.slice C l.length n]++xs)[q]?=some x∧Rd m x (b.getD q [])):=ZZ (fun q A=>by
  cases q with
  | zero=>
   refine⟨_,rfl,?_⟩;rw[H.o];exact az.o
  | succ q=>
   obtain⟨x,h1,h2,N⟩:=M.o.2 q (by omega)
   refine⟨x,by simpa using h1,?_⟩
   rw[H.o]
   exact N m aD.o)
 rcases ai.2 with ⟨-,hn⟩ | ⟨g7,bq,bm,bg,-⟩
 ·omega
 subst bg;rw[<-ax] at aM;clear ai aS az aD aI M aL au Y P Z a6 aG aP;have a9:Hid (∀ q,q<b.length->Qf (b.take (q+1))=Qf (b.take q)++Qd (b.getD q [])):=ZZ (fun q A=>Zml b q A)
 have aC:Hid (∀ q,(Qf (b.take q)).length<=80000):=ZZ (fun q=>zau (Zcs b q) ag.o)
 have bi:Hid (∀ q,q<b.length->(b.getD q []).length<=1048576):=ZZ (fun q A=>ac.o _ (by rw[show b.getD q []=b[q] by simp[List.getD,A]];exact getElem_mem A))
 rw[<-ax];clear ax H ac a7 aV ag;go_wp2
 go_loopw[6,27] (fun vo vi wr=>∃ q:Nat,vi=.int .i64 (q:Int)∧q<=b.length∧Hid (Own wr m.heap.size vo (Qf (b.take q)))∧Hid (Below m.heap.size m wr)) (fun _ vi _=>b.length-(intOf vi).toNat)
 case atStart=>exact⟨0,rfl,zap _,ZZ (Own.nil _ _),zac _ _⟩
 case round=>
  obtain⟨q,rfl,A,J,p⟩:=hrel;by_cases ab:q<b.length
  case neg=>
   obtain rfl:q=b.length:=by omega
   rw[take_length] at J;go_wp2;go_ret2;exact⟨_,rfl,J.out.mono af.o.size,af.o.trans (p.out.mono af.o.size)⟩
  have bp:(q:Int)<(b.length:Int):=by omega
  obtain⟨x,aW,aa⟩:=bl.o q ab;have S:=zc4 aM.o (g:=g7) rfl q x aW;rw[zbn] at S;have aJ:wr.cell? ⟨g7,0+q,none⟩=some x:=(p.out.cell (za1 m ⟨g7,0+q,none⟩ S)).trans S;rw[za9] at aJ;have aX:=ZZ (aa.below p.out zL)
  have aK:Hid (ZyR (b.getD q [])=(Qd (b.getD q []),0)):=ZZ (by
   unfold ZyR
   rw[zab (bi.o q ab)])
  have ar:=ZZ (a9.o q ab);have a3:=ZZ (aC.o q);have X:=ZZ (aC.o (q+1));have O:=ZZ (Zdp x (b.getD q []) wr aX.o);rw[aK.o] at O;rw[ar.o] at X
  dsimp only at O
  obtain⟨xa,xc,bj⟩:∃ a c,x=.slice a (b.getD q []).length c:=by obtain⟨a,c,h,-⟩:=aa;exact⟨a,c,h⟩
  subst bj;clear aW aa S aK aX;generalize Qd (b.getD q [])=F at *;generalize b.getD q []=D at *;obtain⟨G,hG⟩:=zg7 (Qf (b.take q));rw[<-hG] at J ar a3 X;clear hG
  go_wp2_with fail
  refine O.o.mono ?_;rintro e W8 ⟨v8,rfl,aE,aw⟩;have be:=ZZ aE.rd;have aB:=ZZ (J.out.below aw zL);have aT:=ZZ (p.out.trans (aw.mono p.out.size));have bb:=ZZ aT.o.size;have a1:Hid (G.length+F.length<=70368744177664):=ZZ (by have:=X.o;rw[length_append] at this;omega)
  clear aE aw O J p aJ
  go_wp2_with(at_builtin;refine Xx _ rfl _ _ rfl m.heap.size _ G rfl aB.o _ F rfl be.o a1.o bb.o ?_)
  intro v9 W9 aQ aH;have bf:=ZZ aQ;have a5:=ZZ (aT.o.trans aH);clear aQ aH aB;go_wp2;go_roundw
  case rel=>exact⟨q+1,by go_num,by omega,ZZ (by rw[ar.o];exact bf.o),a5⟩
  case measure=>simp[intOf];omega
theorem Zqa (w:World) (h:SD K w pd p s d N T) (g:∀ k,K k->k<w.heap.size) (m:ZpV s):
 Calls prog 26 #[ptr p] w fun e w'=>J3 K w pd p (Yb (s,d)) (N+4) T e w':=by
 have a:=ZZ (ZeX w h g m);unfold Yb;obtain⟨r,q⟩:=zg7 (Q5 (s,d));rw[<-q] at a ⊢;have z:=ZZ g;obtain⟨R,i⟩:∃ R,R=if r.2=0 then(({ r.1.1 with cur:=0 },r.1.2),(0:Int)) else r:=⟨_,rfl⟩
 rw[<-i];have b:=ZZ i;clear h g q i m;obtain⟨⟨n,F⟩,c⟩:=r
 dsimp only at b
 unfold J3 at a
 dsimp only at a
 go_enter func26,ntmps26
 go_wp2_with fail
 refine a.o.mono ?_;rintro e y ⟨rfl,j,l⟩;have v:=ZZ j;have t:=ZZ l;have A:Hid (∀ k,K k->k<y.heap.size):=ZZ (fun k x=>zay (z.o k x) l.size)
 obtain⟨⟨-,-,B,-⟩,fz⟩:=j.cells;have E:=fz 12;clear j l a fz;by_cases f:c=0
 ·subst f
  rw[zab rfl] at b;have u:=ZZ (v.o.setHead (s':={ n with cur:=0 }) A.o 12 (.int .i64 0) rfl rfl rfl (fun _=>rfl))
  generalize n.cur=D at *;go_wp2;go_ret;rw[b.o];exact⟨rfl,u.o.1,t.o.trans u.o.2 (fun _ _ h=>h)⟩
 ·rw[zaa f] at b
  have C:(c != 0)=true:=by rw[zbq];exact f
  clear f;go_wp2;go_ret;rw[b.o];exact⟨rfl,v.o,t.o⟩
theorem ZvQ {l:List Int} (a:k<l.length) (b:l.getD k 0=x):x ∈ l:=by
 rw[<-b];exact ZiE a
theorem Ztc (v:Value) (l:List Int) (x:Int) (w:World) (B:RdI w v l):
 Calls prog 144 #[v,.int .i64 x] w fun e w'=>(∃ k:Int,e=.returned (.int .i64 k)∧((0<=k∧x ∈ l)∨(k=-1∧x ∉ l)))∧w'=w:=by
 obtain⟨ao,cap,rfl,A,n,-,-,p⟩:=B;have I:(l.length:Int)<=9223372036854775807:=by unfold maxLen at n;omega
 have C:=ZZ p;clear p n A
 go_enter func144,ntmps144
 go_wp2
 go_loop [8] (fun i=>∃ k:Nat,i=.int .i64 k∧k<=l.length∧Hid (∀ j,j<k->l.getD j 0≠x)) (fun i=>l.length-(intOf i).toNat)
 case atStart=>exact⟨0,rfl,zap _,fun j d=>by omega⟩
 case round=>
  obtain⟨k,rfl,G,q⟩:=hrel;by_cases b:k<l.length
  ·rcases C.o with E | ⟨g,H,rfl,m⟩
   ·rw[E] at b;simp at b
   have z:=m k b;clear m;have u:=ZZ b;obtain⟨y,f⟩:=zg7 (l.getD k 0);rw[<-f] at z;have t:=ZZ f;clear f;by_cases a:x=y
   ·subst a
    go_wp2;go_ret;exact⟨⟨(k:Int),rfl,.inl ⟨by omega,ZvQ u.o t.o.symm⟩⟩,rfl⟩
   ·have F:(x == y)=false:=zah.2 a
    have c:=ZZ a;clear a;go_wp2
    go_round
    case rel=>
     refine⟨k+1,by go_num,by omega,fun j d=>?_⟩
     by_cases e:j=k
     ·rw[e,<-t.o];exact fun h=>c.o h.symm
     ·exact q.out j (by omega)
    case measure=>simp[intOf];omega
  ·have c:Hid (x ∉ l):=ZZ (fun D=>by
    obtain⟨j,d,e⟩:=zds D
    exact q.out j (by omega) (by simp[List.getD,d,e]))
   go_wp2;go_ret;exact⟨⟨-1,rfl,.inr ⟨rfl,c.o⟩⟩,rfl⟩
theorem Zmm (v:Value) (l:List Int) (x:Int) (w:World) (f:RdI w v l):
 Calls prog 106 #[v,.int .i64 x] w fun e w'=>e=.returned (.bool (decide (x ∈ l)))∧w'=w:=by
 have g:=ZZ (Ztc v l x w f);obtain⟨ao,cap,rfl,-⟩:=f;obtain⟨b,d⟩:=zg7 (decide (x ∈ l));rw[<-d];have c:=ZZ d;clear d
 go_enter func106,ntmps106
 go_wp2_with fail
 refine g.o.mono ?_;rintro e j ⟨⟨k,rfl,i⟩,rfl⟩;clear g;rcases i with ⟨m,a⟩ | ⟨rfl,a⟩
 ·rw[zan a] at c
  clear a;go_wp2;go_ret;rw[c.o];exact⟨rfl,rfl⟩
 ·rw[zai a] at c
  clear a;go_wp2;go_ret;rw[c.o];exact⟨rfl,rfl⟩
theorem Ztd (w:World) (h:SD K w pd p s d N T) (A:∀ k,K k->k<w.heap.size) (P:N<=1000000) (Q:T<=1000000000):
 Calls prog 63 #[ptr p] w fun e w'=>J3 K w pd p (Yy (s,d)) (N+2) T e w':=by
 obtain⟨⟨S,-⟩,-⟩:=h.cells
 have B:Hid (Calls prog 28 #[ptr pd] w fun e w'=>∃ v,e=.returned v∧Qt w' w.heap.size v (Qk d)∧Below w.heap.size w w'):=ZZ (by
  obtain⟨F,M,I,L,⟨L1,E,l,-⟩,-⟩:=h
  exact ZeM w E l P)
 have HI:Hid (∀ n ∈ Qk d,I64 n):=ZZ (by
  obtain⟨F,M,I,L,⟨L1,E,l,-⟩,-⟩:=h;intro n V;have:=Zbg l n V
  exact⟨by omega,by omega⟩)
 have x:=ZZ h;have Z:=ZZ A;have u:Hid (∀ W,Below w.heap.size w W->Calls prog 69 #[ptr pd,.int .i64 1] W fun e w'=>J3 K W pd p (Xo (fun d=>Qi d 1) (s,d)) (N+2) T e w'):=ZZ (fun W O=>(x.o.below O).step (fun d=>Qi d 1) (fun k X=>zay (Z.o k X) O.size) (fun F hF _=>Zky 1 ⟨by decide,by decide⟩ _ hF P Q))
 obtain⟨R,m⟩:=zg7 (Yy (s,d));rw[<-m];have i:=ZZ m;clear h A m
 go_enter func63,ntmps63
 go_wp2_with fail
 refine B.o.mono ?_;rintro e j ⟨D,rfl,t,g⟩;have H:=ZZ g;have f:=ZZ (Zmm D (Qk d) 1 j (t.rd HI.o))
 obtain⟨a1,n1,c1,U⟩:∃ a n c,D=.slice a n c:=by
  obtain⟨a,c,Y⟩:=t.shape;exact⟨a,_,c,Y⟩
 subst U;have G:Hid (Ql (fun k=>¬ K k) w j):=ZZ (Ql.ofBelow g)
 obtain⟨⟨d0,-⟩,-⟩:=(x.o.below g).cells;clear t g B S;by_cases b:1 ∈ Qk d
 ·rw[zan b] at f
  have q:Hid (R=Xo (fun d=>Qi d 1) (s,d)):=ZZ (by rw[i.o];unfold Yy;rw[zab b])
  have J:=ZZ (u.o j H.o);rw[<-q.o] at J;clear b i u
  go_wp2_with fail
  refine f.o.mono ?_;rintro e W2 ⟨rfl,rfl⟩
  go_wp2_with fail
  refine J.o.mono ?_;rintro e W3 ⟨rfl,y,z⟩;have C:=ZZ (And.intro y z);clear y z;go_wp2;go_ret;exact⟨rfl,C.o.1,G.o.trans C.o.2 (fun _ _ h=>h)⟩
 ·rw[zai b] at f
  have q:Hid (R=((s,d),0)):=ZZ (by rw[i.o];unfold Yy;rw[zaa b])
  clear b i u
  go_wp2_with fail
  refine f.o.mono ?_;rintro e W2 ⟨rfl,rfl⟩;go_wp2;go_ret;rw[q.o];exact⟨rfl,(x.o.below H.o).mono (by omega) zL,G.o⟩
theorem Zqb (w:World) (h:SD K w pd p s d N T) (a:∀ k,K k->k<w.heap.size) (n:w.cell? ⟨R,0,none⟩=some (ptr p)):
 Calls prog 58 #[.pointer (some ⟨R,0,none⟩)] w fun e w'=>J3 K w pd p (Xo (fun d=>Xz d 1) (s,d)) (N+2) T e w':=by
 have c:=ZZ (h.step (fun d=>Xz d 1) a (fun F j _=>Zrg 1 ⟨by decide,by decide⟩ _ j))
 obtain⟨⟨l,-⟩,-⟩:=h.cells;obtain⟨r,b⟩:=zg7 (Xo (fun d=>Xz d 1) (s,d))
 rw[<-b] at c ⊢;clear h a b
 go_enter func58,ntmps58
 go_wp2_with fail
 refine c.o.mono ?_;rintro e m ⟨rfl,f,g⟩;have i:=ZZ (And.intro f g);clear f g;go_wp2;go_ret;exact⟨rfl,i.o⟩
theorem Zqc (w:World) (h:SD K w pd p s d N T) (z:∀ k,K k->k<w.heap.size) (G:w.cell? ⟨R,0,none⟩=some (ptr p)) (B:K R) (J:N<=1000000) (O:T<=1000000000):
 Calls prog 60 #[.pointer (some ⟨R,0,none⟩)] w fun e w'=>J3 K w pd p (Gx (s,d)) (N+2) T e w':=by
 have v:=ZZ h;have q:=ZZ z;have u:=ZZ B
 have V:Hid (∀ W,Below w.heap.size w W->Calls prog 50 #[ptr p,.int .i64 3] W fun e w'=>e=.returned (.int .i64 (Xs d 3))∧Below w.heap.size w w'):=ZZ (fun W b=>by
  obtain⟨F,M,I,L,U,h2,-⟩:=v.o.below b;refine(Zgy 3 W h2 U J (by decide) (by decide)).mono ?_
  rintro e w' ⟨rfl,g⟩
  exact⟨rfl,b.trans (g.mono b.size)⟩)
 have y:Hid (I64 (Xs d 3)):=ZZ (by
  obtain⟨F,M,I,L,⟨L1,g1,S,-⟩,-⟩:=h;have g:∀ n ∈ Xm (Qk d) 3,0<=n∧n<1048576:=fun n j=>Zbg S n (za3.1 j).1
  unfold Xs;generalize Xm (Qk d) 3=l at g ⊢;by_cases Z:l.length=0
  ·rw[zao Z]
   exact⟨by decide,by decide⟩
  ·have e:l.getD (l.length-1) (3-2)=l[l.length-1]'(by omega):=by simp[List.getD,show l.length-1<l.length by omega]
   have:=g _ (getElem_mem (show l.length-1<l.length by omega))
   rw[e]
   exact⟨by omega,by omega⟩)
 have E:Hid (∀ W,Below w.heap.size w W->Calls prog 61 #[ptr pd,.int .i64 1,.int .i64 (Xs d 3)] W fun e w'=>J3 K W pd p (Gx (s,d)) (N+2) T e w'):=ZZ (fun W b=>(v.o.below b).step (fun d=>Z1 d 1 (Xs d 3)) (fun k Q=>zay (q.o k Q) b.size) (fun F Y _=>Zst 1 (Xs d 3) ⟨by decide,by decide⟩ y.o _ Y J O))
 have c:Hid (∀ W,Below w.heap.size w W->W.cell? ⟨R,0,none⟩=some (ptr p)∧W.cell? ⟨p,0,none⟩=some (ptr pd)):=ZZ (fun W b=>by
  obtain⟨⟨i,-⟩,-⟩:=(v.o.below b).cells
  exact⟨(b.cell (p:=⟨R,0,none⟩) (q.o R u.o)).trans G,i⟩)
 have P:Hid (∀ W W' (r:SDk × Int),Below w.heap.size w W->SD K W' pd p r.1.1 r.1.2 (N+2) T->Ql (fun k=>¬ K k) W W'->W'.cell? ⟨R,0,none⟩=some (ptr p)∧W'.cell? ⟨p,0,none⟩=some (ptr pd)):=ZZ (fun W W' (r:SDk × Int) b hs ho=>by
  obtain⟨⟨i,-⟩,-⟩:=hs.cells
  exact⟨(zb4 (a:=⟨R,0,none⟩) (ho.block R (zay (q.o R u.o) b.size) (fun j=>j u.o))).trans (c.o W b).1,i⟩)
 have D:Hid (Below w.heap.size w w.drew):=ZZ (zac _ _).drew;obtain⟨c9,c0⟩:=c.o w (zac _ _);obtain⟨r,A⟩:=zg7 (Gx (s,d));rw[<-A] at E ⊢;generalize Xs d 3=nn at *;clear h z A G B y
 go_enter func60,ntmps60
 go_upto_region 1 with fail
 go_region_held(fun W=>W.cell? ⟨R,0,none⟩=some (ptr p)∧W.cell? ⟨p,0,none⟩=some (ptr pd))
  (first | (with_reducible exact c.o _ D.o) | (with_reducible exact c.o _ f.o) | (with_reducible exact X.o))
  (first
   | (go_at_call 50;refine(V.o _ D.o).mono ?_;rintro e C ⟨rfl,H⟩;have f:=ZZ H;clear H)
   | (go_at_call 61;refine(E.o C f.o).mono ?_;rintro e W2 ⟨rfl,t,m⟩;have x:=ZZ (And.intro t m);have X:=ZZ (P.o C W2 r f.o t m);clear t m))
 all_goals
  go_wp2;go_ret;exact⟨rfl,x.o.1,(Ql.ofBelow f.o).trans x.o.2 (fun _ _ h=>h)⟩
theorem ZfZ (h:q<l.length):l.take (q+1)=l.take q++[l.getD q Qj]:=by
 rw[take_add_one];simp[List.getD,h]
theorem Zoc:∀ (l:List Rec) (i:Int) (j:Nat),Xn i l->j<l.length->(l.getD j Qj).idx=i+j
 | r::t,i,0,h,_=>by
  have:=h.1;simp[List.getD,this]
 | r::t,i,j+1,h,hj=>by
  have:=Zoc t (i+1) j h.2 (by simpa using hj)
  simp only [List.getD,List.getElem?_cons_succ] at this ⊢;rw[this];omega
theorem Zga:∀ (l:List Rec) (i:Int) (r:Rec),Xn i (l++[r])↔Xn i l∧r.idx=i+l.length
 | [],i,r=>by simp[Xn]
 | s::t,i,r=>by
  rw[zcq,Xn,Xn,Zga t (i+1) r,length_cons,and_assoc];constructor
  ·rintro⟨h1,h2,h3⟩
   exact⟨h1,h2,by omega⟩
  ·rintro⟨h1,h2,h3⟩
   exact⟨h1,h2,by omega⟩
theorem ZkP:∀ (l:List Rec) (i:Int) (k:Nat),Xn i l->Xn i (l.take k)
 | _,_,0,_=>by simp[Xn]
 | [],_,k+1,_=>by simp[Xn]
 | r::t,i,k+1,h=>by
  rw[zdr];exact⟨h.1,ZkP t (i+1) k h.2⟩
def Zkd (l:List Rec) (k:Nat):Prop:=(∀ r ∈ l.take k,Q1 r)∧Xn (l.headD Qj).idx (l.take k)
theorem Zte (l:List Rec):Zkd l 0:=⟨fun r h=>by simp at h,by simp[Xn]⟩
theorem Ztf (b:k<l.length):Zkd l (k+1)↔Zkd l k∧Q1 (l.getD k Qj)∧(l.getD k Qj).idx=(l.headD Qj).idx+k:=by
 unfold Zkd;rw[ZfZ b,Zga];have c:(l.take k).length=k:=by simp;omega
 rw[c];constructor
 ·rintro⟨h1,h2,h3⟩
  exact⟨⟨fun r a=>h1 r (by simp[a]),h2⟩,h1 _ (by simp),h3⟩
 ·rintro⟨⟨h1,h2⟩,h3,h4⟩
  refine⟨fun r a=>?_,h2,h4⟩
  rcases za2.1 a with h | h
  ·exact h1 r h
  ·simp only [zaw] at h
   rw[h];exact h3
theorem ZvR (h:Zkd l l.length) (b:1<=l.length) (a:l.length<=256):Yg l:=by
 unfold Zkd at h;rw[take_length] at h;exact⟨b,a,h.1,h.2⟩
theorem Yg.part (h:Yg l) (k:Nat):Zkd l k:=⟨fun r a=>h.2.2.1 r (zbz a),ZkP l _ k h.2.2.2⟩
theorem ZgB {o:Opn} (h:Gj o):(X7 o).length<=30:=by
 have e:=ZwQ (ZaN h).1;have d:=ZwQ (ZaN h).2;have c:0<=o.code:=h.1;have b:o.code<=10:=h.2.1;have a:=Gm (n:=o.code.toNat) (by omega)
 unfold X7;rw[length_append,length_append];omega
theorem ZkQ {b:List Rec} (e:∀ r ∈ b,Q1 r) {r:Rec} (a:Q1 r):(Zi b r).length<=60:=by
 have c:=ZeE e a;have d:=ZaX a;have f:=ZgB a.1;obtain⟨_,_,_,_,_,j,i,_⟩:=a;have l:=Gm (n:=r.proc.toNat) (by omega)
 have k:=ZwQ c;have g:=ZwQ d;unfold Zi;simp only [length_append];omega
theorem Zod:∀ (l a:List Rec),(∀ r ∈ a,Q1 r)->(∀ r ∈ l,Q1 r)->(Yl a l).length<=60*l.length
 | [],_,_,_=>by simp[Yl]
 | r::t,a,hp,hl=>by
  have d:=ZkQ hp (hl r (by simp))
  have c:=Zod t (a++[r]) (fun s b=>by
   rcases za2.1 b with h | h
   ·exact hp s h
   ·simp at h;rw[h];exact hl r (by simp)) (fun s b=>hl s (by simp[b]))
  rw[Yl,length_append,length_cons];omega
def Zmn (w:World) (l:List Rec) (e:Ending) (w':World):Prop:=
 ∃ v',e=.returned (.tuple #[v',.int .i64 (if Yg l then 0 else 1)])∧Own w' w.heap.size v' (if Yg l then Yc l else[])∧Below w.heap.size w w'
theorem Below.allocs {a:World} (h:Below a.heap.size a w) (X:Obj):Below a.heap.size a (w.alloc X):=h.alloc h.size X
theorem ZxS (h:n<128):Lib.uvarint n=[n.toUInt8]:=ze2 h
theorem Zgb {v:Nat} (q:1<=v) (j:v<=3) (l:k<6) (d:f<4611686018427387904):Z8 (Xq v k f)=.ok (v,k,f):=by
 have p:=zcu v;have n:=zcu k;have i:=zcu f
 have c:Qb ((Xq v k f).drop 1)=(v,(Lib.uvarint v).length):=by
  unfold Xq;rw[zfd,List.drop_zero];exact Q6 _ _ (by omega)
 have a:(Xq v k f).drop (1+(Lib.uvarint v).length)=Lib.uvarint k++Lib.uvarint f:=by
  unfold Xq;rw[Nat.add_comm,zfd,drop_left]
 have b:Qb ((Xq v k f).drop (1+(Lib.uvarint v).length))=(k,(Lib.uvarint k).length):=by
  rw[a];exact Q6 _ _ (by omega)
 have e:(Xq v k f).drop (1+(Lib.uvarint v).length+(Lib.uvarint k).length)=Lib.uvarint f:=by
  rw[<-drop_drop,a,drop_left]
 have g:Qb ((Xq v k f).drop (1+(Lib.uvarint v).length+(Lib.uvarint k).length))=(f,(Lib.uvarint f).length):=by
  rw[e];have:=Q6 f [] d;rw[zc8] at this;exact this
 have m:(Xq v k f).length=1+(Lib.uvarint v).length+(Lib.uvarint k).length+(Lib.uvarint f).length:=by
  unfold Xq;simp only [length_cons,length_append];omega
 unfold Z8;simp only [c,b,g];rw[zaa (by rintro(h | h);exact absurd h (by unfold Xq;simp);exact h rfl),zaa (by omega),zaa (by omega),zaa (by omega)]
theorem ZcO {v:Nat} (c:v<=3) (d:k<6) (b:f<4611686018427387904):(Xq v k f).length<=40:=by
 have g:(Lib.uvarint v).length<=10:=za8 (by omega)
 have e:(Lib.uvarint k).length<=10:=za8 (by omega)
 have a:(Lib.uvarint f).length<=10:=za8 (by omega)
 unfold Xq;simp only [length_cons,length_append];omega
theorem Zqd {d:List Rec} (i:∀ r ∈ d,Q1 r) {r:Rec} (e:Q1 r):(Zi d r).length<=60:=by
 have f:=ZeE i e;have g:=ZaX e;obtain⟨c,_,_,_,_,m,n,_⟩:=e;have q:(Lib.uvarint r.proc.toNat).length<=10:=za8 (by omega)
 have p:(Lib.uvarint (Lib.zigzag (r.seq-Q8 d r.proc))).length<=10:=za8 (Zbd f);have l:(Lib.uvarint r.op.code.toNat).length<=10:=za8 (by have:=c.1;have:=c.2.1;omega)
 have j:(Lib.uvarint (Lib.zigzag r.op.a)).length<=10:=za8 (Zbd (ZaN c).1);have t:(Lib.uvarint (Lib.zigzag r.op.b)).length<=10:=za8 (Zbd (ZaN c).2);have k:(Lib.uvarint (Lib.zigzag r.resp)).length<=10:=za8 (Zbd g);unfold Zi X7;simp only [length_append];omega
theorem Zgc:∀ (l a:List Rec),(∀ r ∈ a,Q1 r)->(∀ r ∈ l,Q1 r)->(Yl a l).length<=60*l.length
 | [],_,_,_=>by simp[Yl]
 | r::t,a,hp,hl=>by
  have c:=hl r (by simp)
  have e:=Zqd hp c
  have d:=Zgc t (a++[r]) (fun s b=>by
   rcases za2.1 b with h | h
   ·exact hp s h
   ·rw[zaw.1 h];exact c) (fun s b=>hl s (by simp[b]))
  rw[Yl,length_append,length_cons];omega
theorem Zcj {d:List UInt8} {v:Nat} (h:Z8 d=.ok (v,k,f)):d=Xq v k f∧1<=v∧v<=3∧k<6∧f<4611686018427387904:=by
 unfold Z8 at h;simp only at h;split at h
 ·cases h
 rename_i g
 split at h
 ·cases h
 rename_i x
 split at h
 ·cases h
 rename_i z
 split at h
 ·cases h
 rename_i u
 simp only [Except.ok.injEq,zcj] at h;obtain⟨C,w,p⟩:=h;have e:=Ja (l:=d.drop 1) (by omega)
 have b:=Ja (l:=d.drop (1+(Qb (d.drop 1)).2)) (by omega)
 have a:=Ja (l:=d.drop (1+(Qb (d.drop 1)).2+(Qb (d.drop (1+(Qb (d.drop 1)).2))).2)) (by omega)
 have A:f<4611686018427387904:=by
  rw[<-p];rcases Xh (d.drop (1+(Qb (d.drop 1)).2+(Qb (d.drop (1+(Qb (d.drop 1)).2))).2)) with h | h
  ·rw[h];decide
  ·exact h.1
 rw[C] at e z;rw[w] at b u;rw[p] at a;generalize (Qb (d.drop 1)).2=i at *;generalize (Qb (d.drop (1+i))).2=j at *;generalize (Qb (d.drop (1+i+j))).2=m at *;refine⟨?_,by omega,by omega,by omega,A⟩
 cases d with
 | nil=>exact absurd (.inl rfl) g
 | cons c t=>
  have q:c=108:=by
   have:=fun h=>g (.inr h)
   simpa using zb7.1 this
  have B:(c::t).drop 1=t:=rfl;have n:(c::t).drop (1+i)=t.drop i:=by rw[Nat.add_comm,zfd]
  have y:(c::t).drop (1+i+j)=(t.drop i).drop j:=by rw[<-drop_drop,n]
  rw[B] at e;rw[n] at b;rw[y] at a
  have D:m=((t.drop i).drop j).length:=by
   have:1+i+j+m=(c::t).length:=zb7.1 (fun h=>x (.inr (.inr (.inr h))))
   rw[length_cons] at this;rw[length_drop,length_drop];omega
  rw[D,take_length] at a;unfold Xq;rw[q,e,b,a,zb9,zb9]
def ZgC (k f:Int):Prop:=0<=k∧k<6∧0<=f∧f<4611686018427387904
instance (k f:Int):Decidable (ZgC k f):=by unfold ZgC;infer_instance
def Jm (v k f:Int):Int:=if 1<=v∧v<=3 then(if ZgC k f then 0 else 1) else 6
def ZgX (v k f:Int):List UInt8:=if 1<=v∧v<=3 then(if ZgC k f then Qd (Xq v.toNat k.toNat f.toNat) else[]) else[]
def Zrs (w:World) (v k f:Int) (e:Ending) (w':World):Prop:=
 ∃ v',e=.returned (.tuple #[v',.int .i64 (Jm v k f)])∧Own w' w.heap.size v' (ZgX v k f)∧Below w.heap.size w w'
theorem Rd.byte (w:World) (c:UInt8):Rd (w.alloc (.cells #[.int .u8 c.toNat] 5)) (.slice (some ⟨w.heap.size,0,none⟩) 1 1) [c]:=by
 refine⟨some ⟨w.heap.size,0,none⟩,1,rfl,za0 _,by unfold maxLen;omega,(fun h=>by cases h),.inr ⟨w.heap.size,0,rfl,fun j a=>?_⟩⟩
 have e:j=0:=by simpa using a
 subst e;rw[zas _ w.heap.size 0 _ 5 (0,0) (zak w _)];rfl
theorem Zmo {l:List UInt8} (h:l.length<=1048576):ZyR l=(Qd l,0):=by
 unfold ZyR;rw[zab h]
theorem Ztg (h:q<L.length):L.take (q+1)=L.take q++[L.getD q []]:=by
 rw[take_add_one];simp[List.getD,h]
theorem RdL.at {w:World} {ao:Option Addr} {n cap:Nat} {L:List (List UInt8)} (h:RdL w (.slice ao n cap) L) (k:Nat) (c:k<L.length):
 ∃ b a x,ao=some ⟨b,a,none⟩∧(∀ W,Below w.heap.size w W->W.cell? ⟨b,a+k,none⟩=some x)∧∀ W,Below w.heap.size w W->Rd W x (L.getD k []):=by
 obtain⟨t,u,e,_,_,_,l⟩:=h;simp only [zbb] at e;obtain⟨rfl,_,rfl⟩:=e;rcases l with i | ⟨b,a,m,g⟩
 ·rw[i] at c;simp at c
 ·obtain⟨x,f,j⟩:=g k c
  have q:b<w.heap.size:=za1 w ⟨b,a+k,none⟩ f;exact⟨b,a,x,m,fun W d=>(d.cell (p:=⟨b,a+k,none⟩) q).trans f,fun W d=>j.below d zL⟩
theorem Zct:∀ (L:List (List UInt8)) (k:Nat),(L.take k).flatten.length<=L.flatten.length
 | [],k=>by simp
 | x::L,0=>by simp
 | x::L,k+1=>by
  have:=Zct L k;rw[zdr,flatten_cons,flatten_cons,length_append,length_append];omega
theorem Zrt (h:q<L.length):L.getD q [] ∈ L:=by
 have e:L.getD q []=L[q]:=by simp[List.getD,h]
 rw[e];exact getElem_mem h
theorem ZdE (B:List (List UInt8)):(B.map Qd).flatten=Qf B:=by
 unfold Qf;rw[List.flatMap_def]
theorem ZxT (l:List UInt8):(Qb l).1<4611686018427387904:=by
 rcases Xh l with h | h
 ·rw[h];decide
 ·exact h.1
theorem ZxU (W:World) (ao:Option Addr) (cap:Nat) (l:List UInt8) (b:Rd W (.slice ao l.length cap) l) (n:Nat) (d:n<=l.length):Rd W (.slice (if cap=n then ao else Option.map (fun x=>x.add n) ao) (l.length-n) (cap-n)) (l.drop n):=by
 have f:l.length<=cap:=by
  obtain⟨a,c,e,h,-⟩:=b;simp only [zbb] at e;omega
 have h:=b.mid n l.length cap (by omega) (by omega) (by omega) (by omega)
 rw[zbl (by rw[length_drop];omega)] at h
 simpa[sliced] using h
theorem Zqe (W:World) (ao:Option Addr) (l:List UInt8) (cap:Nat) (_hlc:l.length<=cap) (i:Int) (n:Nat) (a:i=(n:Int)) (b:n<=l.length):
 (Instr.sliceAt 53 (.slice ao l.length cap) (some (.int .i64 i)) none none).run prog W=.ok (sliced ao n l.length cap 1) W:=by
 subst a;rw[zcn W 53 _ _ _ _ Xu,zfs W 53 ao l.length cap Xu .i64 (n:Int) (by omega) (by omega),Jt,Zcd]
 rfl
def ZaQ (w:World) (b:List UInt8) (e:Ending) (w':World):Prop:=
 ∃ (vl:Value) (l:List Rec) (n:Int),e=.returned (.tuple #[vl,.int .i64 n])∧RdR w' vl l∧DecB b l n∧Below w.heap.size w w'
theorem ZaQ.none {w w':World} {b:List UInt8} (h:∀ a,Yg a->Yc a≠b) (c:Below w.heap.size w w'):ZaQ w b (.returned (.tuple #[.slice none 0 0,.int .i64 3])) w':=
 ⟨_,[],3,rfl,RdR.nil _,.inr ⟨rfl,rfl,h⟩,c⟩
theorem Zth (h:Yg l):Q1 (l.headD Qj):=by
 obtain⟨b,_,a,_⟩:=h
 match l,b with
 | r::u,_=>exact a r (by simp)
theorem Zqf (h:Yg l) {b:List UInt8} (d:Yc l=b):
 ((Qb b).1:Int)=(l.headD Qj).idx∧(Qb b).2≠0∧(Qb (b.drop (Qb b).2)).1=l.length∧(Qb (b.drop (Qb b).2)).2≠0∧b.drop ((Qb b).2+(Qb (b.drop (Qb b).2)).2)=Yl [] l:=by
 obtain⟨_,f,i,_⟩:=Zth h;have g:=h.2.1;subst d;have e:Qb (Yc l)=((l.headD Qj).idx.toNat,(Lib.uvarint (l.headD Qj).idx.toNat).length):=Q6 _ _ (by omega)
 have a:(Yc l).drop (Lib.uvarint (l.headD Qj).idx.toNat).length=Lib.uvarint l.length++Yl [] l:=by
  unfold Yc;rw[drop_left]
 have c:=Q6 l.length (Yl [] l) (by omega)
 rw[e];simp only;rw[a,c];refine⟨by omega,J6 _,rfl,J6 _,?_⟩
 rw[<-drop_drop,a,drop_left]
theorem ZyT (w:World) (ao:Option Addr) (l:List UInt8) (cap:Nat) (b:Rd w (.slice ao l.length cap) l) (n:Nat) (d:n<=l.length):
 ∃ a c,Rd w (.slice a (l.drop n).length c) (l.drop n)∧∀ i:Int,i=(n:Int)->∀ W,(Instr.sliceAt 53 (.slice ao l.length cap) (some (.int .i64 i)) none none).run prog W=.ok (.slice a (l.drop n).length c) W:=by
 have h:=ZxU w ao cap l b n d
 have g:l.length<=cap:=by
  obtain⟨a,c,e,h,-⟩:=b;simp only [zbb] at e;omega
 refine⟨_,_,by rw[length_drop];exact h,fun i f W=>?_⟩
 rw[Zqe W ao l cap g i n f d,length_drop];simp[sliced]
theorem ZkR {d:List UInt8} (h:d=[]∨d.getD 0 0≠108):Z8 d=.error 3:=by
 unfold Z8;rw[zab h]
theorem Zti {d:List UInt8} (h:¬ (d=[]∨d.getD 0 0≠108)) {v i k j f m:Nat} (c:Qb (d.drop 1)=(v,i)) (b:Qb (d.drop (1+i))=(k,j)) (a:Qb (d.drop (1+i+j))=(f,m)):
 Z8 d=if i=0∨j=0∨m=0∨1+i+j+m≠d.length then .error 3 else if v<1∨3<v then .error 6 else if 6<=k then .error 1 else .ok (v,k,f):=by
 unfold Z8;rw[zaa h,c];simp only;rw[b];simp only;rw[a]
theorem Zck {r:Rec} (h:Q1 r):ZcJ r:=by
 have c:=ZaX h;obtain⟨a,j,e,f,i,g,d,_,_⟩:=h;have b:=ZaN a;exact⟨⟨by omega,by omega⟩,⟨by omega,by omega⟩,⟨by omega,by omega⟩,⟨⟨by have:=a.1;omega,by have:=a.2.1;omega⟩,b.1,b.2⟩,c⟩
def Zqg (L:List (List UInt8)) (v k f:Nat):Seg × Nat × Int:=(⟨k,f,(J8 v f L.tail [] 16).1⟩,1+(J8 v f L.tail [] 16).2.1,(J8 v f L.tail [] 16).2.2)
theorem Xl.set (h:Xl w C v l) (R i:Nat) (a:R<C) (x:Value):Xl (w.setCell ⟨R,i,none⟩ x) C v l:=zb8 h a x
theorem Jb {b:World} (h:Below C b w) (R:Nat) (a:C<=R) (c d e:Value):Below C b (((w.setCell ⟨R,0,none⟩ c).setCell ⟨R,1,none⟩ d).setCell ⟨R,2,none⟩ e):=
 ((h.setCell a _).setCell a _).setCell a _
theorem Ztj (v:Nat) (first:Int) (d:List UInt8) (b:List (List UInt8)) (a:List Rec) (last:Nat):
 J8 v first (d::b) a last=match Zrb v d (first+a.length) with
  | none=>(a,0,3)
  | some r=>if last<16 then(a,0,3) else if 4096<a.length+r.length then(a,0,5)
   else((J8 v first b (a++r) r.length).1,(J8 v first b (a++r) r.length).2.1+1,(J8 v first b (a++r) r.length).2.2):=by
 rw[J8]
 cases Zrb v d (first+a.length) <;> rfl
theorem drop_one {j:Nat} (a:j<L.length):L.drop j=L.getD j []::L.drop (j+1):=by
 rw[zd0 a];simp[List.getD,a]
theorem Zcl:∀ (n:Nat) (b:List UInt8),b.length<=n->Qf (Qq b).1=b.take (Qq b).2.1∧∀ x ∈ (Qq b).1,x.length<=1048576
 | 0,b,hn=>by
  have e:b=[]:=zao (by omega)
  subst e;rw[ZbM];exact⟨rfl,by simp⟩
 | n+1,b,hn=>by
  by_cases e:b=[]
  ·subst e
   rw[ZbM];exact⟨rfl,by simp⟩
  by_cases a:(X8 b).2.2=0
  ·obtain⟨d,i,j,f⟩:=ZlD a
   have k:=ZbL a;rw[ZbZ e a];obtain⟨g,c⟩:=Zcl n (b.drop (X8 b).2.1) (by rw[length_drop];omega)
   refine⟨?_,fun x hx=>?_⟩
   ·show Qf ((X8 b).1::(Qq (b.drop (X8 b).2.1)).1)=b.take ((X8 b).2.1+(Qq (b.drop (X8 b).2.1)).2.1)
    rw[Q9,g,<-f,zgn]
   ·rcases zbd.1 hx with hx | hx
    ·rw[hx];exact d
    ·exact c x hx
  ·rw[ZbY e a]
   exact⟨rfl,by simp⟩
theorem ZgD:∀ (L:List (List UInt8)) (x:List UInt8),x ∈ L->x.length+5<=(Qf L).length
 | y::L,x,hx=>by
  rw[Q9,length_append];rcases zbd.1 hx with h | h
  ·rw[h,Xa]
   have:=zcu y.length;omega
  ·have:=ZgD L x h
   omega
theorem ZeY:∀ (L:List (List UInt8)),5*L.length<=(Qf L).length
 | []=>by simp
 | y::L=>by
  have:=ZeY L;have:=Zpe y;rw[Q9,length_append,length_cons];omega
theorem ZeZ (b:List UInt8):(∀ x ∈ (Qq b).1,x.length<=1048576∧x.length<=b.length)∧5*(Qq b).1.length<=b.length:=by
 obtain⟨d,c⟩:=Zcl _ b zL
 have e:(Qf (Qq b).1).length<=b.length:=by
  rw[d,length_take];omega
 refine⟨fun x a=>⟨c x a,?_⟩,?_⟩
 ·have:=ZgD _ x a
  omega
 ·have:=ZeY (Qq b).1
  omega
theorem ZvS (h:2<=L.length):(L.take (L.length-1)).headD []=L.headD []∧(L.take (L.length-1)).tail=L.tail.dropLast∧L.getLastD []=L.getD (L.length-1) []∧L.headD []=(L.take (L.length-1)).getD 0 []:=by
 match L,h with
 | x::y::t,_=>
  refine⟨rfl,?_,?_,rfl⟩
  ·show((x::y::t).take (t.length+1)).tail=(y::t).dropLast
   rw[zdr,List.tail_cons,List.dropLast_eq_take,length_cons];rfl
  ·rw[List.getLastD_eq_getLast?,List.getLast?_eq_getElem?]
   simp[List.getD]
theorem ZzZ (d:2<=L.length):ZAi L=match Z8 ((L.take (L.length-1)).headD []) with
 | .error e=>(ZeF,e)
 | .ok (v,k,f)=>if(Zqg (L.take (L.length-1)) v k f).2.2≠0 then(ZeF,(Zqg (L.take (L.length-1)) v k f).2.2)
  else if ZAh ((L.take (L.length-1)).headD []) (L.take (L.length-1)).tail=L.getD (L.length-1) [] then((Zqg (L.take (L.length-1)) v k f).1,0) else(ZeF,16):=by
 obtain⟨b,a,c,_⟩:=ZvS d;unfold ZAi Zqg;rw[zaa (by omega),b,a,c]
 cases Z8 (L.headD []) <;> rfl
theorem ZvT (w:World) (ao:Option Addr) (L:List (List UInt8)) (m cap:Nat) (d:m=L.length) (b:RdL w (.slice ao m cap) L) (n:Nat) (f:n<=L.length):
 ∃ a c,RdL w (.slice a (L.drop n).length c) (L.drop n)∧∀ i:Int,i=(n:Int)->∀ W,(Instr.sliceAt 144 (.slice ao m cap) (some (.int .i64 i)) none none).run prog W=.ok (.slice a (L.drop n).length c) W:=by
 subst d
 have j:L.length<=cap:=by
  obtain⟨a,c,e,h,-⟩:=b;simp only [zbb] at e;omega
 have h:=b.mid n L.length cap f zL j zL;rw[zbl (by rw[length_drop];omega)] at h
 unfold sliced at h;refine⟨_,_,by rw[length_drop];exact h,fun i g W=>?_⟩
 subst g;rw[zcn W 144 _ _ _ _ Zdn,zfs W 144 ao L.length cap Zdn .i64 (n:Int) (by omega) (by omega),Ziz,ZkJ,length_drop]
 rfl
theorem Ztk (w:World) (ao:Option Addr) (L:List (List UInt8)) (m cap:Nat) (d:m=L.length) (b:RdL w (.slice ao m cap) L) (n:Nat) (f:n<=L.length):
 RdL w (.slice ao n cap) (L.take n)∧∀ i:Int,i=(n:Int)->∀ W,(Instr.sliceAt 144 (.slice ao m cap) none (some (.int .i64 i)) none).run prog W=.ok (.slice ao n cap) W:=by
 subst d
 have j:L.length<=cap:=by
  obtain⟨a,c,e,h,-⟩:=b;simp only [zbb] at e;omega
 refine⟨b.front n f,fun i g W=>?_⟩
 subst g;rw[zcn W 144 _ _ _ _ Zdn,run_slice_h W 144 ao L.length cap Zdn .i64 (n:Int) (by omega) (by omega),Ziz,ZkJ]
 show Result.ok (sliced ao 0 n cap 1) W=_;unfold sliced
 have e:(if cap=0 then ao else ao.map (·.add (0*1)))=ao:=by
  split
  ·rfl
  ·cases ao <;> simp[Addr.add]
 rw[e,ze6,ze6]
theorem ZxV {d:List UInt8} (h:Z8 d=.error x):x≠0:=by
 intro a;rw[a] at h;unfold Z8 at h;simp only at h
 repeat' split at h
 all_goals simp at h
def Zba (w:World) (b:List UInt8) (e:Ending) (w':World):Prop:=
 ∃ vl,e=.returned (.tuple #[.agg #[.int .i64 (G0 b).1.kind,.int .i64 (G0 b).1.first,vl],.int .i64 ((G0 b).2.1:Nat),.bool (G0 b).2.2])∧RdR w' vl (G0 b).1.recs∧Below w.heap.size w w'
theorem Zba.fail (h:G0 b=(ZeF,0,false)) (a:Below w.heap.size w w'):Zba w b (.returned (.tuple #[.agg #[.int .i64 0,.int .i64 0,.slice none 0 0],.int .i64 0,.bool false])) w':=by
 refine⟨.slice none 0 0,?_,?_,a⟩
 ·rw[h]
  rfl
 ·rw[h]
  exact RdR.nil _
theorem ZiT (v:Nat) (first:Int):∀ (B:List (List UInt8)) (a:List Rec) (last:Nat),(J8 v first B a last).2.1<=B.length
 | [],a,last=>by rw[J8];simp
 | d::ds,a,last=>by
  rw[Ztj,length_cons]
  cases Zrb v d (first+a.length) with
  | none=>simp
  | some r=>
   simp only;split
   ·simp
   split
   ·simp
   have b:=ZiT v first ds (a++r) r.length;simp only;omega
theorem Zfa (L:List (List UInt8)) (c:Nat):(Qf (L.take c)).length<=(Qf L).length:=by
 have h:=Zct (L.map Qd) c;rw[ZdE,<-zgo,ZdE] at h;exact h
theorem Ztl (h:(Qq b).1≠[]):G0 b=match Z8 ((Qq b).1.headD []) with
 | .error _=>(ZeF,0,false)
 | .ok (v,k,f)=>((Zqg (Qq b).1 v k f).1,(Qf ((Qq b).1.take (Zqg (Qq b).1 v k f).2.1)).length,true):=by
 unfold G0 Zxf;rw[zaa h]
 cases Z8 ((Qq b).1.headD []) <;> rfl
theorem Rd.drewN {l:List UInt8} (h:Rd w v l) (n:Nat):Rd (w.drewN n) v l:=h.below (X6 (zac _ w) n) zL
theorem ZAW (w:World) (v:Value) (l:List UInt8) (c:Rd w v l) (K N:Int) (k n:Nat) (p:K=k) (j:N=n) (h:k+n+4<=l.length):
 ∃ d f e,(∀ q,(Instr.sliceAt 53 v none (some (.int .i64 (K+N))) (some (.int .i64 (K+N)))).run prog (w.drewN q)=.ok d (w.drewN q))∧
  (∀ q,(Instr.sliceAt 53 v (some (.int .i64 K)) (some (.int .i64 (K+N))) (some (.int .i64 (K+N)))).run prog (w.drewN q)=.ok f (w.drewN q))∧
  (∀ q,(Instr.sliceAt 53 v (some (.int .i64 (K+N))) (some (.int .i64 (K+N+4))) (some (.int .i64 (K+N+4)))).run prog (w.drewN q)=.ok e (w.drewN q))∧
  Rd w d (l.take (k+n))∧Rd w f ((l.drop k).take n)∧Rd w e ((l.drop (k+n)).take 4):=by
 have b:=c;obtain⟨ao,cap,rfl,m,_⟩:=c;have a:(K+N).toNat=k+n:=by omega
 have g:K.toNat=k:=by omega
 have i:(K+N+4).toNat=k+n+4:=by omega
 refine⟨sliced ao 0 (k+n) (k+n) 1,sliced ao k (k+n) (k+n) 1,sliced ao (k+n) (k+n+4) (k+n+4) 1,?_,?_,?_,?_,?_,?_⟩
 ·intro q
  rw[zcn _ 53 _ _ _ _ Xu,run_slice_hm _ 53 ao l.length cap Xu .i64 .i64 (K+N) (K+N) (by omega) (by omega) (by omega),Jt,Zcd,a]
  rfl
 ·intro q
  rw[zcn _ 53 _ _ _ _ Xu,run_slice_lhm _ 53 ao l.length cap Xu .i64 .i64 .i64 K (K+N) (K+N) (by omega) (by omega) (by omega) (by omega),Jt,Zcd,a,g]
  rfl
 ·intro q
  rw[zcn _ 53 _ _ _ _ Xu,run_slice_lhm _ 53 ao l.length cap Xu .i64 .i64 .i64 (K+N) (K+N+4) (K+N+4) (by omega) (by omega) (by omega) (by omega),Jt,Zcd,a,i]
  rfl
 ·have:=b.mid 0 (k+n) (k+n) (by omega) (by omega) (by omega) (by omega)
  simpa using this
 ·have:=b.mid k (k+n) (k+n) (by omega) (by omega) (by omega) (by omega)
  rwa [show k+n-k=n by omega] at this
 ·have:=b.mid (k+n) (k+n+4) (k+n+4) (by omega) (by omega) (by omega) (by omega)
  rwa [show k+n+4-(k+n)=4 by omega] at this
theorem Zee {c:Array Oper} {C:World->Prop} {Q:Act->Prop} {rest:List Oper} {o:Oper} {a:Act} (j:o.guard=none) (x:Operand) (lo d b:Option Operand)
 (i:o.op=.slice 53 x lo d b) (k:∀ w',C w'->∃ q,w'=w.drewN q) (v:Value)
 (f:∀ q,(Instr.sliceAt 53 (a.eval x) (lo.map a.eval) (d.map a.eval) (b.map a.eval)).run prog (w.drewN q)=.ok v (w.drewN q))
 (h:wpQuiet prog c C Q rest (a.put o.dst v)):wpQuiet prog c C Q (o::rest) a:=
 wpQuiet_step fun _ e=>by
  rw[zab (by simp[Region.wanted,j])]
  refine⟨v,fun w' g=>?_,e _ h⟩
  obtain⟨q,rfl⟩:=k w' g;unfold Oper.quietAt execOp;simp only [i,f,zbt,zbv,zbe,Oper.quietUpon,and_self]
theorem Ztm (v:Value) (l:List UInt8) (w:World) (z:Rd w v l):
 Calls prog 199 #[v] w fun e w'=>Zed w l e w':=by
 have HR:=ZZ z;have b:=ZZ (ZzC v l w z);have c:=ZZ (ZcH v l w z);obtain⟨ao,cap,rfl,W,L,aA,aB⟩:=z;clear aA aB;have aG:(l.length:Int)<=9223372036854775807:=by unfold maxLen at L;omega
 have aI:=ZZ W;have aE:=ZZ L;clear W L;by_cases i:Gv l
 ·have a:=ZZ (ZAm i)
  have C:Hid (decide (Gv l)=true):=zan i;rw[C.o] at b;clear i c
  go_enter func199,ntmps199
  go_wp2_with fail
  refine b.o.mono ?_;rintro e d ⟨rfl,rfl⟩;clear b;go_wp2
  go_ret3
  exact Zed.refused a.o
 have C:Hid (decide (Gv l)=false):=zai i;rw[C.o] at b;have p:=ZZ i;clear i;have R:=Xh l;obtain⟨n,u⟩:=zg7 ((Qb l).1);obtain⟨k,t⟩:=zg7 ((Qb l).2);rw[<-u,<-t] at R c;have m:=ZZ u;have j:=ZZ t;have F:=ZsT l
 have an:(n:Int)<4611686018427387904∧(k:Int)<=l.length∧(k:Int)<=9:=by
  rw[<-t] at F;rcases R with h | h
  ·have Q:n=0:=by rw[u,h]
   have h2:k=0:=by rw[t,h]
   omega
  ·omega
 clear F;obtain⟨N,D⟩:∃ N:Int,N=(n:Int):=⟨_,rfl⟩;obtain⟨K,B⟩:∃ K:Int,K=(k:Int):=⟨_,rfl⟩;rw[<-D,<-B] at an c;obtain⟨aF,aN,F⟩:=an;have aJ:0<=N:=by omega
 have aM:0<=K:=by omega
 have f:=ZZ D;have g:=ZZ B;clear D B;clear R u t;by_cases P:K=0
 ·have a:=ZZ (ZAn p.out (by rw[<-j.o];have:=g.o;omega))
  subst P
  go_enter func199,ntmps199
  go_wp2_with fail
  refine b.o.mono ?_;rintro e d ⟨rfl,rfl⟩;clear b
  go_wp2_with fail
  refine c.o.mono ?_;rintro e d ⟨rfl,rfl⟩;clear c;go_wp2
  go_ret3
  exact Zed.refused a.o
 have ez:(K == 0)=false:=zah.2 P;have aH:1<=K:=by omega
 have y:=ZZ (show(Qb l).2≠0 by rw[<-j.o];have:=g.o;omega)
 clear P;by_cases c3:1048576<N
 ·have a:=ZZ (ZAo p.out y.out (by rw[<-m.o];have:=f.o;omega))
  go_enter func199,ntmps199
  go_wp2_with fail
  refine b.o.mono ?_;rintro e d ⟨rfl,rfl⟩;clear b
  go_wp2_with fail
  refine c.o.mono ?_;rintro e d ⟨rfl,rfl⟩;clear c;go_wp2
  go_ret3
  exact Zed.refused a.o
 have M:=ZZ (show ¬ 1048576<(Qb l).1 by rw[<-m.o];have:=f.o;omega)
 by_cases c4:(l.length:Int)<K+N+4
 ·have a:=ZZ (ZAp p.out y.out M.out (by rw[<-m.o,<-j.o];have:=f.o;have:=g.o;omega))
  go_enter func199,ntmps199
  go_wp2_with fail
  refine b.o.mono ?_;rintro e d ⟨rfl,rfl⟩;clear b
  go_wp2_with fail
  refine c.o.mono ?_;rintro e d ⟨rfl,rfl⟩;clear c;go_wp2
  go_ret3
  exact Zed.refused a.o
 have C4:=ZZ (show ¬ l.length<(Qb l).2+4+(Qb l).1 by rw[<-m.o,<-j.o];have:=f.o;have:=g.o;omega)
 have G:Hid (∀ v w,Rd w v (l.take (k+n))->Calls prog 136 #[v] w fun e w'=>e=.returned (.int .u32 (Q3 0 (l.take (k+n)):Nat))∧Below w.heap.size w w'):=fun v w h=>Zmi v _ w h
 have U:Hid (∀ v w,Rd w v ((l.drop (k+n)).take 4)->Calls prog 161 #[v] w fun e w'=>e=.returned (.int .u64 (Lib.leNat ((l.drop (k+n)).take 4):Nat))∧w'=w):=by
  intro v w h;have:=Znv v _ w h
  rwa [zbl (by simp;omega)] at this
 have J:Hid (Lib.leNat ((l.drop (k+n)).take 4)≠Q3 0 (l.take (k+n))->X8 l=([],0,4)):=fun h=>by
  rw[m.o,j.o] at h;exact ZAq p.out y.out M.out C4.out h
 have E:Hid (Lib.leNat ((l.drop (k+n)).take 4)=Q3 0 (l.take (k+n))->X8 l=((l.drop k).take n,k+4+n,0)):=fun h=>by
  rw[m.o,j.o] at h ⊢;exact ZAr p.out y.out M.out C4.out h
 have hs:=ZmU (l.take (k+n))
 have hq:Lib.leNat ((l.drop (k+n)).take 4)<4294967296:=by
  have Q:=ZhN ((l.drop (k+n)).take 4);have e4:((l.drop (k+n)).take 4).length=4:=by have:=f.o;have:=g.o;simp;omega
  rw[e4] at Q;exact Q
 generalize Q3 0 (l.take (k+n))=s at *;generalize Lib.leNat ((l.drop (k+n)).take 4)=q at *;obtain⟨S,H⟩:∃ S:Int,S=(s:Int):=⟨_,rfl⟩;obtain⟨T,I⟩:∃ T:Int,T=(q:Int):=⟨_,rfl⟩;rw[<-H] at G;rw[<-I] at U;have aK:0<=S:=by omega
 have aL:S<4294967296:=by omega
 have aa:=ZZ H;have al:=ZZ I;obtain⟨v1,v2,v3,ac,ak,ai,Y,aw,aq⟩:=ZAW w _ l HR.o K N k n g.o f.o (by have:=f.o;have:=g.o;omega)
 have am:=ZZ Y;have ag:=ZZ aw;have ar:=ZZ aq;have ab:=ZZ ac;have au:=ZZ ak;have aj:=ZZ ai;clear Y aw aq ac ak ai;clear H I hs hq
 go_enter func199,ntmps199
 go_wp2_with fail
 refine b.o.mono ?_;rintro e d ⟨rfl,rfl⟩;clear b
 go_wp2_with fail
 refine c.o.mono ?_;rintro e d ⟨rfl,rfl⟩;clear c;go_wp2;refine zfc (by kernel_rfl) (by kernel_rfl) ?_
 repeat (go_big_quiet_step (fail))
 refine Zee rfl _ _ _ _ rfl (fun _ h=>h) v1 ab.o ?_
 simp only [Act.put,zad,set_cons_succ,set_cons_zero]
 repeat (go_big_quiet_step (fail))
 refine Zee rfl _ _ _ _ rfl (fun _ h=>h) v2 au.o ?_
 simp only [Act.put,zad,set_cons_succ,set_cons_zero]
 repeat (go_big_quiet_step (fail))
 refine Zee rfl _ _ _ _ rfl (fun _ h=>h) v3 aj.o ?_
 simp only [Act.put,zad,set_cons_succ,set_cons_zero]
 repeat (go_big_quiet_step (fail))
 refine zd3 ?_;rintro _ ⟨nq,rfl⟩;have X:=ZZ (X6 (zac d.heap.size d) nq);have av:=ZZ (am.o.drewN nq);have ad:=ZZ (ag.o.drewN nq);have Z:=ZZ (ar.o.drewN nq);clear am ag ar ab au aj
 go_wp2_with fail
 refine(U.o _ _ Z.o).mono ?_;rintro e w2 ⟨rfl,rfl⟩;clear U Z
 go_wp2_with fail
 refine(G.o _ _ av.o).mono ?_;rintro e w2 ⟨rfl,O⟩;have V:=ZZ (X.o.trans O);have ay:=ZZ (ad.o.below O zL);clear G av ad O X;by_cases A:T=S
 ·have ax:(T != S)=false:=by rw[zby];exact A
  have a:=ZZ (E.o (by have:=aa.o;have:=al.o;omega))
  clear A J E;have aC:=ZZ (show((l.drop k).take n).length<=1048576 by have:=f.o;simp;omega)
  have HC:=ZZ (ZvO _ _ w2 ay.o (by have:=aC.o;omega))
  generalize (l.drop k).take n=x at *
  go_wp2_with fail
  refine HC.o.mono ?_;rintro e w4 ⟨v4,rfl,ae,ap⟩;have af:=V.o.size;have az:=ZZ (ae.mono af);have aD:=ZZ (V.o.trans (ap.mono af));clear ae ap HC;go_wp2
  go_ret3
  refine⟨v4,?_,by rw[a.o];exact az.o,aD.o⟩
  rw[a.o];exact ZxI (by show K+N+4=((k+4+n:Nat):Int);have:=f.o;have:=g.o;omega) rfl
 ·have ax:(T != S)=true:=by rw[zbq];exact A
  have a:=ZZ (J.o (by have:=aa.o;have:=al.o;omega))
  clear A J E;go_wp2
  go_ret3
  refine⟨.slice none 0 0,?_,?_,V.o⟩
  ·rw[a.o];rfl
  ·rw[a.o];exact Own.nil _ _
theorem Zoe (v:Value) (l:List UInt8) (w:World) (y:Rd w v l) (V:l.length<=1000000):
 Calls prog 159 #[v] w fun e w'=>∃ v',e=.returned (.tuple #[v',.int .i64 ((Qq l).2.1:Nat),.int .i64 ((Qq l).2.2:Nat)])∧Zix w' w.heap.size v' (Qq l).1∧Below w.heap.size w w':=by
 have T:=ZZ y;obtain⟨ao,cap,rfl,J,M,O,Q⟩:=y;clear O Q J M;have H:=ZZ (fun v k w h=>Ztm v (l.drop k) w h)
 go_enter func159,ntmps159
 go_wp2
 go_loopw[5,6] (fun P n wr=>∃ (A:Nat) (L:List (List UInt8)),n=.int .i64 (A:Int)∧Hid (Zvt l A L)∧Hid (Zix wr w.heap.size P L)∧Hid (Below w.heap.size w wr)) (fun _ n _=>l.length-(intOf n).toNat)
 case atStart=>exact⟨0,[],rfl,Zvt.start l,Zix.nil _ _,zac _ _⟩
 case round=>
  obtain⟨A,L,rfl,b,C,f⟩:=hrel;have aa:=b.out.2.2;by_cases j:A<l.length
  ·have F:Hid (∃ v',(Instr.sliceAt 53 (.slice ao l.length cap) (some (.int .i64 (A:Int))) none none).run prog wr=.ok v' wr∧Rd wr v' (l.drop A)):=by
    have:=Zil wr _ l (T.o.below f.out zL) .i64 (A:Int) (by omega) (by omega)
    rwa [zbj] at this
   have B:=f.out.size
   go_wp2_with(refine ZfN _ rfl _ _ _ _ rfl _ F.o ?_)
   intro v1 G;have E:=ZZ G;clear G F
   go_wp2_with fail
   refine(H.o _ A _ E.o).mono ?_;rintro e Z ⟨v2,rfl,z,g⟩;have u:=ZZ (z.mono B);have q:=ZZ (C.out.below g zL);have p:=ZZ (f.out.trans (g.mono B));have S:=p.o.size;clear z g E;have i:=ZZ (fun h=>ZbL (l:=l.drop A) h)
   have I:=ZuE (l.drop A);rw[length_drop] at I;by_cases a:(X8 (l.drop A)).2.2=0
   ·have K:=ZZ (b.out.step j a)
    have h5:=i.o a;have Y:=b.out.2.1;rw[a];generalize (X8 (l.drop A)).2.1=m at *;generalize (X8 (l.drop A)).1=x at *;clear a i;obtain⟨a2,X,rfl,_⟩:=u.o.rd
    go_wp2_with(at_builtin;refine ZeR _ rfl _ _ rfl w.heap.size _ L rfl q.o _ x rfl u.o (by omega) S ?_)
    intro v3 U t D;have R:=ZZ t;have N:=ZZ (p.o.trans D);clear t D;go_wp2;go_roundw
    case rel=>exact⟨A+m,L++[x],by go_num,K,R,N⟩
    case measure=>simp[intOf];omega
   ·have d:=ZZ (b.out.stop j a)
    clear i;generalize (X8 (l.drop A)).2.2=c at *;have W:((c:Int) != 0)=true:=by rw[zbq];omega
    clear a;go_wp2
    go_ret3
    refine⟨_,?_,by rw[d.o];exact q.o,p.o⟩
    rw[d.o];rfl
  ·have d:=ZZ (b.out.whole j)
   go_wp2
   go_ret3
   refine⟨_,?_,by rw[d.o];exact C.out,f.out⟩
   rw[d.o];rfl
theorem ZzD (v:Value) (l:List UInt8) (w:World) (f:Rd w v l) (k:l.length<=1000000):
 Calls prog 114 #[v] w fun e w'=>∃ v',e=.returned (.tuple #[v',.int .i64 ((ZyS l).2:Nat)])∧RdL w' v' (ZyS l).1∧Below w.heap.size w w':=by
 have i:=ZZ (Zoe v l w f k);clear f
 go_enter func114,ntmps114
 go_wp2_with fail
 refine i.o.mono ?_;rintro e q ⟨t,rfl,g,d⟩;have n:=ZZ g;have j:=ZZ d;clear g d i;by_cases a:(Qq l).2.2=0
 ·have b:Hid (ZyS l=((Qq l).1,0)):=zab a
  rw[a];clear a;generalize (Qq l).2.1=m at *;go_wp2;go_ret2;refine⟨_,?_,by rw[b.o];exact n.o.rd,j.o⟩
  rw[b.o];rfl
 ·have b:Hid (ZyS l=([],(Qq l).2.2)):=zaa a
  generalize (Qq l).2.1=m at *;generalize (Qq l).2.2=c at *;have p:((c:Int) != 0)=true:=by rw[zbq];omega
  clear a;go_wp2;go_ret2;refine⟨_,?_,by rw[b.o];exact RdL.nil _,j.o⟩
  rw[b.o];rfl
end Go.Proofs.YtnahjngbneicaaaGreatDoor
