import Derived.Test.YtnahjngbneicaaaGreatDoorPack9
namespace Go.Proofs.YtnahjngbneicaaaGreatDoor
open _root_.Go.Proofs.Tryz
open List (drop_drop drop_left flatten_cons getElem_mem length_append length_cons length_drop length_take set_cons_succ set_cons_zero take_add_one take_length)
set_option maxHeartbeats 4000000
set_option maxRecDepth 100000
open Go.RowKit
variable {s:Sto} {w w':World} {C N R T f k n p pd q:Nat} {v:Value} {K:Nat->Prop} {d:Dk} {l:List Rec} {x:Int} {b:List UInt8} {L:List (List UInt8)}
abbrev zgd:=@List.map_take
abbrev zgg:=@Go.World.ownsRow_lit
abbrev zgw:=@List.drop_zero
theorem ZnG (e:Ent) (w:World):
 Calls prog 189 #[Zsj e] w fun x w'=>x=.returned (.bool (decide (Zbm e)))∧Below w.heap.size w w':=by
 have d:=ZZ (fun W=>Zig ⟨0,e.proc,e.seq,⟨0,0,0⟩,e.resp⟩ W)
 have c:decide (Qz ⟨0,e.proc,e.seq,⟨0,0,0⟩,e.resp⟩)=decide (Zbm e):=zcd.2 (ZuG e);rw[c] at d;clear c;generalize decide (Zbm e)=D at *;obtain⟨p,s,r⟩:=e;unfold Zsj Zso at *
 dsimp only at *
 have a:Hid (∀ X,Below w.heap.size w (w.alloc X)):=fun X=>(zac _ _).alloc zL X
 go_enter func189,ntmps189
 go_wp2_with fail
 refine(d.o _).mono ?_;rintro x g ⟨rfl,b⟩;have f:=ZZ ((a.o _).trans (b.mono (a.o _).size));clear b;go_wp2;go_ret;exact⟨rfl,f.o⟩
theorem ZnH (v:Value) (t:List Ent) (w:World) (U:RdE w v t):
 Calls prog 140 #[v] w fun x w'=>x=.returned (.bool (decide (Zet t)))∧Below w.heap.size w w':=by
 obtain⟨va,vc,rfl,ae,L,-,hw,R⟩:=U;have P:=ZZ R;have am:(t.length:Int)<=9223372036854775807:=by unfold maxLen at L;omega
 obtain⟨D,j⟩:=zgy (decide (Zet t));rw[<-j];have O:Hid (Gf t t.length->D=true):=ZZ (fun h=>by rw[j];exact zah h)
 have F:Hid (∀ k,k<t.length->¬ Gf t (k+1)->D=false):=ZZ (fun k G h=>by rw[j];exact zae (fun y=>h (Gf.mono y G)))
 have M:=ZZ (fun e W=>ZnG e W)
 have N:Hid (ZhZ t 0=0):=ZZ rfl;have H:Hid (∀ k,ZhZ t (k+1)=(t.getD k Xi).proc+1):=ZZ (fun k=>rfl)
 have E:Hid (∀ k,Gf t (k+1)↔Gf t k∧Zbm (t.getD k Xi)∧ZhZ t k<=(t.getD k Xi).proc):=ZZ (fun k=>Zpf)
 clear j L ae R hw
 go_enter func140,ntmps140
 go_wp2
 go_loopw[3,8] (fun vl u wr=>∃ (k:Nat) (i:Int),u=.int .i64 (k:Int)∧vl=.int .i64 i∧k<=t.length∧Hid (i=ZhZ t k)∧Hid (Gf t k)∧Hid (Below w.heap.size w wr)) (fun _ u _=>t.length-(intOf u).toNat)
 case atStart=>exact⟨0,0,rfl,rfl,zai _,ZZ N.o.symm,ZZ (Gf.zero t),zac _ _⟩
 case round=>
  obtain⟨k,i,rfl,rfl,G,af,I,m⟩:=hrel;by_cases g:k<t.length
  case neg=>
   obtain rfl:k=t.length:=by omega
   have V:=ZZ (O.o I.out);go_wp2;go_ret;rw[V.o];exact⟨rfl,m.out⟩
  have ag:(k:Int)<(t.length:Int):=by omega
  rcases P.o with S | ⟨c,al,rfl,A⟩
  ·rw[S] at g;simp at g
  obtain⟨Y,c1,c2⟩:=(A k g).keep (m.out.block c (A k g).lt);have b:=ZZ (E.o k);have l:=ZZ (F.o k g);have K:=ZZ (H.o k);have d:=ZZ (fun W=>M.o (t.getD k Xi) W)
  rw[<-af.out] at b;obtain⟨e,C⟩:=zgy (t.getD k Xi);rw[<-C] at Y c1 c2 b K d;clear C A M E F O H N P;obtain⟨a,z⟩:=zgy (decide (Zbm e));rw[<-z] at d;have f:=ZZ z;have n:Hid (∀ X,Below w.heap.size w (wr.alloc X)):=ZZ (fun X=>m.out.alloc m.out.size X)
  have HX:Hid (∀ cs,Be (wr.alloc (.cells cs 85)) wr.heap.size cs):=ZZ (fun cs=>zaf wr _)
  clear z;unfold Zsj at d
  have Z:Hid (a=true->0<=e.proc∧e.proc<=64):=ZZ (fun h=>by
   have:Zbm e:=zcv (f.o.symm.trans h)
   exact⟨this.1,this.2.1⟩)
  by_cases ak:e.proc<i
  ·have q:=ZZ (l.o (fun h=>by have:=(b.o.1 h).2.2;omega))
   obtain⟨p,s,r⟩:=e
   dsimp only at *
   clear b l d f;go_wp2;go_ret;rw[q.o];exact⟨rfl,n.o _⟩
  ·have ad:i<=e.proc:=by omega
   have ab:Hid (a=true->Gf t (k+1)):=ZZ (fun h=>b.o.2 ⟨I.out,zcv (f.o.symm.trans h),ad⟩)
   have T:Hid (a=false->D=false):=ZZ (fun h=>l.o (fun y=>by
    have h3:=(b.o.1 y).2.1;have J:a=true:=f.o.trans (zah h3);rw[h] at J
    cases J))
   obtain⟨p,s,r⟩:=e
   dsimp only at *
   clear b l f
   go_wp2_with fail
   refine(d.o _).mono ?_;rintro x W1 ⟨rfl,B⟩;have Q:=ZZ ((n.o _).trans (B.mono (n.o _).size));have ac:=ZZ ((HX.o _).below B zL);obtain⟨q0,f0⟩:=ac.o.cell 0;clear B d
   cases a with
   | false=>
    have q:=ZZ (T.o rfl);go_wp2;go_ret;rw[q.o];exact⟨rfl,Q.o⟩
   | true=>
    obtain⟨ai,aj⟩:=Z.o rfl;have aa:=ZZ (ab.o rfl);go_wp2;go_roundw
    case rel=>exact⟨k+1,p+1,by go_num,by go_num,by omega,ZZ K.o.symm,aa,Q⟩
    case measure=>simp[intOf];omega
theorem ZqY (v:Value) (s:Q0) (w:World) (O:SnV w v s):
 Calls prog 98 #[v] w fun e w'=>e=.returned (.bool (decide (Z6 s)))∧Below w.heap.size w w':=by
 obtain⟨A,N,rfl,C,u,t,g,J⟩:=O;have a:Hid (∀ X,Below w.heap.size w (w.alloc X)):=fun X=>(zac _ _).alloc zL X
 have K:Hid (∀ cs,Bn (w.alloc (.cells cs 41)) w.heap.size cs):=ZZ (fun cs=>zaf w _)
 have f:=ZZ (fun W (h:Below w.heap.size w W)=>ZlG (.agg #[.int .i64 s.st.kind,A,.bool s.st.shut,.int .i64 s.st.eng]) s.st W ⟨A,rfl,C.below h zL,u,t⟩)
 have q:=ZZ (fun W (h:Below w.heap.size w W)=>ZnH N s.tab W (g.below h zL))
 obtain⟨Q,lc,H,-⟩:=C;obtain⟨T,S,I⟩:=g.shape;subst H I;clear g;obtain⟨D,k⟩:=zgy (decide (Z6 s));rw[<-k];have b:Hid (D=decide (Z6 s)):=ZZ k;have c:Hid (Z6 s↔(0<=s.idx∧s.idx<4611686018427387904)∧Yl s.st∧Zet s.tab):=ZZ Iff.rfl;obtain⟨m,p⟩:=zgy (decide (Yl s.st));obtain⟨n,j⟩:=zgy (decide (Zet s.tab));rw[<-p] at f;rw[<-j] at q;have E:=ZZ p;have G:=ZZ j;clear k p j u t J;obtain⟨idx,⟨kind,L,V,U⟩,Z⟩:=s
 dsimp only at *
 by_cases y:0<=idx
 case neg=>
  have i:Hid (D=false):=ZZ (by rw[b.o];exact zae (fun h=>y (c.o.1 h).1.1))
  go_enter func98,ntmps98
  go_wp2;go_ret;rw[i.o];exact⟨rfl,a.o _⟩
 by_cases F:idx<4611686018427387904
 case neg=>
  have i:Hid (D=false):=ZZ (by rw[b.o];exact zae (fun h=>F (c.o.1 h).1.2))
  go_enter func98,ntmps98
  go_wp2;go_ret;rw[i.o];exact⟨rfl,a.o _⟩
 have B:Hid (D=(m && n)):=ZZ (by
  rw[b.o,E.o,G.o,<-zd7]
  exact zcd.2 (c.o.trans ⟨fun h=>h.2,fun h=>⟨⟨y,F⟩,h⟩⟩))
 clear b c E G
 go_enter func98,ntmps98
 go_wp2_with fail
 refine(f.o _ (a.o _)).mono ?_;rintro x W1 ⟨rfl,l⟩;have d:=ZZ ((a.o _).trans (l.mono (a.o _).size));have P:=ZZ ((K.o _).below l zL);obtain⟨q5,Y⟩:=P.o.cell 5;clear l f
 cases m with
 | false=>
  go_wp2;go_ret;rw[B.o];exact⟨rfl,d.o⟩
 | true=>
  go_wp2_with fail
  refine(q.o _ d.o).mono ?_;rintro x R ⟨rfl,z⟩;have M:=ZZ (d.o.trans (z.mono d.o.size));clear z q;go_wp2;go_ret;rw[B.o];exact⟨rfl,M.o⟩
theorem ZsG (F:Value) (A:List Ent) (v:Value) (B:List Ent) (w:World) (R:RdE w F A) (P:RdE w v B):
 Calls prog 46 #[F,v] w fun e w'=>e=.returned (.bool (decide (A=B)))∧Below w.heap.size w w':=by
 obtain⟨aa,ac,rfl,Y,u,-,-,y⟩:=R;obtain⟨ba,bc,rfl,-,U,-,-,t⟩:=P;have K:=ZZ y;have N:=ZZ t;obtain⟨D,g⟩:=zgy (decide (A=B));rw[<-g];have z:Hid (A=B->D=true):=fun h=>by rw[g];exact zah h
 have i:Hid (¬ A=B->D=false):=fun h=>by rw[g];exact zae h
 have ad:=ZuJ;have ag:(A.length:Int)<=9223372036854775807:=by unfold maxLen at u;omega
 clear g y t u U;by_cases a:A.length=B.length
 case neg=>
  have L:((A.length:Int) != (B.length:Int))=true:=by rw[zbf];omega
  have I:=ZZ (i.o (fun h=>a (by rw[h])))
  clear a
  go_enter func46,ntmps46
  go_wp2;go_ret;rw[I.o];exact⟨rfl,zac _ _⟩
 have L:((A.length:Int) != (B.length:Int))=false:=by rw[zbj];omega
 have d:=ZZ a
 have G:Hid (A.take A.length=B.take A.length->D=true):=ZZ (fun h=>z.o (by
  rw[take_length,d.o,take_length] at h
  exact h))
 have x:Hid (∀ k,k<A.length->A.getD k Xi≠B.getD k Xi->D=false):=ZZ (fun k M h=>i.o (fun T=>h (by rw[T])))
 clear a z i
 go_enter func46,ntmps46
 go_wp2
 go_loopw[13] (fun q wr=>∃ k:Nat,q=.int .i64 (k:Int)∧k<=A.length∧Hid (A.take k=B.take k)∧Hid (∃ n,wr=w.drewN n)) (fun q _=>A.length-(intOf q).toNat)
 case atStart=>exact⟨0,rfl,zai _,rfl,⟨0,rfl⟩⟩
 case round=>
  obtain⟨k,rfl,M,C,S⟩:=hrel;obtain⟨nw,Q⟩:=S.out;subst Q;by_cases b:k<A.length
  case neg=>
   obtain rfl:k=A.length:=by omega
   have V:=ZZ (G.o C.out);go_wp2;go_ret;rw[V.o];exact⟨rfl,Xo (zac _ _) _⟩
  rcases K.o with m | ⟨c,ae,rfl,E⟩
  ·rw[m] at b;simp at b
  rcases N.o with m | ⟨c',Z,rfl,H⟩
  ·have a:=d.o;rw[m] at a;simp at a;rw[a] at b;simp at b
  obtain⟨X,c1,c2⟩:=E k b;obtain⟨d0,d1,d2⟩:=H k (by have:=d.o;omega)
  have ab:(k:Int)<(A.length:Int):=by omega
  have af:(k:Int)<(B.length:Int):=by have:=d.o;omega
  have p:=ZZ (x.o k b);have j:Hid (A.getD k Xi=B.getD k Xi->A.take (k+1)=B.take (k+1)):=fun h=>by rw[Zks b,Zks (by have:=d.o;omega),C.out,h]
  clear E H G x;generalize A.getD k Xi=r at *;generalize B.getD k Xi=s at *;by_cases f:r=s
  ·subst f
   have O:=ZZ (j.o rfl);have l:=fun W=>ZuI W r r
   rw[Zsk] at l;clear p j
   go_upto_region 6 with fail
   go_quiet(fail)
   go_wp2;go_roundw
   case rel=>exact⟨k+1,by go_num,by omega,O,⟨_,rfl⟩⟩
   case measure=>simp[intOf];omega
  ·have J:=ZZ (p.o f)
   have l:=fun W=>ZuI W r s
   rw[ZuK f] at l;clear p j f
   go_upto_region 6 with fail
   go_quiet(fail)
   go_wp2;go_ret;rw[J.o];exact⟨rfl,Xo (Xo (zac _ _) _) _⟩
theorem Zvu (G:Value) (a:Q0) (I:Value) (b:Q0) (w:World) (ha:SnV w G a) (hb:SnV w I b):
 Calls prog 20 #[G,I] w fun e w'=>e=.returned (.bool (decide (Zpm a b)))∧Below w.heap.size w w':=by
 obtain⟨J,vt,rfl,F,E,A,q,hi⟩:=ha;obtain⟨vl',U,rfl,K,C,N,v,aa⟩:=hb;have f:Hid (∀ X Y,Below w.heap.size w ((w.alloc X).alloc Y)):=fun X Y=>((zac _ _).alloc zL X).alloc (by simp) Y
 have S:Hid (∀ cs d,Bn ((w.alloc (.cells cs 41)).alloc (.cells d 41)) w.heap.size cs):=fun cs d=>(zao _ _ _ (by simp)).trans (zaf w _)
 have V:Hid (∀ cs d,Bn ((w.alloc (.cells cs 41)).alloc (.cells d 41)) (w.heap.size+1) d):=fun cs d=>ZdR w _ _
 have t:=ZZ (fun W (h:Below w.heap.size w W)=>Zvt (.agg #[.int .i64 a.st.kind,J,.bool a.st.shut,.int .i64 a.st.eng]) a.st (.agg #[.int .i64 b.st.kind,vl',.bool b.st.shut,.int .i64 b.st.eng]) b.st W ⟨J,rfl,F.below h zL,E,A⟩ ⟨vl',rfl,K.below h zL,C,N⟩)
 have l:=ZZ (fun W (h:Below w.heap.size w W)=>ZsG vt a.tab U b.tab W (q.below h zL) (v.below h zL))
 obtain⟨la,lc,P,-⟩:=F;obtain⟨ak,aq,ac,-⟩:=K;obtain⟨ta,tc,T⟩:=q.shape;obtain⟨ao,ap,ab⟩:=v.shape;subst P T ac ab;obtain⟨D,j⟩:=zgy (decide (Zpm a b));rw[<-j];have p:Hid (D=decide (Zpm a b)):=ZZ j;have u:Hid (Zpm a b↔Zmw a.st b.st∧a.idx=b.idx∧a.tab=b.tab):=ZZ Iff.rfl;obtain⟨m,y⟩:=zgy (decide (Zmw a.st b.st));obtain⟨n,z⟩:=zgy (decide (a.tab=b.tab));rw[<-y] at t;rw[<-z] at l;have O:=ZZ y;have H:=ZZ z;clear j y z E A hi C N aa q v;obtain⟨idx,⟨kind,L,aj,ai⟩,al⟩:=a;obtain⟨k,⟨af,L',an,am⟩,ag⟩:=b
 dsimp only at *
 by_cases c:idx=k
 case neg=>
  have Z:(idx == k)=false:=zad.2 c;have R:Hid (D=false):=ZZ (by rw[p.o];exact zae (fun h=>c (u.o.1 h).2.1))
  clear c
  go_enter func20,ntmps20
  go_wp2;go_ret;rw[R.o];exact⟨rfl,f.o _ _⟩
 have Z:(idx == k)=true:=za8.2 c
 have B:Hid (D=(m && n)):=ZZ (by
  rw[p.o,O.o,H.o,<-zd7]
  exact zcd.2 (u.o.trans ⟨fun h=>⟨h.1,h.2.2⟩,fun h=>⟨h.1,c,h.2⟩⟩))
 clear p u O H c
 go_enter func20,ntmps20
 go_wp2_with fail
 refine(t.o _ (f.o _ _)).mono ?_;rintro x W1 ⟨rfl,i⟩;have g:=ZZ ((f.o _ _).trans (i.mono (f.o _ _).size));have ae:=ZZ ((S.o _ _).below i zL);have ad:=ZZ ((V.o _ _).below i zL);obtain⟨q5,f5⟩:=ae.o.cell 5;obtain⟨r5,g5⟩:=ad.o.cell 5;clear i t
 cases m with
 | false=>
  go_wp2;go_ret;rw[B.o];exact⟨rfl,g.o⟩
 | true=>
  go_wp2_with fail
  refine(l.o _ g.o).mono ?_;rintro x W2 ⟨rfl,M⟩;have Q:=ZZ (g.o.trans (M.mono g.o.size));clear M l;go_wp2;go_ret;rw[B.o];exact⟨rfl,Q.o⟩
def ZqZ (w:World) (s:Q0) (e:Ending) (w':World):Prop:=
 ∃ v',e=.returned (.tuple #[v',.int .i64 (if Z6 s then 0 else 1)])∧Own w' w.heap.size v' (if Z6 s then ZjA s else[])∧Below w.heap.size w w'
theorem Zaq:∀ (n:Nat) (l:List UInt8),l.length<=n->(Qf (Ya l)).length<=15*l.length
 | 0,l,h=>by
  have e:l=[]:=zaj (by omega)
  rw[e,Yn];simp[Qf]
 | n+1,l,h=>by
  by_cases e:l=[]
  ·rw[e,Yn]
   simp[Qf]
  ·have c:l.length≠0:=by simpa using e
   have a:=Zaq n (l.drop 64) (by rw[length_drop];omega)
   have b:=J7 (d:=l.take 64) (by rw[length_take];omega)
   rw[Zx e,Q8,length_append];rw[length_drop] at a;rw[length_take] at b;omega
theorem Zxt {s:Q0} (h:Z6 s):(ZjA s).length<=80000:=by
 have f:=Zay h;have a:s.idx.toNat<4611686018427387904:=by have:=h.1;omega
 have c:=Zey a (w:=Xt s) (by omega)
 have e:=J7 (d:=Zbn s.idx.toNat (Xt s)) (by omega)
 have b:=Zaq _ (Xt s) zL;unfold ZjA ZaI;rw[Q8,length_append];omega
theorem Zra (n:Int) (w:World) (k:-9223372036854775808<=n) (p:n<=9223372036854775807):
 Calls prog 134 #[.int .i64 n] w fun e w'=>e=.returned (.int .i64 (ZgE n:Nat))∧Below w.heap.size w w':=by
 by_cases h:0<=n∧n<=1048576
 ·obtain⟨c,b⟩:=h
  have a:Hid (ZgE n=(Lib.uvarint n.toNat).length+4+n.toNat):=zab ⟨c,b⟩
  have f:Hid (∀ w,Calls prog 132 #[.slice none 0 0,.int .i64 n] w fun e w'=>∃ ao cap,e=.returned (.slice ao (Lib.uvarint n.toNat).length cap)∧Below w.heap.size w w'):=by
   intro w;refine(ZbE (.slice none 0 0) [] n w (Rd.nil _) (by simp)).mono ?_
   have e:Zsd [] n=Lib.uvarint n.toNat:=zab ⟨by omega,by omega⟩
   rintro l w' ⟨v',rfl,d,i⟩;rw[e] at d;obtain⟨ao,cap,rfl,_⟩:=d.rd;exact⟨ao,cap,rfl,i⟩
  have m:(Lib.uvarint n.toNat).length<=3:=Zzy (by omega)
  generalize (Lib.uvarint n.toNat).length=q at *
  go_enter func134,ntmps134
  go_wp2_with fail
  refine(f.o _).mono ?_;rintro e t ⟨ao,cap,rfl,g⟩;have j:=ZZ g;clear g f;go_wp2;go_ret;refine⟨ZbV ?_,j.o⟩;rw[a.o];omega
 ·have a:Hid (ZgE n=0):=zaa h
  by_cases c:n<0
  ·clear h
   go_enter func134,ntmps134
   go_wp2;go_ret;exact⟨ZbV (by rw[a.o];rfl),zac _ _⟩
  ·have b:1048576<n:=by omega
   clear h
   go_enter func134,ntmps134
   go_wp2;go_ret;exact⟨ZbV (by rw[a.o];rfl),zac _ _⟩
theorem ZyW (v:Value) (l:List UInt8) (w:World) (u:Rd w v l):
 Calls prog 217 #[v] w fun e w'=>e=.returned (.bool (decide (Gn l)))∧w'=w:=by
 obtain⟨ao,cap,rfl,A,t,x,d⟩:=u;clear x;have E:(l.length:Int)<=9223372036854775807:=by unfold maxLen at t;omega
 by_cases C:(l.length:Int)<10
 ·go_enter func217,ntmps217
  go_wp2
  go_loop [10] (fun i=>∃ k:Nat,i=.int .i64 k∧k<=l.length∧Hid (∀ j,j<k->128<=(l.getD j 0).toNat)) (fun i=>l.length-(intOf i).toNat)
  case atStart=>exact⟨0,rfl,by omega,fun j m=>by omega⟩
  case round=>
   obtain⟨k,rfl,B,p⟩:=hrel;by_cases a:k<l.length
   ·rcases d with d | ⟨b,D,rfl,n⟩
    ·subst d;simp at a
    ·have q:=n k a
     clear n;obtain⟨y,c⟩:=zgy ((l.getD k 0).toNat);rw[<-c] at q;have g:Hid (y=(l.getD k 0).toNat):=c;clear c;by_cases z:(y:Int)<128
     ·go_wp2
      go_ret;refine⟨Zeg ?_,rfl⟩
      symm
      refine zae fun f=>?_
      have:=f.2 k a;rw[<-g.o] at this;omega
     ·go_wp2
      go_round
      case rel=>
       refine⟨k+1,by go_num,by omega,fun j m=>?_⟩
       by_cases e:j=k
       ·rw[e,<-g.o];omega
       ·exact p.out j (by omega)
      case measure=>simp[intOf];omega
   ·go_wp2
    go_ret;refine⟨Zeg ?_,rfl⟩
    symm
    exact zah ⟨by omega,fun j m=>p.out j (by omega)⟩
 ·go_enter func217,ntmps217
  go_wp2;go_ret;refine⟨Zeg ?_,rfl⟩
  symm
  exact zae fun f=>by have:=f.1;omega
theorem Own.made0 (w:World) (B:Nat) (a:B<=w.heap.size):Own (w.alloc (.cells #[] 5)) B (.slice (some ⟨w.heap.size,0,none⟩) 0 0) []:=
 ⟨rfl,.inr ⟨w.heap.size,0,#[],rfl,a,zaf w _,zat _,zai _,rfl,rfl⟩⟩
theorem Zvv (v:Value) (l:List UInt8) (w:World) (c:Rd w v l) (C:l.length<=70368744177664):
 Calls prog 113 #[v] w fun e w'=>∃ v',e=.returned v'∧Own w' w.heap.size v' l∧Below w.heap.size w w':=by
 have n:=ZZ c;obtain⟨ao,cap,rfl,j,k,b,f⟩:=c
 cases ao with
 | none=>
  have u:=b rfl;have t:l=[]:=zaj (by omega)
  subst t;subst u;clear f b;have z:∀ w,(binOp .eql 53 (.slice none 0 0) (.slice none 0 0)).run prog w=.ok (.bool true) w:=fun w=>zcu w _ _ none 0 0 underlying53
  go_enter func113,ntmps113
  go_wp2;go_ret;exact⟨_,rfl,Own.nil _ _,zac _ _⟩
 | some i=>
  clear f b j k;have z:∀ w,(binOp .eql 53 (.slice (some i) l.length cap) (.slice none 0 0)).run prog w=.ok (.bool false) w:=fun w=>zcu w _ _ (some i) _ _ underlying53
  have y:=ZZ (Own.made0 w w.heap.size zL);have a:=ZZ ((zac w.heap.size w).alloc zL (.cells #[] 5));have p:=ZZ (n.o.below a.o zL);have q:Hid (w.heap.size<=(w.alloc (.cells #[] 5)).heap.size):=a.o.size
  go_enter func113,ntmps113
  go_wp2_with(at_builtin;refine Xw _ rfl _ _ rfl w.heap.size _ [] rfl y.o _ l rfl p.o (by simp;omega) q.o ?_)
  intro m B d g;have x:=ZZ d;have A:=ZZ (a.o.trans g);clear d g;go_wp2;go_ret;exact⟨m,rfl,x.o,A.o⟩
theorem Zdj (v:Value) (l:List UInt8) (w:World) (x:Rd w v l):
 Calls prog 91 #[v] w fun e w'=>∃ v',e=.returned (.tuple #[v',.int .i64 ((Zyk l).2:Nat)])∧Own w' w.heap.size v' (Zyk l).1∧Below w.heap.size w w':=by
 have V:=ZZ x;obtain⟨i0,hi,R,ac,ae⟩:=zbo Zlf;obtain⟨ao,cap,rfl,ax,af,aq,ar⟩:=x;clear aq ar;have az:(l.length:Int)<=9223372036854775807:=by unfold maxLen at af;omega
 by_cases h:(l.length:Int)<=1048576
 ·have a:Hid (Zyk l=(Ze l++Lib.leBytes 4 (Q2 0 (Ze l)),0)):=zab (by omega)
  have y:Hid (∀ w,Calls prog 132 #[.slice none 0 0,.int .i64 (l.length:Int)] w fun e w'=>∃ v',e=.returned v'∧Own w' w.heap.size v' (Lib.uvarint l.length)∧Below w.heap.size w w'):=by
   intro w;have:=ZbE (.slice none 0 0) [] (l.length:Int) w (Rd.nil _) (by simp)
   have e:Zsd [] (l.length:Int)=Lib.uvarint l.length:=zab ⟨by omega,by omega⟩
   rwa [e] at this
  have L:Hid (∀ w,Calls prog 134 #[.int .i64 (l.length:Int)] w fun e w'=>e=.returned (.int .i64 (ZgE (l.length:Int):Nat))∧Below w.heap.size w w'):=fun w=>Zra _ w (by omega) (by omega)
  have f:Hid (∀ v w,Rd w v (Ze l)->Calls prog 136 #[v] w fun e w'=>e=.returned (.int .u32 (Q2 0 (Ze l):Nat))∧Below w.heap.size w w'):=fun v w h=>ZlQ v _ w h
  have c:Hid (∀ w,Calls prog 135 #[.int .u32 (Q2 0 (Ze l):Nat)] w fun e w'=>∃ v',e=.returned v'∧Own w' w.heap.size v' (Lib.leBytes 4 (Q2 0 (Ze l)))∧Below w.heap.size w w'):=fun w=>ZhX _ w (ZmC _)
  have B:Hid (Ze l=Lib.uvarint l.length++l):=rfl;have aw:Hid ((Lib.leBytes 4 (Q2 0 (Ze l))).length=4):=zcq 4 _;have b:Hid ((Lib.uvarint l.length).length<=3):=Zzy (by omega)
  have ay:ZgE (l.length:Int)<=2000000:=by
   have e:ZgE (l.length:Int)=(Lib.uvarint l.length).length+4+l.length:=zab ⟨by omega,h⟩
   have:=b.o;rw[e];omega
  generalize ZgE (l.length:Int)=z at *;generalize Q2 0 (Ze l)=s at *;obtain⟨S,P⟩:∃ S:Int,S=(s:Int):=⟨_,rfl⟩;rw[<-P] at c f;clear P;generalize Lib.leBytes 4 s=q at *;generalize Lib.uvarint l.length=u at *;generalize Ze l=hd at *;have hh:=B.o;subst hh;clear B
  go_enter func91,ntmps91
  go_wp2_with fail
  refine(L.o _).mono ?_;rintro e w1 ⟨rfl,m⟩;have av:=ZZ m;have H:=m.size;clear m L
  go_wp2_with(at_make;refine wpList_make_own _ rfl _ _ 53 rfl w.heap.size 5 i0 (.int .u8 0) 1 underlying53 hi R ac _ _ _ z rfl rfl (by omega) (by rw[ae];omega) (by unfold maxLen;omega) H ?_)
  intro Y D A;have ad:Hid (Own Y w.heap.size (.slice (some ⟨w1.heap.size,0,none⟩) 0 z) []):=D;have n:=ZZ (av.o.grown A H (fun k hk=>by cases hk))
  have ap:=n.o.size;clear D A
  go_wp2_with fail
  refine(y.o _).mono ?_;rintro e w3 ⟨v3,rfl,F,g⟩;have O:=ZZ (n.o.trans (g.mono ap));have am:=ZZ F.rd;have ab:=ZZ (ad.o.below g zL);have U:=O.o.size;clear F g y
  go_wp2_with(at_builtin;refine Xw _ rfl _ _ rfl w.heap.size _ [] rfl ab.o _ u rfl am.o (by have:=b.o;simp;omega) U ?_)
  intro v4 T I Q;have j:=ZZ (O.o.trans Q);have X:Hid (Own T w.heap.size v4 u):=I;have aa:=j.o.size;clear I Q
  go_wp2_with(at_builtin;refine Xw _ rfl _ _ rfl w.heap.size _ u rfl X.o _ l rfl (V.o.below j.o zL) (by have:=b.o;omega) aa ?_)
  intro Z w5 t N;have C:=ZZ (j.o.trans N);have M:Hid (Own w5 w.heap.size Z (u++l)):=t;have W:=C.o.size;clear t N
  go_wp2_with fail
  refine(f.o _ _ M.o.rd).mono ?_;rintro e w6 ⟨rfl,d⟩;have K:=ZZ (C.o.trans (d.mono W));have aj:=ZZ (M.o.below d zL);have ai:=K.o.size;clear d f
  go_wp2_with fail
  refine(c.o _).mono ?_;rintro e w7 ⟨v7,rfl,p,i⟩;have G:=ZZ (K.o.trans (i.mono ai));have an:=ZZ p.rd;have ag:=ZZ (aj.o.below i zL);have ak:=G.o.size;clear p i c
  go_wp2_with(at_builtin;refine Xw _ rfl _ _ rfl w.heap.size _ (u++l) rfl ag.o _ q rfl an.o (by have:=b.o;have:=aw.o;simp;omega) ak ?_)
  intro v8 w8 J E;have al:=ZZ (G.o.trans E);have au:=ZZ J;clear J E;go_wp2;go_ret2;exact⟨v8,by rw[a.o];rfl,by rw[a.o];show Own _ _ _ (u++l++q);rw[zcn];exact au.o,al.o⟩
 ·have a:Hid (Zyk l=([],5)):=zaa (by omega)
  go_enter func91,ntmps91
  go_wp2;go_ret2;exact⟨_,by rw[a.o];rfl,by rw[a.o];exact Own.nil _ _,zac _ _⟩
theorem ZlS {B B':Nat} {e:TypeId} {xs:List Value} (h:w.ownsRow B e k v n xs) (f:Below B' w w') (j:w.heap.size<=B'):w'.ownsRow B e k v n xs:=by
 obtain⟨i,a⟩:=h;refine⟨i,?_⟩;rcases a with a | ⟨g,cap,cur,c,d,b,r⟩
 ·exact .inl a
 ·have l:g<w.heap.size:=(zan.1 b).1
  exact .inr ⟨g,cap,cur,c,d,by rw[f.block g (by omega)];exact b,r⟩
theorem ZlT (P:List (List UInt8)) (q:Nat) (a:q<P.length):Qf (P.take (q+1))=Qf (P.take q)++Qd (P.getD q []):=by
 have b:P.take (q+1)=P.take q++[P.getD q []]:=by
  rw[take_add_one,za3 a];simp[List.getD,a]
 rw[b,Zax,Q8];simp[Qf]
theorem Zct (P:List (List UInt8)) (q:Nat):(Qf (P.take q)).length<=(Qf P).length:=by
 have h:Qf P=Qf (P.take q)++Qf (P.drop q):=by rw[<-Zax,zbz]
 rw[h,length_append];omega
theorem ZpH (s:Q0):ZaI s=Zbn s.idx.toNat (Xt s)::Ya (Xt s):=rfl
theorem Zvw (s:Q0):Xt s≠[]:=by
 unfold Xt;intro h;have b:=(List.append_eq_nil_iff.1 h).1;have a:=congrArg List.length b;have:=J2 (Zeq s.st).length;rw[zcr] at a;omega
theorem ZpI (v:Value) (s:Q0) (w:World) (hs:SnV w v s):
 Calls prog 56 #[v] w fun e w'=>ZqZ w s e w':=by
 have aj:=ZZ hs;obtain⟨vl,vt,rfl,hl,hk,he,ht,hi⟩:=hs;obtain⟨la,lc,a3,-⟩:=id hl;obtain⟨ta,tc,a8⟩:=ht.shape;subst a3 a8;have E:=ZZ (fun W (h:Below w.heap.size w W)=>ZqY _ s W (aj.o.below h zL))
 obtain⟨K,p⟩:=zgy (w.alloc (.cells #[.int .i64 s.idx,.int .i64 s.st.kind,.slice la s.st.L.length lc,.bool s.st.shut,.int .i64 s.st.eng,.slice ta s.tab.length tc] 41));have l:Hid (Below w.heap.size w K):=ZZ (by rw[p];exact(zac _ _).alloc zL _)
 have i:Hid (Bn K w.heap.size #[.int .i64 s.idx,.int .i64 s.st.kind,.slice la s.st.L.length lc,.bool s.st.shut,.int .i64 s.st.eng,.slice ta s.tab.length tc]):=ZZ (by rw[p];exact zaf w _)
 obtain⟨J,-⟩:=i.o.cell 0;obtain⟨p1,-⟩:=i.o.cell 1;obtain⟨V,-⟩:=i.o.cell 2;obtain⟨p3,-⟩:=i.o.cell 3;obtain⟨p4,-⟩:=i.o.cell 4;obtain⟨p5,-⟩:=i.o.cell 5;unfold ZqZ;clear hl hk he ht hi;by_cases d:Z6 s
 case neg=>
  rw[zaa d,zaa d];rw[zae d] at E;clear d
  go_enter func56,ntmps56
  go_upto_region 1 with fail
  rw[<-p];clear p
  go_wp2_with fail
  refine(E.o _ l.o).mono ?_;rintro x W1 ⟨rfl,B⟩;have A:=ZZ (l.o.trans (B.mono l.o.size));clear B;go_wp2;go_ret2;exact⟨_,rfl,Own.nil _ _,A.o⟩
 rw[zab d,zab d];rw[zah d] at E;have aD:=ZZ (fun W (h:Below w.heap.size w W)=>ZpG _ s W (aj.o.below h zL) d)
 have bl:=Zay d;have aV:=d.1;have ae:=ZZ (fun v1 W h=>ZjO s.idx v1 (Xt s) W h)
 have M:=ZZ (fun W=>Zxs s.idx ((Xt s).length:Int) (Q2 0 (Xt s)) W aV ⟨by omega,by omega⟩ (ZmC _))
 rw[za9,Zxr] at M;have aX:=ZZ (fun v1 W h=>ZkB v1 (Xt s) W h (by omega))
 have I:Hid (ZaI s=Zbn s.idx.toNat (Xt s)::Ya (Xt s)):=ZZ (ZpH s);have ap:Hid (∀ x ∈ ZaI s,x.length<=1048576):=ZZ (Zki d);have ak:Hid ((Qf (ZaI s)).length<=80000):=ZZ (Zxt d);have aM:Hid (ZjA s=Qf (ZaI s)):=ZZ rfl;rw[aM.o]
 have ar:Hid (0<(Ya (Xt s)).length∧(Ya (Xt s)).length<=5000):=ZZ (by
  constructor
  ·rw[Zx (Zvw s)]
   simp
  ·have h1:=Zct (ZaI s) (ZaI s).length
   have h2:∀ (L:List (List UInt8)),(∀ x ∈ L,1<=x.length)->L.length<=L.flatten.length:=fun L hL=>by
    induction L with
    | nil=>simp
    | cons x t ih=>
     have T:=hL x (by simp)
     have h4:=ih (fun y hy=>hL y (by simp[hy]))
     rw[length_cons,flatten_cons,length_append];omega
   have T:=h2 (Ya (Xt s)) (fun x hx=>(Zfw _ _ x zL hx).2)
   rw[ZdI _ _ zL] at T
   omega)
 generalize Xt s=R at *;generalize Zbn s.idx.toNat R=m at *;generalize Ya R=PW at *;generalize Q2 0 R=CR at *;obtain⟨b,aJ⟩:=zgy (ZaI s);rw[<-aJ] at I ap ak ⊢;clear aJ aM d;obtain⟨CI,aF⟩:∃ CI:Int,CI=(CR:Int):=⟨_,rfl⟩;rw[<-aF] at ae M;clear aF aj
 go_enter func56,ntmps56
 go_upto_region 1 with fail
 rw[<-p];clear p
 go_wp2_with fail
 refine(E.o _ l.o).mono ?_;rintro x W1 ⟨rfl,B⟩;have A:=ZZ (l.o.trans (B.mono l.o.size));have j:=ZZ (i.o.below B zL);clear B E J p1 V p3 p4 p5 i l;obtain⟨J,-⟩:=j.o.cell 0;obtain⟨p1,-⟩:=j.o.cell 1;obtain⟨V,-⟩:=j.o.cell 2;obtain⟨p3,-⟩:=j.o.cell 3;obtain⟨p4,-⟩:=j.o.cell 4;obtain⟨p5,-⟩:=j.o.cell 5
 go_wp2_with fail
 refine(aD.o _ A.o).mono ?_;rintro x W2 ⟨v2,rfl,au,aq⟩;have Y:=ZZ (A.o.trans (aq.mono A.o.size));have aB:=ZZ (j.o.below aq zL);have af:=ZZ au.rd;obtain⟨a2,c2,bi⟩:∃ a c,v2=.slice a R.length c:=by obtain⟨a,c,h,-⟩:=au.rd;exact⟨a,c,h⟩
 subst bi;clear au aq aD J p1 V p3 p4 p5 j A;obtain⟨J,-⟩:=aB.o.cell 0
 go_wp2_with fail
 refine(ae.o _ _ af.o).mono ?_;rintro x W3 ⟨rfl,ag⟩;have ao:=ZZ (Y.o.trans (ag.mono Y.o.size));have aC:=ZZ (af.o.below ag zL);clear ag ae aB J Y af
 go_wp2_with fail
 refine(M.o _).mono ?_;rintro x f ⟨v4,rfl,am,av⟩;have aU:=ZZ (ao.o.trans (av.mono ao.o.size));have aw:=ZZ (aC.o.below av zL);have aI:=ZZ am.rd;obtain⟨z,n,bg⟩:∃ a c,v4=.slice a m.length c:=by obtain⟨a,c,h,-⟩:=am.rd;exact⟨a,c,h⟩
 subst bg;clear am av M ao aC;have S:Hid (Below f.heap.size f (f.alloc (.cells #[.slice z m.length n] 53))):=ZZ ((zac _ _).alloc zL _);have aS:Hid ((f.alloc (.cells #[.slice z m.length n] 53)).ownsRow f.heap.size 53 1 (.slice (some ⟨f.heap.size,0,none⟩) 1 1) 1 [.slice z m.length n]):=ZZ (zgg f #[.slice z m.length n] 1 zL (by unfold maxLen;omega) rfl)
 go_wp2_with fail
 refine(aX.o _ _ (aw.o.below S.o zL)).mono ?_;rintro x W6 ⟨v6,xs,rfl,al,O,ad⟩;have an:=ZZ (S.o.trans (ad.mono S.o.size));have aP:=ZZ (ZlS aS.o ad zL);have U:=ZZ O;have aA:=ZZ al;clear ad O aS S aX;rcases al.2 with ⟨-,hn⟩ | ⟨g6,bb,bo,O,-⟩
 ·have:=ar.o
  omega
 subst O;clear al;have az:=an.o.size;have be:=ar.o
 go_wp2_with(at_builtin;refine Zam _ rfl _ _ rfl f.heap.size _ 1 [.slice z m.length n] rfl aP.o _ PW.length bb xs rfl U.o.1 (zct aA.o rfl) U.o.one (by omega) az ?_)
 intro v7 k X aK;have Q:=ZZ (an.o.trans aK);have ab:=ZZ (aU.o.trans (Q.o.mono aU.o.size));have aE:=ZZ (aI.o.below Q.o zL);have aN:=ZZ (aw.o.below Q.o zL);have aT:=ZZ X;have ac:b.length=1+PW.length:=by rw[I.o,length_cons];omega
 have bn:(b.length:Int)<=100000:=by omega
 have bc:Hid (∀ q,q<b.length->∃ x,([Value.slice z m.length n]++xs)[q]?=some x∧Rd k x (b.getD q [])):=ZZ (fun q C=>by
  cases q with
  | zero=>
   refine⟨_,rfl,?_⟩;rw[I.o];exact aE.o
  | succ q=>
   obtain⟨x,h1,h2,T⟩:=U.o.2 q (by omega)
   refine⟨x,by simpa using h1,?_⟩
   rw[I.o]
   exact T k aN.o)
 rcases X.2 with ⟨-,hn⟩ | ⟨g7,bm,bq,bk,-⟩
 ·omega
 subst bk;rw[<-ac] at aT;clear X aK aE aN aP U aI aw an Q ar be az aA;have bd:Hid (∀ q,q<b.length->Qf (b.take (q+1))=Qf (b.take q)++Qd (b.getD q [])):=ZZ (fun q C=>ZlT b q C)
 have aH:Hid (∀ q,(Qf (b.take q)).length<=80000):=ZZ (fun q=>zas (Zct b q) ak.o)
 have ba:Hid (∀ q,q<b.length->(b.getD q []).length<=1048576):=ZZ (fun q C=>ap.o _ (by rw[show b.getD q []=b[q] by simp[List.getD,C]];exact getElem_mem C))
 rw[<-ac];clear ac I ap bl aV ak;go_wp2
 go_loopw[6,27] (fun vo vi wr=>∃ q:Nat,vi=.int .i64 (q:Int)∧q<=b.length∧Hid (Own wr k.heap.size vo (Qf (b.take q)))∧Hid (Below k.heap.size k wr)) (fun _ vi _=>b.length-(intOf vi).toNat)
 case atStart=>exact⟨0,rfl,zai _,ZZ (Own.nil _ _),zac _ _⟩
 case round=>
  obtain⟨q,rfl,C,H,u⟩:=hrel;by_cases Z:q<b.length
  case neg=>
   obtain rfl:q=b.length:=by omega
   rw[take_length] at H;go_wp2;go_ret2;exact⟨_,rfl,H.out.mono ab.o.size,ab.o.trans (u.out.mono ab.o.size)⟩
  have bp:(q:Int)<(b.length:Int):=by omega
  obtain⟨x,aW,ay⟩:=bc.o q Z;have N:=zct aT.o (g:=g7) rfl q x aW;rw[zbg] at N;have aR:wr.cell? ⟨g7,0+q,none⟩=some x:=(u.out.cell (zau k ⟨g7,0+q,none⟩ N)).trans N;rw[za5] at aR;have aG:=ZZ (ay.below u.out zL)
  have aZ:Hid (Zyk (b.getD q [])=(Qd (b.getD q []),0)):=ZZ (by
   unfold Zyk
   rw[zab (ba.o q Z)])
  have ax:=ZZ (bd.o q Z);have a1:=ZZ (aH.o q);have aa:=ZZ (aH.o (q+1));have P:=ZZ (Zdj x (b.getD q []) wr aG.o);rw[aZ.o] at P;rw[ax.o] at aa
  dsimp only at P
  obtain⟨xa,xc,bf⟩:∃ a c,x=.slice a (b.getD q []).length c:=by obtain⟨a,c,h,-⟩:=ay;exact⟨a,c,h⟩
  subst bf;clear aW ay N aZ aG;generalize Qd (b.getD q [])=F at *;generalize b.getD q []=D at *;obtain⟨G,hG⟩:=zgy (Qf (b.take q));rw[<-hG] at H ax a1 aa;clear hG
  go_wp2_with fail
  refine P.o.mono ?_;rintro e W8 ⟨v8,rfl,aO,ai⟩;have bj:=ZZ aO.rd;have aL:=ZZ (H.out.below ai zL);have aQ:=ZZ (u.out.trans (ai.mono u.out.size));have a6:=ZZ aQ.o.size;have a5:Hid (G.length+F.length<=70368744177664):=ZZ (by have:=aa.o;rw[length_append] at this;omega)
  clear aO ai P H u aR
  go_wp2_with(at_builtin;refine Xw _ rfl _ _ rfl k.heap.size _ G rfl aL.o _ F rfl bj.o a5.o a6.o ?_)
  intro v9 W9 aY a0;have a9:=ZZ aY;have a7:=ZZ (aQ.o.trans a0);clear aY a0 aL;go_wp2;go_roundw
  case rel=>exact⟨q+1,by go_num,by omega,ZZ (by rw[ax.o];exact a9.o),a7⟩
  case measure=>simp[intOf];omega
theorem ZpJ (w:World) (h:SD K w pd p s d N T) (l:∀ k,K k->k<w.heap.size) (q:ZpE s):
 Calls prog 26 #[ptr p] w fun e w'=>Jz K w pd p (Yf (s,d)) (N+4) T e w':=by
 have a:=ZZ (ZeO w h l q);unfold Yf;obtain⟨r,t⟩:=zgy (Q5 (s,d));rw[<-t] at a ⊢;have z:=ZZ l;obtain⟨R,i⟩:∃ R,R=if r.2=0 then(({ r.1.1 with cur:=0 },r.1.2),(0:Int)) else r:=⟨_,rfl⟩
 rw[<-i];have b:=ZZ i;clear h l t i q;obtain⟨⟨u,C⟩,c⟩:=r
 dsimp only at b
 unfold Jz at a
 dsimp only at a
 go_enter func26,ntmps26
 go_wp2_with fail
 refine a.o.mono ?_;rintro e A ⟨rfl,g,j⟩;have m:=ZZ g;have v:=ZZ j;have x:Hid (∀ k,K k->k<A.heap.size):=ZZ (fun k y=>zav (z.o k y) j.size)
 obtain⟨⟨-,-,D,-⟩,fz⟩:=g.cells;have F:=fz 12;clear g j a fz;by_cases f:c=0
 ·subst f
  rw[zab rfl] at b;have n:=ZZ (m.o.setHead (s':={ u with cur:=0 }) x.o 12 (.int .i64 0) rfl rfl rfl (fun _=>rfl))
  generalize u.cur=E at *;go_wp2;go_ret;rw[b.o];exact⟨rfl,n.o.1,v.o.trans n.o.2 (fun _ _ h=>h)⟩
 ·rw[zaa f] at b
  have B:(c != 0)=true:=by rw[zbf];exact f
  clear f;go_wp2;go_ret;rw[b.o];exact⟨rfl,m.o,v.o⟩
theorem Zvx {l:List Int} (a:k<l.length) (b:l.getD k 0=x):x ∈ l:=by
 rw[<-b];exact Zir a
theorem ZsH (v:Value) (l:List Int) (x:Int) (w:World) (C:RdI w v l):
 Calls prog 144 #[v,.int .i64 x] w fun e w'=>(∃ k:Int,e=.returned (.int .i64 k)∧((0<=k∧x ∈ l)∨(k=-1∧x ∉ l)))∧w'=w:=by
 obtain⟨ao,cap,rfl,z,n,-,-,p⟩:=C;have I:(l.length:Int)<=9223372036854775807:=by unfold maxLen at n;omega
 have D:=ZZ p;clear p n z
 go_enter func144,ntmps144
 go_wp2
 go_loop [8] (fun i=>∃ k:Nat,i=.int .i64 k∧k<=l.length∧Hid (∀ j,j<k->l.getD j 0≠x)) (fun i=>l.length-(intOf i).toNat)
 case atStart=>exact⟨0,rfl,zai _,fun j d=>by omega⟩
 case round=>
  obtain⟨k,rfl,G,t⟩:=hrel;by_cases a:k<l.length
  ·rcases D.o with B | ⟨g,H,rfl,q⟩
   ·rw[B] at a;simp at a
   have u:=q k a;clear q;have A:=ZZ a;obtain⟨y,c⟩:=zgy (l.getD k 0);rw[<-c] at u;have m:=ZZ c;clear c;by_cases b:x=y
   ·subst b
    go_wp2;go_ret;exact⟨⟨(k:Int),rfl,.inl ⟨by omega,Zvx A.o m.o.symm⟩⟩,rfl⟩
   ·have F:(x == y)=false:=zad.2 b
    have f:=ZZ b;clear b;go_wp2
    go_round
    case rel=>
     refine⟨k+1,by go_num,by omega,fun j d=>?_⟩
     by_cases e:j=k
     ·rw[e,<-m.o];exact fun h=>f.o h.symm
     ·exact t.out j (by omega)
    case measure=>simp[intOf];omega
  ·have f:Hid (x ∉ l):=ZZ (fun E=>by
    obtain⟨j,d,e⟩:=zdh E
    exact t.out j (by omega) (by simp[List.getD,d,e]))
   go_wp2;go_ret;exact⟨⟨-1,rfl,.inr ⟨rfl,f.o⟩⟩,rfl⟩
theorem ZlU (v:Value) (l:List Int) (x:Int) (w:World) (f:RdI w v l):
 Calls prog 106 #[v,.int .i64 x] w fun e w'=>e=.returned (.bool (decide (x ∈ l)))∧w'=w:=by
 have g:=ZZ (ZsH v l x w f);obtain⟨ao,cap,rfl,-⟩:=f;obtain⟨b,d⟩:=zgy (decide (x ∈ l));rw[<-d];have c:=ZZ d;clear d
 go_enter func106,ntmps106
 go_wp2_with fail
 refine g.o.mono ?_;rintro e m ⟨⟨k,rfl,i⟩,rfl⟩;clear g;rcases i with ⟨j,a⟩ | ⟨rfl,a⟩
 ·rw[zah a] at c
  clear a;go_wp2;go_ret;rw[c.o];exact⟨rfl,rfl⟩
 ·rw[zae a] at c
  clear a;go_wp2;go_ret;rw[c.o];exact⟨rfl,rfl⟩
theorem ZsI (w:World) (h:SD K w pd p s d N T) (O:∀ k,K k->k<w.heap.size) (B:N<=1000000) (Y:T<=1000000000):
 Calls prog 63 #[ptr p] w fun e w'=>Jz K w pd p (Yy (s,d)) (N+2) T e w':=by
 obtain⟨⟨Q,-⟩,-⟩:=h.cells
 have y:Hid (Calls prog 28 #[ptr pd] w fun e w'=>∃ v,e=.returned v∧Qs w' w.heap.size v (Qk d)∧Below w.heap.size w w'):=ZZ (by
  obtain⟨F,M,I,L,⟨Z,D,m,-⟩,-⟩:=h
  exact ZeC w D m B)
 have HI:Hid (∀ n ∈ Qk d,I64 n):=ZZ (by
  obtain⟨F,M,I,L,⟨Z,D,m,-⟩,-⟩:=h;intro n V;have:=Zbg m n V
  exact⟨by omega,by omega⟩)
 have l:=ZZ h;have X:=ZZ O;have q:Hid (∀ W,Below w.heap.size w W->Calls prog 69 #[ptr pd,.int .i64 1] W fun e w'=>Jz K W pd p (Xm (fun d=>Qj d 1) (s,d)) (N+2) T e w'):=ZZ (fun W J=>(l.o.below J).step (fun d=>Qj d 1) (fun k S=>zav (X.o k S) J.size) (fun F U _=>Zkk 1 ⟨by decide,by decide⟩ _ U B Y))
 obtain⟨R,x⟩:=zgy (Yy (s,d));rw[<-x];have f:=ZZ x;clear h O x
 go_enter func63,ntmps63
 go_wp2_with fail
 refine y.o.mono ?_;rintro e u ⟨P,rfl,j,g⟩;have H:=ZZ g;have i:=ZZ (ZlU P (Qk d) 1 u (j.rd HI.o))
 obtain⟨a1,n1,c1,aa⟩:∃ a n c,P=.slice a n c:=by
  obtain⟨a,c,hh⟩:=j.shape;exact⟨a,_,c,hh⟩
 subst aa;have E:Hid (Ql (fun k=>¬ K k) w u):=ZZ (Ql.ofBelow g)
 obtain⟨⟨d0,-⟩,-⟩:=(l.o.below g).cells;clear j g y Q;by_cases b:1 ∈ Qk d
 ·rw[zah b] at i
  have t:Hid (R=Xm (fun d=>Qj d 1) (s,d)):=ZZ (by rw[f.o];unfold Yy;rw[zab b])
  have A:=ZZ (q.o u H.o);rw[<-t.o] at A;clear b f q
  go_wp2_with fail
  refine i.o.mono ?_;rintro e W2 ⟨rfl,rfl⟩
  go_wp2_with fail
  refine A.o.mono ?_;rintro e W3 ⟨rfl,z,G⟩;have C:=ZZ (And.intro z G);clear z G;go_wp2;go_ret;exact⟨rfl,C.o.1,E.o.trans C.o.2 (fun _ _ h=>h)⟩
 ·rw[zae b] at i
  have t:Hid (R=((s,d),0)):=ZZ (by rw[f.o];unfold Yy;rw[zaa b])
  clear b f q
  go_wp2_with fail
  refine i.o.mono ?_;rintro e W2 ⟨rfl,rfl⟩;go_wp2;go_ret;rw[t.o];exact⟨rfl,(l.o.below H.o).mono (by omega) zL,E.o⟩
theorem ZpK (w:World) (h:SD K w pd p s d N T) (g:∀ k,K k->k<w.heap.size) (n:w.cell? ⟨R,0,none⟩=some (ptr p)):
 Calls prog 58 #[.pointer (some ⟨R,0,none⟩)] w fun e w'=>Jz K w pd p (Xm (fun d=>X3 d 1) (s,d)) (N+2) T e w':=by
 have a:=ZZ (h.step (fun d=>X3 d 1) g (fun F j _=>ZqM 1 ⟨by decide,by decide⟩ _ j))
 obtain⟨⟨l,-⟩,-⟩:=h.cells;obtain⟨r,f⟩:=zgy (Xm (fun d=>X3 d 1) (s,d))
 rw[<-f] at a ⊢;clear h g f
 go_enter func58,ntmps58
 go_wp2_with fail
 refine a.o.mono ?_;rintro e m ⟨rfl,b,c⟩;have i:=ZZ (And.intro b c);clear b c;go_wp2;go_ret;exact⟨rfl,i.o⟩
theorem ZpL (w:World) (h:SD K w pd p s d N T) (E:∀ k,K k->k<w.heap.size) (J:w.cell? ⟨R,0,none⟩=some (ptr p)) (B:K R) (y:N<=1000000) (S:T<=1000000000):
 Calls prog 60 #[.pointer (some ⟨R,0,none⟩)] w fun e w'=>Jz K w pd p (Gs (s,d)) (N+2) T e w':=by
 have t:=ZZ h;have i:=ZZ E;have v:=ZZ B
 have aa:Hid (∀ W,Below w.heap.size w W->Calls prog 50 #[ptr p,.int .i64 3] W fun e w'=>e=.returned (.int .i64 (Xs d 3))∧Below w.heap.size w w'):=ZZ (fun W b=>by
  obtain⟨F,M,I,L,h1,U,-⟩:=t.o.below b;refine(Zgn 3 W U h1 y (by decide) (by decide)).mono ?_
  rintro e w' ⟨rfl,f⟩
  exact⟨rfl,b.trans (f.mono b.size)⟩)
 have x:Hid (I64 (Xs d 3)):=ZZ (by
  obtain⟨F,M,I,L,⟨L1,g1,Y,-⟩,-⟩:=h;have f:∀ n ∈ Xk (Qk d) 3,0<=n∧n<1048576:=fun n j=>Zbg Y n (zax.1 j).1
  unfold Xs;generalize Xk (Qk d) 3=l at f ⊢;by_cases P:l.length=0
  ·rw[zaj P]
   exact⟨by decide,by decide⟩
  ·have e:l.getD (l.length-1) (3-2)=l[l.length-1]'(by omega):=by simp[List.getD,show l.length-1<l.length by omega]
   have:=f _ (getElem_mem (show l.length-1<l.length by omega))
   rw[e]
   exact⟨by omega,by omega⟩)
 have H:Hid (∀ W,Below w.heap.size w W->Calls prog 61 #[ptr pd,.int .i64 1,.int .i64 (Xs d 3)] W fun e w'=>Jz K W pd p (Gs (s,d)) (N+2) T e w'):=ZZ (fun W b=>(t.o.below b).step (fun d=>Ji d 1 (Xs d 3)) (fun k O=>zav (i.o k O) b.size) (fun F Q _=>ZrZ 1 (Xs d 3) ⟨by decide,by decide⟩ x.o _ Q y S))
 have c:Hid (∀ W,Below w.heap.size w W->W.cell? ⟨R,0,none⟩=some (ptr p)∧W.cell? ⟨p,0,none⟩=some (ptr pd)):=ZZ (fun W b=>by
  obtain⟨⟨u,-⟩,-⟩:=(t.o.below b).cells
  exact⟨(b.cell (p:=⟨R,0,none⟩) (i.o R v.o)).trans J,u⟩)
 have X:Hid (∀ W W' (r:SDk × Int),Below w.heap.size w W->SD K W' pd p r.1.1 r.1.2 (N+2) T->Ql (fun k=>¬ K k) W W'->W'.cell? ⟨R,0,none⟩=some (ptr p)∧W'.cell? ⟨p,0,none⟩=some (ptr pd)):=ZZ (fun W W' (r:SDk × Int) b hs ho=>by
  obtain⟨⟨u,-⟩,-⟩:=hs.cells
  exact⟨(zb2 (a:=⟨R,0,none⟩) (ho.block R (zav (i.o R v.o) b.size) (fun j=>j v.o))).trans (c.o W b).1,u⟩)
 have z:Hid (Below w.heap.size w w.drew):=ZZ (zac _ _).drew;obtain⟨c9,c0⟩:=c.o w (zac _ _);obtain⟨r,C⟩:=zgy (Gs (s,d));rw[<-C] at H ⊢;generalize Xs d 3=nn at *;clear h E C J B x
 go_enter func60,ntmps60
 go_upto_region 1 with fail
 go_region_held(fun W=>W.cell? ⟨R,0,none⟩=some (ptr p)∧W.cell? ⟨p,0,none⟩=some (ptr pd))
  (first | (with_reducible exact c.o _ z.o) | (with_reducible exact c.o _ g.o) | (with_reducible exact Z.o))
  (first
   | (go_at_call 50;refine(aa.o _ z.o).mono ?_;rintro e G ⟨rfl,D⟩;have g:=ZZ D;clear D)
   | (go_at_call 61;refine(H.o G g.o).mono ?_;rintro e V ⟨rfl,m,q⟩;have A:=ZZ (And.intro m q);have Z:=ZZ (X.o G V r g.o m q);clear m q))
 all_goals
  go_wp2;go_ret;exact⟨rfl,A.o.1,(Ql.ofBelow g.o).trans A.o.2 (fun _ _ h=>h)⟩
theorem ZfQ (h:q<l.length):l.take (q+1)=l.take q++[l.getD q Qi]:=by
 rw[take_add_one];simp[List.getD,h]
theorem ZnI:∀ (l:List Rec) (i:Int) (j:Nat),Xl i l->j<l.length->(l.getD j Qi).idx=i+j
 | r::t,i,0,h,_=>by
  have:=h.1;simp[List.getD,this]
 | r::t,i,j+1,h,hj=>by
  have:=ZnI t (i+1) j h.2 (by simpa using hj)
  simp only [List.getD,List.getElem?_cons_succ] at this ⊢;rw[this];omega
theorem ZfR:∀ (l:List Rec) (i:Int) (r:Rec),Xl i (l++[r])↔Xl i l∧r.idx=i+l.length
 | [],i,r=>by simp[Xl]
 | s::t,i,r=>by
  rw[zck,Xl,Xl,ZfR t (i+1) r,length_cons,and_assoc];constructor
  ·rintro⟨h1,h2,h3⟩
   exact⟨h1,h2,by omega⟩
  ·rintro⟨h1,h2,h3⟩
   exact⟨h1,h2,by omega⟩
theorem ZkC:∀ (l:List Rec) (i:Int) (k:Nat),Xl i l->Xl i (l.take k)
 | _,_,0,_=>by simp[Xl]
 | [],_,k+1,_=>by simp[Xl]
 | r::t,i,k+1,h=>by
  rw[zdg];exact⟨h.1,ZkC t (i+1) k h.2⟩
def ZjQ (l:List Rec) (k:Nat):Prop:=(∀ r ∈ l.take k,Qz r)∧Xl (l.headD Qi).idx (l.take k)
theorem ZsJ (l:List Rec):ZjQ l 0:=⟨fun r h=>by simp at h,by simp[Xl]⟩
theorem ZsK (b:k<l.length):ZjQ l (k+1)↔ZjQ l k∧Qz (l.getD k Qi)∧(l.getD k Qi).idx=(l.headD Qi).idx+k:=by
 unfold ZjQ;rw[ZfQ b,ZfR];have c:(l.take k).length=k:=by simp;omega
 rw[c];constructor
 ·rintro⟨h1,h2,h3⟩
  exact⟨⟨fun r a=>h1 r (by simp[a]),h2⟩,h1 _ (by simp),h3⟩
 ·rintro⟨⟨h1,h2⟩,h3,h4⟩
  refine⟨fun r a=>?_,h2,h4⟩
  rcases zaw.1 a with h | h
  ·exact h1 r h
  ·simp only [zaq] at h
   rw[h];exact h3
theorem Zvy (h:ZjQ l l.length) (a:1<=l.length) (b:l.length<=256):Yc l:=by
 unfold ZjQ at h;rw[take_length] at h;exact⟨a,b,h.1,h.2⟩
theorem Yc.part (h:Yc l) (k:Nat):ZjQ l k:=⟨fun r a=>h.2.2.1 r (zbq a),ZkC l _ k h.2.2.2⟩
theorem Zgr {o:Opn} (h:Ge o):(X6 o).length<=30:=by
 have b:=Zwv (ZaM h).1;have e:=Zwv (ZaM h).2;have d:0<=o.code:=h.1;have c:o.code<=10:=h.2.1;have a:=Gh (n:=o.code.toNat) (by omega)
 unfold X6;rw[length_append,length_append];omega
theorem ZkD {b:List Rec} (d:∀ r ∈ b,Qz r) {r:Rec} (a:Qz r):(Zf b r).length<=60:=by
 have e:=Zeu d a;have c:=ZaX a;have g:=Zgr a.1;obtain⟨_,_,_,_,_,i,l,_⟩:=a;have j:=Gh (n:=r.proc.toNat) (by omega)
 have k:=Zwv e;have f:=Zwv c;unfold Zf;simp only [length_append];omega
theorem ZnJ:∀ (l a:List Rec),(∀ r ∈ a,Qz r)->(∀ r ∈ l,Qz r)->(Yg a l).length<=60*l.length
 | [],_,_,_=>by simp[Yg]
 | r::t,a,hp,hl=>by
  have c:=ZkD hp (hl r (by simp))
  have d:=ZnJ t (a++[r]) (fun s b=>by
   rcases zaw.1 b with h | h
   ·exact hp s h
   ·simp at h;rw[h];exact hl r (by simp)) (fun s b=>hl s (by simp[b]))
  rw[Yg,length_append,length_cons];omega
def ZlV (w:World) (l:List Rec) (e:Ending) (w':World):Prop:=
 ∃ v',e=.returned (.tuple #[v',.int .i64 (if Yc l then 0 else 1)])∧Own w' w.heap.size v' (if Yc l then X9 l else[])∧Below w.heap.size w w'
theorem Below.allocs {a:World} (h:Below a.heap.size a w) (X:Obj):Below a.heap.size a (w.alloc X):=h.alloc h.size X
theorem Zxu (h:n<128):Lib.uvarint n=[n.toUInt8]:=zer h
theorem ZfS {v:Nat} (p:1<=v) (l:v<=3) (j:k<6) (g:f<4611686018427387904):Z0 (Xq v k f)=.ok (v,k,f):=by
 have n:=zci v;have q:=zci k;have m:=zci f
 have d:Qb ((Xq v k f).drop 1)=(v,(Lib.uvarint v).length):=by
  unfold Xq;rw[ze4,zgw];exact Q4 _ _ (by omega)
 have a:(Xq v k f).drop (1+(Lib.uvarint v).length)=Lib.uvarint k++Lib.uvarint f:=by
  unfold Xq;rw[Nat.add_comm,ze4,drop_left]
 have c:Qb ((Xq v k f).drop (1+(Lib.uvarint v).length))=(k,(Lib.uvarint k).length):=by
  rw[a];exact Q4 _ _ (by omega)
 have e:(Xq v k f).drop (1+(Lib.uvarint v).length+(Lib.uvarint k).length)=Lib.uvarint f:=by
  rw[<-drop_drop,a,drop_left]
 have b:Qb ((Xq v k f).drop (1+(Lib.uvarint v).length+(Lib.uvarint k).length))=(f,(Lib.uvarint f).length):=by
  rw[e];have:=Q4 f [] g;rw[zcx] at this;exact this
 have i:(Xq v k f).length=1+(Lib.uvarint v).length+(Lib.uvarint k).length+(Lib.uvarint f).length:=by
  unfold Xq;simp only [length_cons,length_append];omega
 unfold Z0;simp only [d,c,b];rw[zaa (by rintro(h | h);exact absurd h (by unfold Xq;simp);exact h rfl),zaa (by omega),zaa (by omega),zaa (by omega)]
theorem ZcP {v:Nat} (b:v<=3) (a:k<6) (e:f<4611686018427387904):(Xq v k f).length<=40:=by
 have d:(Lib.uvarint v).length<=10:=zay (by omega)
 have g:(Lib.uvarint k).length<=10:=zay (by omega)
 have c:(Lib.uvarint f).length<=10:=zay (by omega)
 unfold Xq;simp only [length_cons,length_append];omega
theorem ZpM {d:List Rec} (g:∀ r ∈ d,Qz r) {r:Rec} (e:Qz r):(Zf d r).length<=60:=by
 have i:=Zeu g e;have f:=ZaX e;obtain⟨c,_,_,_,_,p,l,_⟩:=e;have n:(Lib.uvarint r.proc.toNat).length<=10:=zay (by omega)
 have t:(Lib.uvarint (Lib.zigzag (r.seq-Q7 d r.proc))).length<=10:=zay (Zbd i);have j:(Lib.uvarint r.op.code.toNat).length<=10:=zay (by have:=c.1;have:=c.2.1;omega)
 have k:(Lib.uvarint (Lib.zigzag r.op.a)).length<=10:=zay (Zbd (ZaM c).1);have m:(Lib.uvarint (Lib.zigzag r.op.b)).length<=10:=zay (Zbd (ZaM c).2);have q:(Lib.uvarint (Lib.zigzag r.resp)).length<=10:=zay (Zbd f);unfold Zf X6;simp only [length_append];omega
theorem ZfT:∀ (l a:List Rec),(∀ r ∈ a,Qz r)->(∀ r ∈ l,Qz r)->(Yg a l).length<=60*l.length
 | [],_,_,_=>by simp[Yg]
 | r::t,a,hp,hl=>by
  have c:=hl r (by simp)
  have d:=ZpM hp c
  have e:=ZfT t (a++[r]) (fun s b=>by
   rcases zaw.1 b with h | h
   ·exact hp s h
   ·rw[zaq.1 h];exact c) (fun s b=>hl s (by simp[b]))
  rw[Yg,length_append,length_cons];omega
theorem Zcl {d:List UInt8} {v:Nat} (h:Z0 d=.ok (v,k,f)):d=Xq v k f∧1<=v∧v<=3∧k<6∧f<4611686018427387904:=by
 unfold Z0 at h;simp only at h;split at h
 ·cases h
 rename_i g
 split at h
 ·cases h
 rename_i B
 split at h
 ·cases h
 rename_i q
 split at h
 ·cases h
 rename_i y
 simp only [Except.ok.injEq,zca] at h;obtain⟨u,w,n⟩:=h;have e:=Z2 (l:=d.drop 1) (by omega)
 have b:=Z2 (l:=d.drop (1+(Qb (d.drop 1)).2)) (by omega)
 have a:=Z2 (l:=d.drop (1+(Qb (d.drop 1)).2+(Qb (d.drop (1+(Qb (d.drop 1)).2))).2)) (by omega)
 have z:f<4611686018427387904:=by
  rw[<-n];rcases Xf (d.drop (1+(Qb (d.drop 1)).2+(Qb (d.drop (1+(Qb (d.drop 1)).2))).2)) with h | h
  ·rw[h];decide
  ·exact h.1
 rw[u] at e q;rw[w] at b y;rw[n] at a;generalize (Qb (d.drop 1)).2=i at *;generalize (Qb (d.drop (1+i))).2=j at *;generalize (Qb (d.drop (1+i+j))).2=m at *;refine⟨?_,by omega,by omega,by omega,z⟩
 cases d with
 | nil=>exact absurd (.inl rfl) g
 | cons c t=>
  have A:c=108:=by
   have:=fun h=>g (.inr h)
   simpa using zbv.1 this
  have x:(c::t).drop 1=t:=rfl;have p:(c::t).drop (1+i)=t.drop i:=by rw[Nat.add_comm,ze4]
  have C:(c::t).drop (1+i+j)=(t.drop i).drop j:=by rw[<-drop_drop,p]
  rw[x] at e;rw[p] at b;rw[C] at a
  have D:m=((t.drop i).drop j).length:=by
   have:1+i+j+m=(c::t).length:=zbv.1 (fun h=>B (.inr (.inr (.inr h))))
   rw[length_cons] at this;rw[length_drop,length_drop];omega
  rw[D,take_length] at a;unfold Xq;rw[A,e,b,a,zbz,zbz]
def Zgs (k f:Int):Prop:=0<=k∧k<6∧0<=f∧f<4611686018427387904
instance (k f:Int):Decidable (Zgs k f):=by unfold Zgs;infer_instance
def Jj (v k f:Int):Int:=if 1<=v∧v<=3 then(if Zgs k f then 0 else 1) else 6
def ZgI (v k f:Int):List UInt8:=if 1<=v∧v<=3 then(if Zgs k f then Qd (Xq v.toNat k.toNat f.toNat) else[]) else[]
def Zrb (w:World) (v k f:Int) (e:Ending) (w':World):Prop:=
 ∃ v',e=.returned (.tuple #[v',.int .i64 (Jj v k f)])∧Own w' w.heap.size v' (ZgI v k f)∧Below w.heap.size w w'
theorem Rd.byte (w:World) (c:UInt8):Rd (w.alloc (.cells #[.int .u8 c.toNat] 5)) (.slice (some ⟨w.heap.size,0,none⟩) 1 1) [c]:=by
 refine⟨some ⟨w.heap.size,0,none⟩,1,rfl,zat _,by unfold maxLen;omega,(fun h=>by cases h),.inr ⟨w.heap.size,0,rfl,fun j a=>?_⟩⟩
 have e:j=0:=by simpa using a
 subst e;rw[zam _ w.heap.size 0 _ 5 (0,0) (zaf w _)];rfl
theorem ZlW {l:List UInt8} (h:l.length<=1048576):Zyk l=(Qd l,0):=by
 unfold Zyk;rw[zab h]
theorem ZsL (h:q<L.length):L.take (q+1)=L.take q++[L.getD q []]:=by
 rw[take_add_one];simp[List.getD,h]
theorem RdL.at {ao:Option Addr} {cap:Nat} (h:RdL w (.slice ao n cap) L) (k:Nat) (c:k<L.length):
 ∃ b a x,ao=some ⟨b,a,none⟩∧(∀ W,Below w.heap.size w W->W.cell? ⟨b,a+k,none⟩=some x)∧∀ W,Below w.heap.size w W->Rd W x (L.getD k []):=by
 obtain⟨t,u,e,_,_,_,m⟩:=h;simp only [za1] at e;obtain⟨rfl,_,rfl⟩:=e;rcases m with i | ⟨b,a,g,q⟩
 ·rw[i] at c;simp at c
 ·obtain⟨x,f,l⟩:=q k c
  have j:b<w.heap.size:=zau w ⟨b,a+k,none⟩ f;exact⟨b,a,x,g,fun W d=>(d.cell (p:=⟨b,a+k,none⟩) j).trans f,fun W d=>l.below d zL⟩
theorem Zcu:∀ (L:List (List UInt8)) (k:Nat),(L.take k).flatten.length<=L.flatten.length
 | [],k=>by simp
 | x::L,0=>by simp
 | x::L,k+1=>by
  have:=Zcu L k;rw[zdg,flatten_cons,flatten_cons,length_append,length_append];omega
theorem Zrc (h:q<L.length):L.getD q [] ∈ L:=by
 have e:L.getD q []=L[q]:=by simp[List.getD,h]
 rw[e];exact getElem_mem h
theorem Zdw (B:List (List UInt8)):(B.map Qd).flatten=Qf B:=by
 unfold Qf;rw[List.flatMap_def]
theorem Zxv (l:List UInt8):(Qb l).1<4611686018427387904:=by
 rcases Xf l with h | h
 ·rw[h];decide
 ·exact h.1
theorem Zxw (W:World) (ao:Option Addr) (cap:Nat) (l:List UInt8) (b:Rd W (.slice ao l.length cap) l) (n:Nat) (f:n<=l.length):Rd W (.slice (if cap=n then ao else Option.map (fun x=>x.add n) ao) (l.length-n) (cap-n)) (l.drop n):=by
 have d:l.length<=cap:=by
  obtain⟨a,c,e,h,-⟩:=b;simp only [za1] at e;omega
 have h:=b.mid n l.length cap (by omega) (by omega) (by omega) (by omega)
 rw[zbc (by rw[length_drop];omega)] at h
 simpa[sliced] using h
theorem ZpN (W:World) (ao:Option Addr) (l:List UInt8) (cap:Nat) (_hlc:l.length<=cap) (i:Int) (n:Nat) (a:i=(n:Int)) (b:n<=l.length):
 (Instr.sliceAt 53 (.slice ao l.length cap) (some (.int .i64 i)) none none).run prog W=.ok (sliced ao n l.length cap 1) W:=by
 subst a;rw[zb5 W 53 _ _ _ _ Xu,zfi W 53 ao l.length cap Xu .i64 (n:Int) (by omega) (by omega),Jo,Zce]
 rfl
def ZaP (w:World) (b:List UInt8) (e:Ending) (w':World):Prop:=
 ∃ (vl:Value) (l:List Rec) (n:Int),e=.returned (.tuple #[vl,.int .i64 n])∧RdR w' vl l∧DecB b l n∧Below w.heap.size w w'
theorem ZaP.none (h:∀ a,Yc a->X9 a≠b) (c:Below w.heap.size w w'):ZaP w b (.returned (.tuple #[.slice none 0 0,.int .i64 3])) w':=
 ⟨_,[],3,rfl,RdR.nil _,.inr ⟨rfl,rfl,h⟩,c⟩
theorem ZsM (h:Yc l):Qz (l.headD Qi):=by
 obtain⟨a,_,b,_⟩:=h
 match l,a with
 | r::u,_=>exact b r (by simp)
theorem ZpO (h:Yc l) {b:List UInt8} (c:X9 l=b):
 ((Qb b).1:Int)=(l.headD Qi).idx∧(Qb b).2≠0∧(Qb (b.drop (Qb b).2)).1=l.length∧(Qb (b.drop (Qb b).2)).2≠0∧b.drop ((Qb b).2+(Qb (b.drop (Qb b).2)).2)=Yg [] l:=by
 obtain⟨_,f,g,_⟩:=ZsM h;have i:=h.2.1;subst c;have e:Qb (X9 l)=((l.headD Qi).idx.toNat,(Lib.uvarint (l.headD Qi).idx.toNat).length):=Q4 _ _ (by omega)
 have a:(X9 l).drop (Lib.uvarint (l.headD Qi).idx.toNat).length=Lib.uvarint l.length++Yg [] l:=by
  unfold X9;rw[drop_left]
 have d:=Q4 l.length (Yg [] l) (by omega)
 rw[e];simp only;rw[a,d];refine⟨by omega,J2 _,rfl,J2 _,?_⟩
 rw[<-drop_drop,a,drop_left]
theorem Zym (w:World) (ao:Option Addr) (l:List UInt8) (cap:Nat) (d:Rd w (.slice ao l.length cap) l) (n:Nat) (b:n<=l.length):
 ∃ a c,Rd w (.slice a (l.drop n).length c) (l.drop n)∧∀ i:Int,i=(n:Int)->∀ W,(Instr.sliceAt 53 (.slice ao l.length cap) (some (.int .i64 i)) none none).run prog W=.ok (.slice a (l.drop n).length c) W:=by
 have h:=Zxw w ao cap l d n b
 have f:l.length<=cap:=by
  obtain⟨a,c,e,h,-⟩:=d;simp only [za1] at e;omega
 refine⟨_,_,by rw[length_drop];exact h,fun i g W=>?_⟩
 rw[ZpN W ao l cap f i n g b,length_drop];simp[sliced]
theorem ZkE {d:List UInt8} (h:d=[]∨d.getD 0 0≠108):Z0 d=.error 3:=by
 unfold Z0;rw[zab h]
theorem ZsN {d:List UInt8} (h:¬ (d=[]∨d.getD 0 0≠108)) {v i k j f m:Nat} (b:Qb (d.drop 1)=(v,i)) (c:Qb (d.drop (1+i))=(k,j)) (a:Qb (d.drop (1+i+j))=(f,m)):
 Z0 d=if i=0∨j=0∨m=0∨1+i+j+m≠d.length then .error 3 else if v<1∨3<v then .error 6 else if 6<=k then .error 1 else .ok (v,k,f):=by
 unfold Z0;rw[zaa h,b];simp only;rw[c];simp only;rw[a]
theorem ZaQ {r:Rec} (h:Qz r):Zcx r:=by
 have c:=ZaX h;obtain⟨a,f,e,d,g,j,i,_,_⟩:=h;have b:=ZaM a;exact⟨⟨by omega,by omega⟩,⟨by omega,by omega⟩,⟨by omega,by omega⟩,⟨⟨by have:=a.1;omega,by have:=a.2.1;omega⟩,b.1,b.2⟩,c⟩
def ZpP (L:List (List UInt8)) (v k f:Nat):Seg × Nat × Int:=(⟨k,f,(J4 v f L.tail [] 16).1⟩,1+(J4 v f L.tail [] 16).2.1,(J4 v f L.tail [] 16).2.2)
theorem Xj.set (h:Xj w C v l) (R i:Nat) (a:R<C) (x:Value):Xj (w.setCell ⟨R,i,none⟩ x) C v l:=zbx h a x
theorem Z3 {b:World} (h:Below C b w) (R:Nat) (a:C<=R) (e d c:Value):Below C b (((w.setCell ⟨R,0,none⟩ e).setCell ⟨R,1,none⟩ d).setCell ⟨R,2,none⟩ c):=
 ((h.setCell a _).setCell a _).setCell a _
theorem ZsO (v:Nat) (first:Int) (d:List UInt8) (b:List (List UInt8)) (a:List Rec) (last:Nat):
 J4 v first (d::b) a last=match ZqH v d (first+a.length) with
  | none=>(a,0,3)
  | some r=>if last<16 then(a,0,3) else if 4096<a.length+r.length then(a,0,5)
   else((J4 v first b (a++r) r.length).1,(J4 v first b (a++r) r.length).2.1+1,(J4 v first b (a++r) r.length).2.2):=by
 rw[J4]
 cases ZqH v d (first+a.length) <;> rfl
theorem drop_one {j:Nat} (a:j<L.length):L.drop j=L.getD j []::L.drop (j+1):=by
 rw[zdr a];simp[List.getD,a]
theorem Zcm:∀ (n:Nat) (b:List UInt8),b.length<=n->Qf (Qp b).1=b.take (Qp b).2.1∧∀ x ∈ (Qp b).1,x.length<=1048576
 | 0,b,hn=>by
  have e:b=[]:=zaj (by omega)
  subst e;rw[ZbL];exact⟨rfl,by simp⟩
 | n+1,b,hn=>by
  by_cases e:b=[]
  ·subst e
   rw[ZbL];exact⟨rfl,by simp⟩
  by_cases a:(X8 b).2.2=0
  ·obtain⟨g,i,k,c⟩:=Zlm a
   have j:=ZbK a;rw[Zca e a];obtain⟨f,d⟩:=Zcm n (b.drop (X8 b).2.1) (by rw[length_drop];omega)
   refine⟨?_,fun x hx=>?_⟩
   ·show Qf ((X8 b).1::(Qp (b.drop (X8 b).2.1)).1)=b.take ((X8 b).2.1+(Qp (b.drop (X8 b).2.1)).2.1)
    rw[Q8,f,<-c,zgc]
   ·rcases za6.1 hx with hx | hx
    ·rw[hx];exact g
    ·exact d x hx
  ·rw[ZbZ e a]
   exact⟨rfl,by simp⟩
theorem Zgt:∀ (L:List (List UInt8)) (x:List UInt8),x ∈ L->x.length+5<=(Qf L).length
 | y::L,x,hx=>by
  rw[Q8,length_append];rcases za6.1 hx with h | h
  ·rw[h,Q9]
   have:=zci y.length;omega
  ·have:=Zgt L x h
   omega
theorem ZeP:∀ (L:List (List UInt8)),5*L.length<=(Qf L).length
 | []=>by simp
 | y::L=>by
  have:=ZeP L;have:=ZoN y;rw[Q8,length_append,length_cons];omega
theorem ZeQ (b:List UInt8):(∀ x ∈ (Qp b).1,x.length<=1048576∧x.length<=b.length)∧5*(Qp b).1.length<=b.length:=by
 obtain⟨c,d⟩:=Zcm _ b zL
 have e:(Qf (Qp b).1).length<=b.length:=by
  rw[c,length_take];omega
 refine⟨fun x a=>⟨d x a,?_⟩,?_⟩
 ·have:=Zgt _ x a
  omega
 ·have:=ZeP (Qp b).1
  omega
theorem Zvz (h:2<=L.length):(L.take (L.length-1)).headD []=L.headD []∧(L.take (L.length-1)).tail=L.tail.dropLast∧L.getLastD []=L.getD (L.length-1) []∧L.headD []=(L.take (L.length-1)).getD 0 []:=by
 match L,h with
 | x::y::t,_=>
  refine⟨rfl,?_,?_,rfl⟩
  ·show((x::y::t).take (t.length+1)).tail=(y::t).dropLast
   rw[zdg,List.tail_cons,List.dropLast_eq_take,length_cons];rfl
  ·rw[List.getLastD_eq_getLast?,List.getLast?_eq_getElem?]
   simp[List.getD]
theorem Zzt (d:2<=L.length):ZzC L=match Z0 ((L.take (L.length-1)).headD []) with
 | .error e=>(Zev,e)
 | .ok (v,k,f)=>if(ZpP (L.take (L.length-1)) v k f).2.2≠0 then(Zev,(ZpP (L.take (L.length-1)) v k f).2.2)
  else if ZzB ((L.take (L.length-1)).headD []) (L.take (L.length-1)).tail=L.getD (L.length-1) [] then((ZpP (L.take (L.length-1)) v k f).1,0) else(Zev,16):=by
 obtain⟨c,a,b,_⟩:=Zvz d;unfold ZzC ZpP;rw[zaa (by omega),c,a,b]
 cases Z0 (L.headD []) <;> rfl
theorem ZvA (w:World) (ao:Option Addr) (L:List (List UInt8)) (m cap:Nat) (f:m=L.length) (b:RdL w (.slice ao m cap) L) (n:Nat) (g:n<=L.length):
 ∃ a c,RdL w (.slice a (L.drop n).length c) (L.drop n)∧∀ i:Int,i=(n:Int)->∀ W,(Instr.sliceAt 144 (.slice ao m cap) (some (.int .i64 i)) none none).run prog W=.ok (.slice a (L.drop n).length c) W:=by
 subst f
 have d:L.length<=cap:=by
  obtain⟨a,c,e,h,-⟩:=b;simp only [za1] at e;omega
 have h:=b.mid n L.length cap g zL d zL;rw[zbc (by rw[length_drop];omega)] at h
 unfold sliced at h;refine⟨_,_,by rw[length_drop];exact h,fun i j W=>?_⟩
 subst j;rw[zb5 W 144 _ _ _ _ Zdh,zfi W 144 ao L.length cap Zdh .i64 (n:Int) (by omega) (by omega),Zim,Zkv,length_drop]
 rfl
theorem ZsP (w:World) (ao:Option Addr) (L:List (List UInt8)) (m cap:Nat) (d:m=L.length) (b:RdL w (.slice ao m cap) L) (n:Nat) (f:n<=L.length):
 RdL w (.slice ao n cap) (L.take n)∧∀ i:Int,i=(n:Int)->∀ W,(Instr.sliceAt 144 (.slice ao m cap) none (some (.int .i64 i)) none).run prog W=.ok (.slice ao n cap) W:=by
 subst d
 have j:L.length<=cap:=by
  obtain⟨a,c,e,h,-⟩:=b;simp only [za1] at e;omega
 refine⟨b.front n f,fun i g W=>?_⟩
 subst g;rw[zb5 W 144 _ _ _ _ Zdh,run_slice_h W 144 ao L.length cap Zdh .i64 (n:Int) (by omega) (by omega),Zim,Zkv]
 show Result.ok (sliced ao 0 n cap 1) W=_;unfold sliced
 have e:(if cap=0 then ao else ao.map (·.add (0*1)))=ao:=by
  split
  ·rfl
  ·cases ao <;> simp[Addr.add]
 rw[e,zef,zef]
theorem Zxx {d:List UInt8} (h:Z0 d=.error x):x≠0:=by
 intro a;rw[a] at h;unfold Z0 at h;simp only at h
 repeat' split at h
 all_goals simp at h
def Zbb (w:World) (b:List UInt8) (e:Ending) (w':World):Prop:=
 ∃ vl,e=.returned (.tuple #[.agg #[.int .i64 (Gv b).1.kind,.int .i64 (Gv b).1.first,vl],.int .i64 ((Gv b).2.1:Nat),.bool (Gv b).2.2])∧RdR w' vl (Gv b).1.recs∧Below w.heap.size w w'
theorem Zbb.fail (h:Gv b=(Zev,0,false)) (a:Below w.heap.size w w'):Zbb w b (.returned (.tuple #[.agg #[.int .i64 0,.int .i64 0,.slice none 0 0],.int .i64 0,.bool false])) w':=by
 refine⟨.slice none 0 0,?_,?_,a⟩
 ·rw[h]
  rfl
 ·rw[h]
  exact RdR.nil _
theorem ZiG (v:Nat) (first:Int):∀ (B:List (List UInt8)) (a:List Rec) (last:Nat),(J4 v first B a last).2.1<=B.length
 | [],a,last=>by rw[J4];simp
 | d::ds,a,last=>by
  rw[ZsO,length_cons]
  cases ZqH v d (first+a.length) with
  | none=>simp
  | some r=>
   simp only;split
   ·simp
   split
   ·simp
   have b:=ZiG v first ds (a++r) r.length;simp only;omega
theorem ZeR (L:List (List UInt8)) (c:Nat):(Qf (L.take c)).length<=(Qf L).length:=by
 have h:=Zcu (L.map Qd) c;rw[Zdw,<-zgd,Zdw] at h;exact h
theorem ZsQ (h:(Qp b).1≠[]):Gv b=match Z0 ((Qp b).1.headD []) with
 | .error _=>(Zev,0,false)
 | .ok (v,k,f)=>((ZpP (Qp b).1 v k f).1,(Qf ((Qp b).1.take (ZpP (Qp b).1 v k f).2.1)).length,true):=by
 unfold Gv ZwK;rw[zaa h]
 cases Z0 ((Qp b).1.headD []) <;> rfl
theorem Rd.drewN {l:List UInt8} (h:Rd w v l) (n:Nat):Rd (w.drewN n) v l:=h.below (Xo (zac _ w) n) zL
theorem ZAq (w:World) (v:Value) (l:List UInt8) (d:Rd w v l) (K N:Int) (k n:Nat) (m:K=k) (p:N=n) (h:k+n+4<=l.length):
 ∃ e c f,(∀ q,(Instr.sliceAt 53 v none (some (.int .i64 (K+N))) (some (.int .i64 (K+N)))).run prog (w.drewN q)=.ok e (w.drewN q))∧
  (∀ q,(Instr.sliceAt 53 v (some (.int .i64 K)) (some (.int .i64 (K+N))) (some (.int .i64 (K+N)))).run prog (w.drewN q)=.ok c (w.drewN q))∧
  (∀ q,(Instr.sliceAt 53 v (some (.int .i64 (K+N))) (some (.int .i64 (K+N+4))) (some (.int .i64 (K+N+4)))).run prog (w.drewN q)=.ok f (w.drewN q))∧
  Rd w e (l.take (k+n))∧Rd w c ((l.drop k).take n)∧Rd w f ((l.drop (k+n)).take 4):=by
 have a:=d;obtain⟨ao,cap,rfl,j,_⟩:=d;have b:(K+N).toNat=k+n:=by omega
 have g:K.toNat=k:=by omega
 have i:(K+N+4).toNat=k+n+4:=by omega
 refine⟨sliced ao 0 (k+n) (k+n) 1,sliced ao k (k+n) (k+n) 1,sliced ao (k+n) (k+n+4) (k+n+4) 1,?_,?_,?_,?_,?_,?_⟩
 ·intro q
  rw[zb5 _ 53 _ _ _ _ Xu,run_slice_hm _ 53 ao l.length cap Xu .i64 .i64 (K+N) (K+N) (by omega) (by omega) (by omega),Jo,Zce,b]
  rfl
 ·intro q
  rw[zb5 _ 53 _ _ _ _ Xu,run_slice_lhm _ 53 ao l.length cap Xu .i64 .i64 .i64 K (K+N) (K+N) (by omega) (by omega) (by omega) (by omega),Jo,Zce,b,g]
  rfl
 ·intro q
  rw[zb5 _ 53 _ _ _ _ Xu,run_slice_lhm _ 53 ao l.length cap Xu .i64 .i64 .i64 (K+N) (K+N+4) (K+N+4) (by omega) (by omega) (by omega) (by omega),Jo,Zce,b,i]
  rfl
 ·have:=a.mid 0 (k+n) (k+n) (by omega) (by omega) (by omega) (by omega)
  simpa using this
 ·have:=a.mid k (k+n) (k+n) (by omega) (by omega) (by omega) (by omega)
  rwa [show k+n-k=n by omega] at this
 ·have:=a.mid (k+n) (k+n+4) (k+n+4) (by omega) (by omega) (by omega) (by omega)
  rwa [show k+n+4-(k+n)=4 by omega] at this
theorem ZdV {d:Array Oper} {C:World->Prop} {Q:Act->Prop} {rest:List Oper} {o:Oper} {a:Act} (g:o.guard=none) (x:Operand) (lo c b:Option Operand)
 (j:o.op=.slice 53 x lo c b) (f:∀ w',C w'->∃ q,w'=w.drewN q) (v:Value)
 (i:∀ q,(Instr.sliceAt 53 (a.eval x) (lo.map a.eval) (c.map a.eval) (b.map a.eval)).run prog (w.drewN q)=.ok v (w.drewN q))
 (h:wpQuiet prog d C Q rest (a.put o.dst v)):wpQuiet prog d C Q (o::rest) a:=
 wpQuiet_step fun _ k=>by
  rw[zab (by simp[Region.wanted,g])]
  refine⟨v,fun w' e=>?_,k _ h⟩
  obtain⟨q,rfl⟩:=f w' e;unfold Oper.quietAt execOp;simp only [j,i,zbk,zbn,za7,Oper.quietUpon,and_self]
theorem ZsR (v:Value) (l:List UInt8) (w:World) (u:Rd w v l):
 Calls prog 199 #[v] w fun e w'=>ZdT w l e w':=by
 have HR:=ZZ u;have b:=ZZ (ZyW v l w u);have c:=ZZ (ZcJ v l w u);obtain⟨ao,cap,rfl,aq,J,aD,aE⟩:=u;clear aD aE;have aO:(l.length:Int)<=9223372036854775807:=by unfold maxLen at J;omega
 have aG:=ZZ aq;have aM:=ZZ J;clear aq J;by_cases m:Gn l
 ·have a:=ZZ (ZzG m)
  have D:Hid (decide (Gn l)=true):=zah m;rw[D.o] at b;clear m c
  go_enter func199,ntmps199
  go_wp2_with fail
  refine b.o.mono ?_;rintro e d ⟨rfl,rfl⟩;clear b;go_wp2
  go_ret3
  exact ZdT.refused a.o
 have D:Hid (decide (Gn l)=false):=zae m;rw[D.o] at b;have t:=ZZ m;clear m;have O:=Xf l;obtain⟨n,A⟩:=zgy ((Qb l).1);obtain⟨k,p⟩:=zgy ((Qb l).2);rw[<-A,<-p] at O c;have i:=ZZ A;have j:=ZZ p;have V:=Zsz l
 have aa:(n:Int)<4611686018427387904∧(k:Int)<=l.length∧(k:Int)<=9:=by
  rw[<-p] at V;rcases O with h | h
  ·have I:n=0:=by rw[A,h]
   have h2:k=0:=by rw[p,h]
   omega
  ·omega
 clear V;obtain⟨N,M⟩:∃ N:Int,N=(n:Int):=⟨_,rfl⟩;obtain⟨K,L⟩:∃ K:Int,K=(k:Int):=⟨_,rfl⟩;rw[<-M,<-L] at aa c;obtain⟨aN,aI,V⟩:=aa;have aF:0<=N:=by omega
 have aK:0<=K:=by omega
 have f:=ZZ M;have g:=ZZ L;clear M L;clear O A p;by_cases R:K=0
 ·have a:=ZZ (ZzH t.out (by rw[<-j.o];have:=g.o;omega))
  subst R
  go_enter func199,ntmps199
  go_wp2_with fail
  refine b.o.mono ?_;rintro e d ⟨rfl,rfl⟩;clear b
  go_wp2_with fail
  refine c.o.mono ?_;rintro e d ⟨rfl,rfl⟩;clear c;go_wp2
  go_ret3
  exact ZdT.refused a.o
 have ez:(K == 0)=false:=zad.2 R;have aL:1<=K:=by omega
 have z:=ZZ (show(Qb l).2≠0 by rw[<-j.o];have:=g.o;omega)
 clear R;by_cases c3:1048576<N
 ·have a:=ZZ (ZzI t.out z.out (by rw[<-i.o];have:=f.o;omega))
  go_enter func199,ntmps199
  go_wp2_with fail
  refine b.o.mono ?_;rintro e d ⟨rfl,rfl⟩;clear b
  go_wp2_with fail
  refine c.o.mono ?_;rintro e d ⟨rfl,rfl⟩;clear c;go_wp2
  go_ret3
  exact ZdT.refused a.o
 have H:=ZZ (show ¬ 1048576<(Qb l).1 by rw[<-i.o];have:=f.o;omega)
 by_cases c4:(l.length:Int)<K+N+4
 ·have a:=ZZ (ZzJ t.out z.out H.out (by rw[<-i.o,<-j.o];have:=f.o;have:=g.o;omega))
  go_enter func199,ntmps199
  go_wp2_with fail
  refine b.o.mono ?_;rintro e d ⟨rfl,rfl⟩;clear b
  go_wp2_with fail
  refine c.o.mono ?_;rintro e d ⟨rfl,rfl⟩;clear c;go_wp2
  go_ret3
  exact ZdT.refused a.o
 have C4:=ZZ (show ¬ l.length<(Qb l).2+4+(Qb l).1 by rw[<-i.o,<-j.o];have:=f.o;have:=g.o;omega)
 have G:Hid (∀ v w,Rd w v (l.take (k+n))->Calls prog 136 #[v] w fun e w'=>e=.returned (.int .u32 (Q2 0 (l.take (k+n)):Nat))∧Below w.heap.size w w'):=fun v w h=>ZlQ v _ w h
 have C:Hid (∀ v w,Rd w v ((l.drop (k+n)).take 4)->Calls prog 161 #[v] w fun e w'=>e=.returned (.int .u64 (Lib.leNat ((l.drop (k+n)).take 4):Nat))∧w'=w):=by
  intro v w h;have:=Zne v _ w h
  rwa [zbc (by simp;omega)] at this
 have P:Hid (Lib.leNat ((l.drop (k+n)).take 4)≠Q2 0 (l.take (k+n))->X8 l=([],0,4)):=fun h=>by
  rw[i.o,j.o] at h;exact ZzK t.out z.out H.out C4.out h
 have F:Hid (Lib.leNat ((l.drop (k+n)).take 4)=Q2 0 (l.take (k+n))->X8 l=((l.drop k).take n,k+4+n,0)):=fun h=>by
  rw[i.o,j.o] at h ⊢;exact ZzL t.out z.out H.out C4.out h
 have hs:=ZmC (l.take (k+n))
 have hq:Lib.leNat ((l.drop (k+n)).take 4)<4294967296:=by
  have I:=Zhx ((l.drop (k+n)).take 4);have e4:((l.drop (k+n)).take 4).length=4:=by have:=f.o;have:=g.o;simp;omega
  rw[e4] at I;exact I
 generalize Q2 0 (l.take (k+n))=s at *;generalize Lib.leNat ((l.drop (k+n)).take 4)=q at *;obtain⟨S,U⟩:∃ S:Int,S=(s:Int):=⟨_,rfl⟩;obtain⟨T,E⟩:∃ T:Int,T=(q:Int):=⟨_,rfl⟩;rw[<-U] at G;rw[<-E] at C;have aH:0<=S:=by omega
 have aJ:S<4294967296:=by omega
 have ab:=ZZ U;have Z:=ZZ E;obtain⟨v1,v2,v3,ae,ac,an,W,au,ad⟩:=ZAq w _ l HR.o K N k n g.o f.o (by have:=f.o;have:=g.o;omega)
 have ap:=ZZ W;have ag:=ZZ au;have af:=ZZ ad;have aj:=ZZ ae;have ai:=ZZ ac;have ak:=ZZ an;clear W au ad ae ac an;clear U E hs hq
 go_enter func199,ntmps199
 go_wp2_with fail
 refine b.o.mono ?_;rintro e d ⟨rfl,rfl⟩;clear b
 go_wp2_with fail
 refine c.o.mono ?_;rintro e d ⟨rfl,rfl⟩;clear c;go_wp2;refine ze3 (by kernel_rfl) (by kernel_rfl) ?_
 repeat (go_big_quiet_step (fail))
 refine ZdV rfl _ _ _ _ rfl (fun _ h=>h) v1 aj.o ?_
 simp only [Act.put,zdl,set_cons_succ,set_cons_zero]
 repeat (go_big_quiet_step (fail))
 refine ZdV rfl _ _ _ _ rfl (fun _ h=>h) v2 ai.o ?_
 simp only [Act.put,zdl,set_cons_succ,set_cons_zero]
 repeat (go_big_quiet_step (fail))
 refine ZdV rfl _ _ _ _ rfl (fun _ h=>h) v3 ak.o ?_
 simp only [Act.put,zdl,set_cons_succ,set_cons_zero]
 repeat (go_big_quiet_step (fail))
 refine zdt ?_;rintro _ ⟨nq,rfl⟩;have am:=ZZ (Xo (zac d.heap.size d) nq);have X:=ZZ (ap.o.drewN nq);have ax:=ZZ (ag.o.drewN nq);have aw:=ZZ (af.o.drewN nq);clear ap ag af aj ai ak
 go_wp2_with fail
 refine(C.o _ _ aw.o).mono ?_;rintro e Y ⟨rfl,rfl⟩;clear C aw
 go_wp2_with fail
 refine(G.o _ _ X.o).mono ?_;rintro e Y ⟨rfl,Q⟩;have B:=ZZ (am.o.trans Q);have az:=ZZ (ax.o.below Q zL);clear G X ax Q am;by_cases y:T=S
 ·have aC:(T != S)=false:=by rw[zbj];exact y
  have a:=ZZ (F.o (by have:=ab.o;have:=Z.o;omega))
  clear y P F;have aA:=ZZ (show((l.drop k).take n).length<=1048576 by have:=f.o;simp;omega)
  have HC:=ZZ (Zvv _ _ Y az.o (by have:=aA.o;omega))
  generalize (l.drop k).take n=x at *
  go_wp2_with fail
  refine HC.o.mono ?_;rintro e w4 ⟨v4,rfl,al,av⟩;have ar:=B.o.size;have ay:=ZZ (al.mono ar);have aB:=ZZ (B.o.trans (av.mono ar));clear al av HC;go_wp2
  go_ret3
  refine⟨v4,?_,by rw[a.o];exact ay.o,aB.o⟩
  rw[a.o];exact Zxm (by show K+N+4=((k+4+n:Nat):Int);have:=f.o;have:=g.o;omega) rfl
 ·have aC:(T != S)=true:=by rw[zbf];exact y
  have a:=ZZ (P.o (by have:=ab.o;have:=Z.o;omega))
  clear y P F;go_wp2
  go_ret3
  refine⟨.slice none 0 0,?_,?_,B.o⟩
  ·rw[a.o];rfl
  ·rw[a.o];exact Own.nil _ _
theorem ZnK (v:Value) (l:List UInt8) (w:World) (z:Rd w v l) (V:l.length<=1000000):
 Calls prog 159 #[v] w fun e w'=>∃ v',e=.returned (.tuple #[v',.int .i64 ((Qp l).2.1:Nat),.int .i64 ((Qp l).2.2:Nat)])∧Zik w' w.heap.size v' (Qp l).1∧Below w.heap.size w w':=by
 have K:=ZZ z;obtain⟨ao,cap,rfl,H,J,O,P⟩:=z;clear O P H J;have I:=ZZ (fun v k w h=>ZsR v (l.drop k) w h)
 go_enter func159,ntmps159
 go_wp2
 go_loopw[5,6] (fun M g wr=>∃ (A:Nat) (L:List (List UInt8)),g=.int .i64 (A:Int)∧Hid (ZuZ l A L)∧Hid (Zik wr w.heap.size M L)∧Hid (Below w.heap.size w wr)) (fun _ g _=>l.length-(intOf g).toNat)
 case atStart=>exact⟨0,[],rfl,ZuZ.start l,Zik.nil _ _,zac _ _⟩
 case round=>
  obtain⟨A,L,rfl,d,F,f⟩:=hrel;have Y:=d.out.2.2;by_cases n:A<l.length
  ·have t:Hid (∃ v',(Instr.sliceAt 53 (.slice ao l.length cap) (some (.int .i64 (A:Int))) none none).run prog wr=.ok v' wr∧Rd wr v' (l.drop A)):=by
    have:=ZhY wr _ l (K.o.below f.out zL) .i64 (A:Int) (by omega) (by omega)
    rwa [za9] at this
   have G:=f.out.size
   go_wp2_with(refine ZfF _ rfl _ _ _ _ rfl _ t.o ?_)
   intro v1 q;have E:=ZZ q;clear q t
   go_wp2_with fail
   refine(I.o _ A _ E.o).mono ?_;rintro e w2 ⟨W,rfl,u,i⟩;have D:=ZZ (u.mono G);have y:=ZZ (F.out.below i zL);have j:=ZZ (f.out.trans (i.mono G));have N:=j.o.size;clear u i E;have p:=ZZ (fun h=>ZbK (l:=l.drop A) h)
   have R:=Zuk (l.drop A);rw[length_drop] at R;by_cases a:(X8 (l.drop A)).2.2=0
   ·have Q:=ZZ (d.out.step n a)
    have X:=p.o a;have aa:=d.out.2.1;rw[a];generalize (X8 (l.drop A)).2.1=m at *;generalize (X8 (l.drop A)).1=x at *;clear a p;obtain⟨a2,Z,rfl,_⟩:=D.o.rd
    go_wp2_with(at_builtin;refine ZeJ _ rfl _ _ rfl w.heap.size _ L rfl y.o _ x rfl D.o (by omega) N ?_)
    intro v3 w3 B C;have T:=ZZ B;have S:=ZZ (j.o.trans C);clear B C;go_wp2;go_roundw
    case rel=>exact⟨A+m,L++[x],by go_num,Q,T,S⟩
    case measure=>simp[intOf];omega
   ·have b:=ZZ (d.out.stop n a)
    clear p;generalize (X8 (l.drop A)).2.2=c at *;have U:((c:Int) != 0)=true:=by rw[zbf];omega
    clear a;go_wp2
    go_ret3
    refine⟨_,?_,by rw[b.o];exact y.o,j.o⟩
    rw[b.o];rfl
  ·have b:=ZZ (d.out.whole n)
   go_wp2
   go_ret3
   refine⟨_,?_,by rw[b.o];exact F.out,f.out⟩
   rw[b.o];rfl
theorem ZyX (v:Value) (l:List UInt8) (w:World) (j:Rd w v l) (k:l.length<=1000000):
 Calls prog 114 #[v] w fun e w'=>∃ v',e=.returned (.tuple #[v',.int .i64 ((Zyl l).2:Nat)])∧RdL w' v' (Zyl l).1∧Below w.heap.size w w':=by
 have d:=ZZ (ZnK v l w j k);clear j
 go_enter func114,ntmps114
 go_wp2_with fail
 refine d.o.mono ?_;rintro e t ⟨q,rfl,i,f⟩;have n:=ZZ i;have g:=ZZ f;clear i f d;by_cases b:(Qp l).2.2=0
 ·have a:Hid (Zyl l=((Qp l).1,0)):=zab b
  rw[b];clear b;generalize (Qp l).2.1=m at *;go_wp2;go_ret2;refine⟨_,?_,by rw[a.o];exact n.o.rd,g.o⟩
  rw[a.o];rfl
 ·have a:Hid (Zyl l=([],(Qp l).2.2)):=zaa b
  generalize (Qp l).2.1=m at *;generalize (Qp l).2.2=c at *;have p:((c:Int) != 0)=true:=by rw[zbf];omega
  clear b;go_wp2;go_ret2;refine⟨_,?_,by rw[a.o];exact RdL.nil _,g.o⟩
  rw[a.o];rfl
end Go.Proofs.YtnahjngbneicaaaGreatDoor
