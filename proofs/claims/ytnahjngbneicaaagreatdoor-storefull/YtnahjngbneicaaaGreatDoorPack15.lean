import Derived.Test.YtnahjngbneicaaaGreatDoorPack14
namespace Go.Proofs.YtnahjngbneicaaaGreatDoor
set_option linter.unusedSimpArgs false
open _root_.Go.Proofs.Tryz
open List (length_append take_of_length_le)
set_option maxRecDepth 100000
variable {d:Dk} {l:List Rec} {kind:Int} {B F base fuel m:Nat} {cs:List Value} {w w':World} {v:Value}
abbrev zf0:=@Nat.le_add_right
abbrev zgl:=@Go.Deep.open_slice
abbrev zgs:=@Go.World.cells?_some
abbrev zg3:=@Go.Deep.add_add
theorem ZAA (n:Nat):1<=(Lib.uvarint n).length:=by
 rw[Lib.uvarint];split <;> simp
theorem ZtJ (a:List Rec) (r:Rec):1<=(Zi a r).length:=by
 unfold Zi;rw[length_append];have:=ZAA r.proc.toNat;omega
theorem Zow:∀ (l a:List Rec),l.length<=(Yl a l).length
 | [],a=>by simp
 | r::t,a=>by
  rw[Yl,length_append,zcb];have:=Zow t (a++[r]);have:=ZtJ a r;omega
theorem Zwm {d:List UInt8} (h:ZdU d=some l):l.length<=d.length:=by
 obtain⟨-,a⟩:=ZfK h;rw[<-a];unfold Yc;rw[length_append,length_append];have:=Zow l [];omega
def ZAb (B:List (List UInt8)):Nat:=(B.map List.length).sum
theorem Zjn (d:List UInt8) (t:List (List UInt8)):ZAb (d::t)=d.length+ZAb t:=by simp[ZAb]
theorem Zjo:∀ L:List (List UInt8),ZAb L<=(Qf L).length
 | []=>zap _
 | x::t=>by
  have a:=Zjo t;have e:Qf (x::t)=Qd x++Qf t:=by simp[Qf]
  rw[Zjn,e,length_append,Xa];omega
theorem ZtK (b:List UInt8):ZAb (Qq b).1<=b.length:=by
 obtain⟨c,-⟩:=Zcl b.length b zL;have a:=Zjo (Qq b).1;rw[c,zb5] at a;omega
theorem Zjp (first:Int):∀ (B:List (List UInt8)) (a:List Rec),(Yu first B a).length<=a.length+ZAb B
 | [],a=>by
  rw[Yu];omega
 | d::t,a=>by
  rw[ZaD,Zjn]
  cases hd:ZdU d with
  | none=>dsimp only;omega
  | some l=>
   dsimp only
   split
   ·have b:=Zjp first t (a++l)
    have:=Zwm hd;rw[length_append] at b;omega
   ·omega
theorem Zfj (first:Int):∀ (B:List (List UInt8)) (a:List Rec),Xn first a->Xn first (Yu first B a)
 | [],a,h=>by
  rw[Yu];exact h
 | d::t,a,h=>by
  rw[ZaD]
  cases hd:ZdU d with
  | none=>exact h
  | some l=>
   dsimp only
   split
   ·rename_i b
    refine Zfj first t (a++l) (G7.2 ⟨h,?_⟩);rw[<-b];exact(ZfK hd).1.2.2.2
   ·exact h
theorem Zox {b:List UInt8} {f:Nat} (h:ZoZ b kind=some (f,l)):Xn f l∧l.length<=b.length:=by
 have a:=ZtK b;rw[Zmz] at h;unfold Zqs at h
 cases hL:(Qq b).1 with
 | nil=>rw[hL] at h;cases h
 | cons H B=>
  rw[hL] at h a
  dsimp only at h
  cases hh:Zbz H kind with
  | none=>rw[hh] at h;cases h
  | some c=>
   rw[hh] at h;have d:=zaq h
   injection d with e1 e2
   subst e1;rw[<-e2];refine⟨Zfj _ B [] trivial,?_⟩;have:=Zjp c B [];rw[Zjn] at a;simp only [zc0] at this;omega
theorem Zoy:∀ (m:Nat) (l:List Nat),l.Nodup->(∀ x ∈ l,x<m)->l.length<=m
 | 0,l,_,h=>by
  cases l with
  | nil=>exact za0 _
  | cons x t=>exact absurd (h x zbp) (zcg _)
 | m+1,l,hd,h=>by
  have f:=Zoy m (l.erase m) (hd.erase m) (fun x a=>by
   have d:=h x (List.mem_of_mem_erase a)
   have c:x≠m:=fun e=>by
    rw[e] at a;exact(List.Nodup.mem_erase_iff hd).1 a |>.1 rfl
   omega)
  have b:l.length<=(l.erase m).length+1:=by
   rw[List.length_erase];split <;> omega
  omega
theorem OkL.few {l:Dir} (h:OkL m l):l.length<=m:=by
 have d:(l.map Prod.snd).Nodup:=by
  unfold List.Nodup;rw[zej];exact h.apart
 have c:=Zoy m (l.map Prod.snd) d (fun x b=>by
  obtain⟨p,a,rfl⟩:=zbm.1 b
  exact(h.may p a).2)
 rwa [zda] at c
structure SzD (d:Dk) (F B:Nat):Prop where
 files:d.files.length<=F
 bytes:∀ x ∈ d.files,x.b.length<=B
theorem SzD.fl {d:Dk} {F B:Nat} (h:SzD d F B) (f:Nat):(fl d.files f).b.length<=B:=by
 by_cases a:f<d.files.length
 ·exact h.bytes _ (ZbI a)
 ·unfold Go.Proofs.YtnahjngbneicaaaGreatDoor.fl
  rw[List.getD,zbw (by omega)]
  exact zap _
theorem SzD.read (h:SzD d F B) (n:Int):(Zu d n).1.length<=B:=by
 unfold Zu;split
 ·exact zap _
 ·split
  ·exact h.fl _
  ·exact zap _
theorem SzD.names (h:SzD d F B) (a:OkD d) (first:Int):(Xm (Qk d) first).length<=F:=by
 refine zau (zdh _ _) ?_;unfold Qk;rw[zda];exact zau a.dir.few h.files
theorem OkG.logOne {d:Dk} {kind:Int} {b:Lgb} (h:OkG b) (n:Int):OkG (logOne d kind b n):=by
 unfold Go.Proofs.YtnahjngbneicaaaGreatDoor.logOne
 cases hs:ZoZ (Zu d n).1 kind with
 | none=>exact h
 | some x=>
  obtain⟨f,l⟩:=x
  dsimp only
  obtain⟨k,g⟩:=Zwl hs;obtain⟨c,-⟩:=Zox hs;split
  ·rename_i a
   have j:=h.start n f (by omega) (by omega) a
   have e:=b.start_next n f h.empty a;refine j.add l ?_ g (by rw[e];exact c) ?_
   ·show(b.pcs++[_]).length≠0
    simp
   ·rw[e]
    by_cases i:l=[]
    ·rw[i]
     simp only [zc0];omega
    ·exact Zdi c g i
  ·exact h
theorem Zoz (a:SzD d F B) (b:Lgb) (n:Int):(logOne d kind b n).recs.length<=b.recs.length+B∧(logOne d kind b n).pcs.length<=b.pcs.length+1:=by
 unfold logOne
 cases hs:ZoZ (Zu d n).1 kind with
 | none=>exact⟨zf0 _ _,zf0 _ _⟩
 | some x=>
  obtain⟨f,l⟩:=x
  dsimp only
  obtain⟨-,c⟩:=Zox hs;have e:=a.read n;split
  ·refine⟨?_,?_⟩
   ·show(b.recs++l).length<=_
    rw[length_append];omega
   ·show(Ze (b.pcs++[_]) l.length).length<=_
    rw[Gf];simp
  ·exact⟨zf0 _ _,zf0 _ _⟩
theorem Zfk (d:Dk) (kind:Int) (l:List Int):∀ q,OkG (Jn d kind l q)
 | 0=>Zre 0 (by decide) (by decide)
 | q+1=>by
  by_cases a:q<l.length
  ·rw[Zge d kind l q a]
   exact(Zfk d kind l q).logOne _
  ·have e:Jn d kind l (q+1)=Jn d kind l q:=by
    unfold Jn;rw[take_of_length_le (by omega),take_of_length_le (by omega)]
   rw[e];exact Zfk d kind l q
theorem Zej {d:Dk} {kind:Int} {F B:Nat} (c:SzD d F B) (l:List Int):∀ q,(Jn d kind l q).recs.length<=min q l.length*B∧(Jn d kind l q).pcs.length<=min q l.length
 | 0=>⟨zap _,zap _⟩
 | q+1=>by
  have b:=Zej (kind:=kind) c l q;by_cases g:q<l.length
  ·rw[Zge d kind l q g]
   have i:=Zoz (kind:=kind) c (Jn d kind l q) (l.getD q 0);have a:min q l.length=q:=by omega
   have f:min (q+1) l.length=q+1:=by omega
   rw[a] at b;rw[f,Nat.succ_mul];omega
  ·have e:Jn d kind l (q+1)=Jn d kind l q:=by
    unfold Jn;rw[take_of_length_le (by omega),take_of_length_le (by omega)]
   have a:min (q+1) l.length=min q l.length:=by omega
   rw[e,a];exact b
theorem OkG.logOk {g:Lgb} (h:OkG g) (e:g.recs.length<=9000000) (d:g.pcs.length<=900000):ZzL g:=by
 have a:=h.top;have c:=h.f0;refine⟨c,?_,e,d,fun p b=>?_⟩
 ·unfold Lgb.next at a
  omega
 ·have:=ZaY h.ch p b
  omega
theorem Zyk (kind:Int) {F B:Nat} (a:SzD d F B) (c:OkD d) (g:F<=900) (f:F*B<=9000000) (q:Nat):ZzL (Jn d kind (Xm (Qk d) 2) q):=by
 have j:=Zej (kind:=kind) a (Xm (Qk d) 2) q;have i:=a.names c 2;have b:min q (Xm (Qk d) 2).length<=F:=by omega
 refine(Zfk d kind _ q).logOk ?_ (by omega)
 have e:min q (Xm (Qk d) 2).length*B<=F*B:=zf5 B b;omega
theorem Zry (d:Dk) (kind:Int):OkG (Jq d kind):=by
 have:=Zfk d kind (Xm (Qk d) 2) (Xm (Qk d) 2).length
 rwa [Zjk d kind _ _ rfl] at this
theorem Zlb (kind:Int) {F B:Nat} (a:SzD d F B) (b:OkD d):(Jq d kind).recs.length<=F*B∧(Jq d kind).pcs.length<=F:=by
 have e:=Zej (kind:=kind) a (Xm (Qk d) 2) (Xm (Qk d) 2).length;rw[Zjk d kind _ _ rfl,Nat.min_self] at e;have c:=a.names b 2;have f:=zf5 B c;unfold Jq;omega
theorem ZtL (b:0<=kind) (c:kind<6):Ym (Gu kind):=by
 have a:kind=0∨kind=1∨kind=2∨kind=3∨kind=4∨kind=5:=by omega
 rcases a with rfl | rfl | rfl | rfl | rfl | rfl <;> decide
theorem Zlc (a:0<=kind) (b:kind<6):Zs (Jd kind):=⟨⟨by show(0:Int)<=0;decide,by show(0:Int)<4611686018427387904;decide⟩,ZtL a b,Gk.zero _⟩
theorem Zjq (b:0<=kind) (c:kind<6):(Jd kind).st.kind=kind:=by
 have a:kind=0∨kind=1∨kind=2∨kind=3∨kind=4∨kind=5:=by omega
 rcases a with rfl | rfl | rfl | rfl | rfl | rfl <;> rfl
theorem Zs.snS {s:Q0} (h:Zs s):SnS s:=⟨h.2.1,h.2.2.tabR⟩
theorem ZgI {d:Dk} {kind:Int}:∀ (l:List Int) (b:List Q0),(∀ x ∈ b,Zs x∧x.st.kind=kind)->b≠[]->(∀ x ∈ l.foldl (Jv d kind) b,Zs x∧x.st.kind=kind)∧l.foldl (Jv d kind) b≠[]
 | [],b,h,h0=>⟨h,h0⟩
 | n::l,b,h,h0=>by
  rw[zd6];refine ZgI l _ ?_ ?_
  ·unfold Jv
   split
   ·rename_i a
    intro x hx;rcases za2.1 hx with hx | hx
    ·exact h x hx
    ·rw[zaw.1 hx]
     exact⟨(Zsj a.1).1,a.2⟩
   ·exact h
  ·unfold Jv
   split
   ·simp
   ·exact h0
theorem Zdt (a:0<=kind) (b:kind<6):(∀ x ∈ Ya d kind,Zs x∧x.st.kind=kind)∧Ya d kind≠[]:=
 ZgI _ _ (fun x c=>by rw[zaw.1 c];exact⟨Zlc a b,Zjq a b⟩) (by simp)
theorem ZtM {l:List Q0} (h:l≠[]):Gc l ∈ l:=by
 unfold Gc;have a:l.length-1<l.length:=by have:=zes.2 h;omega
 rw[List.getD,za4 a];exact zcp _
theorem Zjr (b:0<=kind) (e:kind<6):Zs (Gc (Ya d kind))∧(Gc (Ya d kind)).st.kind=kind:=by
 obtain⟨c,a⟩:=Zdt (d:=d) b e;exact c _ (ZtM a)
theorem Zld (b:SzD d F B) (a:OkD d):(Ya d kind).length<=F+1:=by
 have c:=Zjm d kind (Xm (Qk d) 3) (Xm (Qk d) 3).length zL;rw[Zou d kind _ _ rfl] at c;have e:=b.names a 3;unfold Ya;omega
theorem Zfl (p:0<=kind) (k:kind<6):OkS (ZbA d kind):=by
 obtain⟨a,-⟩:=Zjr (d:=d) p k;have f:=Zry d kind;unfold ZbA;generalize Gc (Ya d kind)=b at a ⊢;unfold Lgb.behind;have w:=a.1;by_cases g:(Jq d kind).leads b
 ·rw[zab g]
  obtain⟨u,t,l,i⟩:=g;have m:=(Zca _ _ i).2
  have j:(Q4 b ((Jq d kind).recs.drop (b.idx-(Jq d kind).first).toNat)).1.idx=(Jq d kind).next:=by
   rw[m,zci];unfold Lgb.next at l ⊢;omega
  have v:=f.top;have x:=f.f0;have q:0<=(Jq d kind).next:=by unfold Lgb.next;omega
  have n:I64 (Jq d kind).next:=⟨by omega,by omega⟩
  exact⟨f,j,a.snS.take i,fun c=>absurd rfl c,n,(Qo (by decide) (by decide):I64 0)⟩
 ·rw[zaa g]
  have e:(⟨b.idx,[],[]⟩:Lgb).next=b.idx:=by simp[Lgb.next]
  refine⟨Zre _ (by omega) (by omega),?_,a.snS,fun c=>absurd rfl c,?_,(Qo (by decide) (by decide):I64 0)⟩
  ·exact e.symm
  ·show I64 (⟨b.idx,[],[]⟩:Lgb).next
   rw[e];exact⟨by omega,by omega⟩
open Go.RowKit Go.ChangeShapes
theorem ZoA:prog.cellsOf 62=7:=by kernel_rfl
section
variable {H:Type} {enc:TypeId × Value->H} {w:World} {base fuel:Nat} {held:Bool}
theorem Zkk {x:DataW H × List MemPlace} (h:DataW.trod enc prog w base (fun _=>true) held fuel 62 cs=some x):
 ∃ (r:Rec),cs=[.int .i64 r.idx,.int .i64 r.proc,.int .i64 r.seq,.int .i64 r.op.code,.int .i64 r.op.a,.int .i64 r.op.b,.int .i64 r.resp]∧ZcJ r:=by
 obtain⟨xs,n,_,_,u,B,c⟩:=zgq underlying62 h;rw[ZoA] at u
 match xs,B,cs,u with
 | [y0,y1,y2,y3,y4],_,[c0,c1,c2,c3,c4,c5,c6],_=>
  have q:=c 0 _ rfl;have m:=c 1 _ rfl;have j:=c 2 _ rfl;have l:=c 3 _ rfl;have f:=c 4 _ rfl;simp[Zig,ZlY] at q m j l f;obtain⟨i,t,_,A⟩:=zdo underlying3 q;obtain⟨p,v,_,z⟩:=zdo underlying3 m;obtain⟨s,d,_,C⟩:=zdo underlying3 j;obtain⟨o,g,ok⟩:=ZeQ l;obtain⟨e,k,_,y⟩:=zdo underlying3 f;simp only [ze0,ze7] at t v d g k;obtain⟨rfl,rfl,rfl⟩:=g;subst t v d k;exact⟨⟨i,p,s,o,e⟩,rfl,Z9 A,Z9 z,Z9 C,ok,Z9 y⟩
end
open Go.RowKit Go.ChangeShapes
theorem Zqx {p:Nat->Rec->Prop} (h:∀ i,i<m->∃ o,p i o):∃ L:List Rec,L.length=m∧∀ i,i<m->p i (L.getD i Qj):=by
 induction m with
 | zero=>exact⟨[],rfl,fun i c=>by omega⟩
 | succ m d=>
  obtain⟨L,b,g⟩:=d (fun i c=>h i (by omega))
  obtain⟨o,j⟩:=h m (by omega)
  refine⟨L++[o],by simp[b],fun i c=>?_⟩
  by_cases e:i<m
  ·have a:(L++[o]).getD i Qj=L.getD i Qj:=by simp[List.getD,zbg (show i<L.length by omega)]
   rw[a];exact g i e
  ·have f:i=L.length:=by omega
   subst f;have a:(L++[o]).getD L.length Qj=o:=by simp[List.getD]
   rw[a,b];exact j
theorem Zwn {H:Type} {enc:TypeId × Value->H} {J:Bool} {x:DataW H × List MemPlace} (h:DataW.trod enc prog w base (fun _=>true) J fuel 29 cs=some x):∃ v l,cs=[v]∧RdR w v l:=by
 rcases zgl underlying29 h with ⟨g,_⟩ | ⟨a,K,cap,m,n,D,S,rfl,V,W,O,P,_,I⟩
 ·exact⟨_,[],g,none,0,rfl,za0 _,zap _,fun _=>rfl,(fun o h=>by simp at h),.inl rfl⟩
 ·have B:m=cap:=by simpa using P
  subst B
  have C:∀ i,i<K->∃ o,ZcJ o∧(∀ k,k<7->w.cell? (a.add (i*7+k))=(Jg o)[k]?):=by
   intro i U;obtain⟨R,z,q⟩:=I i (by omega)
   rw[ZoA] at z;obtain⟨_,Q,F⟩:=zgs z;obtain⟨o,g,N⟩:=Zkk q;subst g;refine⟨o,N,fun k d=>?_⟩
   have y:=F k (by omega)
   rw[zg3] at y;rw[y]
   match k,d with
   | 0,_=>rfl
   | 1,_=>rfl
   | 2,_=>rfl
   | 3,_=>rfl
   | 4,_=>rfl
   | 5,_=>rfl
   | 6,_=>rfl
  obtain⟨L,G,p⟩:=Zqx C;refine⟨_,L,rfl,some a,m,by rw[G],by omega,O,(fun e=>by cases e),fun o E=>?_,?_⟩
  ·obtain⟨j,u,rfl⟩:=zds E
   have:=(p j (by omega)).1
   simpa[List.getD,u] using this
  ·by_cases A:L=[]
   ·exact .inl A
   ·right
    have T:0<L.length:=zes.2 A;obtain⟨b,f,spot⟩:=a
    have M:spot=none:=by
     have:=(p 0 (by omega)).2 0 (by decide)
     have q:w.cell? ((⟨b,f,spot⟩:Addr).add (0*7+0))=some (.int .i64 (L.getD 0 Qj).idx):=this;simpa[Addr.add] using zfw q
    subst M;refine⟨b,f,rfl,fun j u=>?_⟩
    obtain⟨_,t⟩:=p j (by omega)
    simp only [zbn] at t
    have c:∀ k,k<7->w.cell? ⟨b,f+j*7+k,none⟩=(Jg (L.getD j Qj))[k]?:=fun k d=>by
     rw[zb1];exact t k d
    exact⟨c 0 (by decide),c 1 (by decide),c 2 (by decide),c 3 (by decide),c 4 (by decide),c 5 (by decide),c 6 (by decide)⟩
open Go.RowKit Go.ChangeShapes
structure SOp where
 kind:Int
 many:Int
 n:Int
 op:Opn
 keep:List Int
 recs:List Rec
 b:List UInt8
structure ZoB (w:World) (b o:Nat) (x:SOp) (vk vr vb:Value):Prop where
 c0:w.cell? ⟨b,o,none⟩=some (.int .i64 x.kind)
 c1:w.cell? ⟨b,o+1,none⟩=some (.int .i64 x.many)
 c2:w.cell? ⟨b,o+2,none⟩=some (.int .i64 x.n)
 c3:w.cell? ⟨b,o+3,none⟩=some (.int .i64 x.op.code)
 c4:w.cell? ⟨b,o+4,none⟩=some (.int .i64 x.op.a)
 c5:w.cell? ⟨b,o+5,none⟩=some (.int .i64 x.op.b)
 c6:w.cell? ⟨b,o+6,none⟩=some vk
 c7:w.cell? ⟨b,o+7,none⟩=some vr
 c8:w.cell? ⟨b,o+8,none⟩=some vb
 rk:RdI w vk x.keep
 rr:RdR w vr x.recs
 rb:Rd w vb x.b
 i0:I64 x.kind
 i1:I64 x.many
 i2:I64 x.n
 io:ZyL x.op
theorem Z7 {a:Addr} (h:w.cell? a=some v) (c:Below B w w') (b:w.heap.size<=B):w'.cell? a=some v:=by
 have d:a.block<w.heap.size:=za1 w a h;rw[c.cell (p:=a) (by exact zay d b)]
 exact h
theorem ZoB.below {b o:Nat} {x:SOp} {f e d:Value} (h:ZoB w b o x f e d) (c:Below B w w') (a:w.heap.size<=B):ZoB w' b o x f e d:=
 ⟨Z7 h.c0 c a,Z7 h.c1 c a,Z7 h.c2 c a,Z7 h.c3 c a,Z7 h.c4 c a,Z7 h.c5 c a,Z7 h.c6 c a,Z7 h.c7 c a,Z7 h.c8 c a,h.rk.below c a,h.rr.below c a,h.rb.below c a,h.i0,h.i1,h.i2,h.io⟩
def RdS (w:World) (v:Value) (l:List SOp):Prop:=
 ∃ ao cap,v=.slice ao l.length cap∧l.length<=cap∧cap<=maxLen∧(ao=none->cap=0)∧
  ∀ j x,l[j]?=some x->∃ b off vk vr vb,ao=some ⟨b,off,none⟩∧ZoB w b (off+j*9) x vk vr vb
theorem RdS.below {l:List SOp} (h:RdS w v l) {B:Nat} (q:Below B w w') (p:w.heap.size<=B):RdS w' v l:=by
 obtain⟨ao,cap,i,t,m,c,u⟩:=h;refine⟨ao,cap,i,t,m,c,fun j x a=>?_⟩
 obtain⟨b,d,n,f,k,e,g⟩:=u j x a;exact⟨b,d,n,f,k,e,g.below q p⟩
theorem RdS.at {w:World} {ao:Option Addr} {n cap:Nat} {l:List SOp} (h:RdS w (.slice ao n cap) l) {i:Nat} (p:i<l.length):
 ∃ x b a d f g j m k,l[i]?=some x∧ao=some ⟨b,a,none⟩∧ZoB w b (a+i*9) x (.slice d x.keep.length f) (.slice g x.recs.length j) (.slice m x.b.length k):=by
 obtain⟨u,v,q,_,_,_,t⟩:=h;simp only [zbb] at q;obtain⟨rfl,_,rfl⟩:=q;obtain⟨b,a,A,y,z,e,c⟩:=t i _ (za4 p);obtain⟨d,f,rfl,-⟩:=id c.rk;obtain⟨g,j,rfl,-⟩:=id c.rr;obtain⟨m,k,rfl,-⟩:=id c.rb;exact⟨_,b,a,d,f,g,j,m,k,za4 p,e,c⟩
theorem Zjs:prog.cellsOf 55=9:=by kernel_rfl
theorem ZoC:prog.cellsOf 53=1:=by kernel_rfl
theorem Zqy:prog.cellsOf 29=1:=by kernel_rfl
theorem Zwo {H:Type} {enc:TypeId × Value->H} {e:Bool} {x:DataW H × List MemPlace} (h:DataW.trod enc prog w base (fun _=>true) e fuel 53 cs=some x):∃ v l,cs=[v]∧Rd w v l:=by
 rcases open_ints underlying53 underlying5 (by kernel_rfl) h with ⟨a,_⟩ | ⟨y,l,c,j,a,_,i,g,f,_,d,b⟩
 ·exact⟨_,[],a,Rd.nil _⟩
 ·exact⟨_,_,a,Rd.ofRow i g (by simpa using f) d b⟩
theorem ZbF {H:Type} {enc:TypeId × Value->H} {K:Bool} {x:DataW H × List MemPlace} (h:DataW.trod enc prog w base (fun _=>true) K fuel 55 cs=some x):
 ∃ (o:SOp) (f d e:Value),cs=[.int .i64 o.kind,.int .i64 o.many,.int .i64 o.n,.int .i64 o.op.code,.int .i64 o.op.a,.int .i64 o.op.b,f,d,e]∧RdI w f o.keep∧RdR w d o.recs∧Rd w e o.b∧I64 o.kind∧I64 o.many∧I64 o.n∧ZyL o.op:=by
 obtain⟨xs,n,_,_,B,J,c⟩:=zgq underlying55 h;rw[Zjs] at B
 match xs,J,cs,B with
 | [y0,y1,y2,y3,y4,y5,y6],_,[c0,c1,c2,c3,c4,c5,c6,c7,c8],_=>
  have z:=c 0 _ rfl;have v:=c 1 _ rfl;have t:=c 2 _ rfl;have u:=c 3 _ rfl;have m:=c 4 _ rfl;have k:=c 5 _ rfl;have p:=c 6 _ rfl;simp[Zig,ZlY,Zsu,ZoC,Zqy] at z v t u m k p;obtain⟨E,A,_,M⟩:=zdo underlying3 z;obtain⟨I,g,_,L⟩:=zdo underlying3 v;obtain⟨P,j,_,F⟩:=zdo underlying3 t;obtain⟨o,q,ok⟩:=ZeQ u;obtain⟨f,G,l,C⟩:=Zxu m;obtain⟨d,N,i,Q⟩:=Zwn k;obtain⟨e,D,y,O⟩:=Zwo p;simp only [ze0,ze7] at A g j q l i y;obtain⟨rfl,rfl,rfl⟩:=q;subst A g j l i y;exact⟨⟨E,I,P,o,G,N,D⟩,_,_,_,rfl,C,Q,O,Z9 M,Z9 L,Z9 F,ok⟩
theorem Zqz {p:Nat->SOp->Prop} (h:∀ i,i<m->∃ o,p i o):∃ L:List SOp,L.length=m∧∀ i x,L[i]?=some x->p i x:=by
 induction m with
 | zero=>exact⟨[],rfl,fun i x a=>by simp at a⟩
 | succ m d=>
  obtain⟨L,c,f⟩:=d fun i b=>h i (by omega)
  obtain⟨o,g⟩:=h m (by omega)
  refine⟨L++[o],by simp[c],fun i x a=>?_⟩
  rw[zf4] at a;by_cases e:i<L.length
  ·rw[zab e] at a
   exact f i x a
  ·rw[zaa e] at a
   have:i-L.length=0:=by
    have:=(zbr.1 a).1;simp at this;omega
   rw[this] at a;simp only [List.getElem?_cons_zero,zb6] at a;have b:i=m:=by omega
   rw[<-a,b];exact g
theorem Zwp {H:Type} {enc:TypeId × Value->H} {W:Bool} {x:DataW H × List MemPlace} (h:DataW.trod enc prog w base (fun _=>true) W fuel 22 cs=some x):∃ v l,cs=[v]∧RdS w v l:=by
 rcases zgl underlying22 h with ⟨g,_⟩ | ⟨a,K,cap,m,n,D,Pl,rfl,hb,hl,M,ab,_,J⟩
 ·exact⟨_,[],g,none,0,rfl,za0 _,zap _,fun _=>rfl,(fun j x h=>by simp at h)⟩
 ·have P:m=cap:=by simpa using ab
  subst P;by_cases X:K=0
  ·subst X
   exact⟨_,[],rfl,some a,m,rfl,zap _,M,(fun e=>by cases e),(fun j x h=>by simp at h)⟩
  obtain⟨b,B,spot⟩:=a
  have Z:spot=none:=by
   obtain⟨U,f,F⟩:=J 0 (by omega)
   rw[Zjs] at f;obtain⟨_,O,c⟩:=zgs f;obtain⟨o,q,k,p,g,_⟩:=ZbF F;subst g;have d:=c 0 (by omega)
   rw[zg3] at d;simpa[Addr.add] using zfw d
  subst Z
  have R:∀ i,i<K->∃ o,∃ b' I q k p,some (⟨b,B,none⟩:Addr)=some (⟨b',I,none⟩:Addr)∧ZoB w b' (I+i*9) o q k p:=by
   intro i hi;obtain⟨U,f,F⟩:=J i (by omega)
   rw[Zjs] at f;obtain⟨_,O,c⟩:=zgs f;obtain⟨o,q,k,p,g,N,aa,Y,S,i1,Q,T⟩:=ZbF F;subst g;have d:=c 0 (by omega)
   have C:=c 1 (by omega)
   have y:=c 2 (by omega)
   have A:=c 3 (by omega)
   have u:=c 4 (by omega)
   have t:=c 5 (by omega)
   have G:=c 6 (by omega)
   have E:=c 7 (by omega)
   have z:=c 8 (by omega)
   rw[zg3] at d C y A u t G E z;rw[zbn] at d C y A u t G E z;exact⟨o,b,B,q,k,p,rfl,by simpa using d,by simpa[zb1] using C,by simpa[zb1] using y,by simpa[zb1] using A,by simpa[zb1] using u,by simpa[zb1] using t,by simpa[zb1] using G,by simpa[zb1] using E,by simpa[zb1] using z,N,aa,Y,S,i1,Q,T⟩
  obtain⟨L,V,hp⟩:=Zqz R;exact⟨_,L,rfl,some ⟨b,B,none⟩,m,by rw[V],by omega,M,(fun e=>by cases e),hp⟩
def FewS (l:List SOp):Prop:=l.length<=60∧∀ (j:Nat) x,l[j]?=some x->x.recs.length<=20∧x.b.length<=300∧x.keep.length<=100
set_option maxHeartbeats 2000000 in
theorem Zyl (v:Value) (l:List SOp) (w:World) (h:RdS w v l):
 Calls prog 8 #[v] w fun e w'=>∃ F:Bool,e=.returned (.bool F)∧(F=true->FewS l)∧w'=w:=by
 have H:=ZZ h;obtain⟨ao,cap,rfl,-⟩:=h;by_cases L:l.length<=60
 case neg=>
  have Y:decide ((l.length:Int)>60)=true:=zan (by omega)
  go_enter func8,ntmps8
  go_wp2;go_ret;exact⟨false,rfl,(fun e=>by cases e),rfl⟩
 go_enter func8,ntmps8
 go_wp2
 go_loopw[3] (fun f wr=>∃ k:Nat,f=.int .i64 (k:Int)∧k<=l.length∧wr=w∧Hid (∀ (j:Nat) x,j<k->l[j]?=some x->x.recs.length<=20∧x.b.length<=300∧x.keep.length<=100)) (fun f _=>l.length-(intOf f).toNat)
 case atStart=>exact⟨0,rfl,zap _,rfl,ZZ (fun j x q=>absurd q (zcg _))⟩
 case round=>
  obtain⟨k,rfl,V,rfl,t⟩:=hrel;by_cases J:k<l.length
  ·obtain⟨x,b,S,O,Q,R,U,X,W,a,C,c⟩:=H.out.at J
   have G:=ZZ a;have I:=c.c6;have K:=c.c7;have E:=c.c8;subst C;obtain⟨A,g⟩:=zg7 x.recs.length;obtain⟨u,m⟩:=zg7 x.b.length;obtain⟨z,p⟩:=zg7 x.keep.length;rw[<-g] at K;rw[<-m] at E;rw[<-p] at I;have d:=ZZ (And.intro g (And.intro m p));clear a c g m p;by_cases B:A<=20
   ·by_cases M:u<=300
    ·by_cases D:z<=100
     ·go_wp2
      go_roundw
      case rel=>
       refine⟨k+1,by go_num,by omega,by first | trivial | rfl,ZZ (fun j y q i=>?_)⟩
       by_cases e:j=k
       ·rw[e,G.o] at i
        obtain rfl:=zaq i;exact⟨by rw[<-d.o.1];exact B,by rw[<-d.o.2.1];exact M,by rw[<-d.o.2.2];exact D⟩
       ·exact t.o j y (by omega) i
      case measure=>simp[intOf];omega
     ·have N:decide ((z:Int)>100)=true:=zan (by omega)
      go_wp2;go_ret;exact⟨false,rfl,(fun e=>by cases e),rfl⟩
    ·have T:decide ((u:Int)>300)=true:=zan (by omega)
     go_wp2;go_ret;exact⟨false,rfl,(fun e=>by cases e),rfl⟩
   ·have P:decide ((A:Int)>20)=true:=zan (by omega)
    go_wp2;go_ret;exact⟨false,rfl,(fun e=>by cases e),rfl⟩
  ·go_wp2
   go_ret;exact⟨true,rfl,fun _=>⟨L,fun j x a=>t.o j x (by have:=(zbr.1 a).1;omega) a⟩,rfl⟩
end Go.Proofs.YtnahjngbneicaaaGreatDoor
