import Derived.Test.YtnahjngbneicaaaGreatDoorPack12
namespace Go.Proofs.YtnahjngbneicaaaGreatDoor
open _root_.Go.Proofs.Tryz
open List (append_assoc drop_drop flatten_cons length_append length_cons length_drop mem_cons mem_of_mem_take take_length)
set_option maxHeartbeats 4000000
set_option maxRecDepth 100000
open Go.RowKit
variable {W w w':World} {B C b first g k:Nat} {cs:Array Value} {v v':Value} {l m:List UInt8} {L:List Rec} {t:Bool}
abbrev zeg:=@List.set_set
abbrev zgq:=@Nat.le_of_lt
abbrev zgx:=@List.drop_left
def Ztc (w:World) (b:List UInt8) (e:Ending) (w':World):Prop:=
 ∃ (vl vt:Value) (S:St) (t:List Ent) (ok:Bool),e=.returned (.tuple #[.agg #[.int .i64 S.kind,vl,.bool S.shut,.int .i64 S.eng],vt,.bool ok])∧RdI w' vl S.L∧I64 S.kind∧I64 S.eng∧RdE w' vt t∧(∀ k,vl.ownBlock=some k->w.heap.size<=k)∧(∀ k,vt.ownBlock=some k->w.heap.size<=k)∧
  (ok=false->(Yu b).2=3)∧(ok=true->∃ er,Yu b=(⟨0,S,t⟩,er)∧(er=0∨(er=1∧S=ZcB)))∧Below w.heap.size w w'
theorem Ztc.none {b:List UInt8} (h:(Yu b).2=3) (c:Below w.heap.size w w'):Ztc w b (.returned (.tuple #[.agg #[.int .i64 0,.slice none 0 0,.bool false,.int .i64 0],.slice none 0 0,.bool false])) w':=
 ⟨_,_,ZcB,[],false,rfl,RdI.nil _,(Qo (by decide) (by decide):I64 0),(Qo (by decide) (by decide):I64 0),RdE.nil _,(fun k a=>by simp[Value.ownBlock] at a),(fun k a=>by simp[Value.ownBlock] at a),(fun _=>h),(fun h=>by cases h),c⟩
theorem ZxB (ao:Option Addr) (l:List UInt8) (cap:Nat) (g:l.length<=cap) (j:Nat) (f:j<=l.length):
 ∃ a b c,(∀ W,(Instr.sliceAt 53 (.slice ao l.length cap) none (some (.int .i64 (j:Int))) (some (.int .i64 (j:Int)))).run prog W=.ok (.slice a b c) W)∧∀ W,Rd W (.slice ao l.length cap) l->Rd W (.slice a b c) (l.take j):=by
 have d:∃ a b c,sliced ao 0 j j 1=.slice a b c:=by
  unfold sliced;exact⟨_,_,_,rfl⟩
 obtain⟨a,b,c,d⟩:=d;refine⟨a,b,c,fun W=>?_,fun W h=>?_⟩
 ·rw[zb5 W 53 _ _ _ _ Xu,run_slice_hm W 53 ao l.length cap Xu .i64 .i64 (j:Int) (j:Int) (by omega) (by omega) (by omega),Jo,Zce]
  simp only [za9];rw[<-d];rfl
 ·rw[<-d]
  have e:=h.mid 0 j j (zai _) f zL (by omega)
  rw[zgw,zef] at e;exact e
def four (w:World) (R:Nat) (x0 x1 x2 x3:Value):World:=(((w.setCell ⟨R,0,none⟩ x0).setCell ⟨R,1,none⟩ x1).setCell ⟨R,2,none⟩ x2).setCell ⟨R,3,none⟩ x3
theorem Zdl {b:World} (h:Below C b w) (R:Nat) (a:C<=R) (f e c d:Value):Below C b ((((w.setCell ⟨R,0,none⟩ f).setCell ⟨R,1,none⟩ e).setCell ⟨R,2,none⟩ c).setCell ⟨R,3,none⟩ d):=
 (((h.setCell a _).setCell a _).setCell a _).setCell a _
theorem ZxC (w:World) (R:Nat) (d c a b:Value):But R R w ((((w.setCell ⟨R,0,none⟩ d).setCell ⟨R,1,none⟩ c).setCell ⟨R,2,none⟩ a).setCell ⟨R,3,none⟩ b):=
 ((((But.refl R R w).set _ _ (.inl rfl) _).set _ _ (.inl rfl) _).set _ _ (.inl rfl) _).set _ _ (.inl rfl) _
theorem Zmd (v:Value) (b:List UInt8) (w:World) (R:Rd w v b) (bd:b.length<=100000):
 Calls prog 117 #[v] w fun e w'=>Ztc w b e w':=by
 obtain⟨d,T⟩:=zgy (((w.alloc (.cells #[.int .i64 0,.slice none 0 0,.bool false,.int .i64 0] 38)).alloc (.cells #[.int .i64 0] 3)).alloc (.cells #[.pointer (some ⟨w.heap.size+1,0,none⟩)] 208));have g:=ZiP w (.cells #[.int .i64 0,.slice none 0 0,.bool false,.int .i64 0] 38) (.cells #[.int .i64 0] 3) (.cells #[.pointer (some ⟨w.heap.size+1,0,none⟩)] 208);rw[<-T] at g;obtain⟨hA,U,hC⟩:=g;have aj:Hid (Below w.heap.size w d):=ZZ (by rw[T];exact(((zac _ _).alloc zL _).alloc (by simp) _).alloc (by simp;omega) _)
 have aR:Bx d w.heap.size #[.int .i64 0,.slice none 0 0,.bool false,.int .i64 0]:=hA
 have al:=ZZ (Zat (w.heap.size+1+1) [(w.heap.size+1,0)] v b d (R.below aj.o zL) (fun p F=>by
  rw[zaq.1 F]
  exact⟨⟨⟨0,zam d (w.heap.size+1) 0 _ _ _ U⟩,za2 d (w.heap.size+1) 0 _ _ U⟩,by simp⟩) (by simp) hC 1 rfl)
 have aS:Hid (∀ n:Nat,(d.setCell ⟨w.heap.size+1,0,none⟩ (.int .i64 (n:Int))).cell? ⟨w.heap.size+1,0,none⟩=some (.int .i64 (n:Int))):=ZZ (fun n=>zdb _ _ _ (zam d (w.heap.size+1) 0 _ _ _ U))
 have aO:Hid (∀ ns,Below w.heap.size w (Y7 d ([(w.heap.size+1,0)].take (List.length ns)) ns)):=ZZ (fun ns=>Zbi d _ ns _ w (fun p F=>by
  have:=mem_of_mem_take F;rw[zaq.1 this]
  simp) aj.o)
 have aV:Hid (∀ ns,Bx (Y7 d ([(w.heap.size+1,0)].take (List.length ns)) ns) w.heap.size #[.int .i64 0,.slice none 0 0,.bool false,.int .i64 0]):=ZZ (fun ns=>(Zbh d _ ns _ (fun p F=>by
  have:=mem_of_mem_take F;rw[zaq.1 this]
  simp)).trans aR)
 have ag:=ZZ (fun ns l h=>ZiQ (b:=b) (ns:=ns) (l:=l) h)
 have ap:=ZZ (fun h=>ZiR (b:=b) h)
 have A:Hid (Yu b=if(Qb b).2=0∨b.length<(Qb b).2+(Qb b).1 then(Yb,3) else if(ZdG ((b.drop (Qb b).2).take (Qb b).1)).2=3 then(Yb,3) else match Zbe (b.drop ((Qb b).2+(Qb b).1)) with
  | none=>(Yb,3)
  | some t=>(⟨0,(ZdG ((b.drop (Qb b).2).take (Qb b).1)).1,t⟩,(ZdG ((b.drop (Qb b).2).take (Qb b).1)).2)):=ZZ rfl
 have hd:=Ju b
 have bi:(Qb b).1<4611686018427387904:=by
  rcases Xf b with h | h
  ·rw[h];decide
  ·exact h.1
 have aW:=ZZ (fun O l W h h2=>ZiT O l W h h2)
 have aM:=ZZ (fun O l W h h2=>Zmb O l W h h2)
 have aC:Hid ([(w.heap.size+1,0)].length=1):=ZZ rfl;rw[aC.o] at al;generalize Zs 1 b=GL at *;have aQ:=ZZ R;obtain⟨va,vc,hv⟩:∃ a c,v=.slice a b.length c:=by obtain⟨a,c,h,-⟩:=R;exact⟨a,c,h⟩
 subst hv;clear R hA U hC aR aC
 go_enter func117,ntmps117
 go_wp2_with fail
 rw[<-T];refine al.o.mono ?_;rintro e z ⟨O,l,ns,rfl,av,aF,aq,az,aG,J⟩;have D:Hid (Below w.heap.size w z):=ZZ ((aO.o ns).trans (J.below _));have u:Hid (Bx z w.heap.size #[.int .i64 0,.slice none 0 0,.bool false,.int .i64 0]):=ZZ ((aV.o ns).below (J.below (Y7 d ([(w.heap.size+1,0)].take ns.length) ns).heap.size) zL);have a6:=ZZ av;have Q:=ZZ (av z (aQ.o.below D.o zL));obtain⟨a1,c1,a8⟩:∃ a c,O=.slice a l.length c:=by obtain⟨a,c,h,-⟩:=Q.o;exact⟨a,c,h⟩
 subst a8;obtain⟨x,y0⟩:=u.o.cell 0;obtain⟨m,y1⟩:=u.o.cell 1;obtain⟨y,y2⟩:=u.o.cell 2;obtain⟨j,y3⟩:=u.o.cell 3;clear al aO aj T aV
 cases GL with
 | none=>
  have E:Hid ((Yu b).2=3):=ZZ (by rw[A.o,zab (.inl (ap.o rfl))])
  clear aF aq az aG J A ap ag;go_wp2;refine zap (v:=.tuple #[.agg #[.int .i64 0,.slice none 0 0,.bool false,.int .i64 0],.slice none 0 0,.bool false]) (by simp[results,Tryz.results117,go_sem,x,m,y,j]) rfl ?_
  exact Ztc.none E.o (Zdl D.o _ zL _ _ _ _)
 | some gp=>
  have:=aq gp rfl;subst this;obtain⟨g1,g2,g3⟩:=ag.o _ _ rfl;subst g2;have aE:l.length=b.length-(Qb b).2:=by rw[g3,length_drop]
  have ae:z.cell? ⟨w.heap.size+1,0,none⟩=some (.int .i64 ((Qb b).1:Int)):=by
   rw[J.cell];exact aS.o _
  rw[<-drop_drop,<-g3] at A;generalize (Qb b).1=n at *;generalize (Qb b).2=k at *;clear aF aq az aG J ap ag g3 aS;by_cases aZ:l.length<n
  ·have E:Hid ((Yu b).2=3):=ZZ (by rw[A.o,zab (.inr (by omega))])
   have a7:(l.length:Int)<(n:Int):=by omega
   clear aE A;go_wp2;refine zap (v:=.tuple #[.agg #[.int .i64 0,.slice none 0 0,.bool false,.int .i64 0],.slice none 0 0,.bool false]) (by simp[results,Tryz.results117,go_sem,x,m,y,j]) rfl ?_
   exact Ztc.none E.o (Zdl D.o _ zL _ _ _ _)
  have a7:¬ (l.length:Int)<(n:Int):=by omega
  have af:l.length<=c1:=by
   obtain⟨a',c',h,h2,-⟩:=Q.o;simp only [za1] at h;omega
  obtain⟨xa,xn,xc,bc,aP⟩:=ZxB a1 l c1 af n (by omega)
  obtain⟨ua,uc,bf,aJ⟩:=Zha a1 l c1 af n (by omega)
  have P:=ZZ (aW.o _ (l.take n) z (aP z Q.o) (by rw[zbt];omega))
  have a4:=ZZ (fun W h=>aJ W (a6.o W h))
  have ba:=ZZ (fun v2 W h=>aM.o v2 (l.drop n) W h (by rw[length_drop];omega))
  have Z:Hid (Yu b=if(ZdG (l.take n)).2=3 then(Yb,3) else match Zbe (l.drop n) with
   | none=>(Yb,3)
   | some t=>(⟨0,(ZdG (l.take n)).1,t⟩,(ZdG (l.take n)).2)):=ZZ (by rw[A.o,zaa (by omega)])
  have aK:=ZZ (ZrB (l.take n));clear aP aJ A aW aM aE aZ af hd g1;generalize ZdG (l.take n)=DS at *;generalize Zbe (l.drop n)=TL at *;generalize l.drop n=l2 at *;obtain⟨⟨G,q,H,K⟩,Y⟩:=DS;unfold Zau at P
  dsimp only at P Z aK
  go_wp2_with fail
  refine P.o.mono ?_;rintro e i ⟨vl,rfl,an,aB,aL,ay,ac⟩;obtain⟨L,lc,aX⟩:∃ a c,vl=.slice a q.length c:=by obtain⟨a,c,h,-⟩:=an;exact⟨a,c,h⟩
  subst aX;have bg:=D.o.size;have ai:=ZZ (D.o.trans (ac.mono D.o.size));have au:=ZZ (u.o.below ac zL);have ak:i.cell? ⟨w.heap.size+1,0,none⟩=some (.int .i64 (n:Int)):=(ac.cell (p:=⟨w.heap.size+1,0,none⟩) (zau z ⟨w.heap.size+1,0,none⟩ ae)).trans ae;have aU:=ZZ an;have aT:=ZZ (And.intro aB aL)
  have aI:Hid (∀ k,(Value.slice L q.length lc).ownBlock=some k->w.heap.size<k):=ZZ (fun k f=>by
   have I:=ay k f;have h2:=u.o.lt
   omega)
  clear ae an aB aL ay ac P x m y j y0 y1 y2 y3 u Q;obtain⟨C,V⟩:=zgy (i.alloc (.cells #[.int .i64 G,.slice L q.length lc,.bool H,.int .i64 K] 38));have M:Hid (Below i.heap.size i C):=ZZ (by rw[V];exact(zac _ _).alloc zL _)
  have ar:Hid (Bx C i.heap.size #[.int .i64 G,.slice L q.length lc,.bool H,.int .i64 K]):=ZZ (by rw[V];exact zaf i _)
  have aa:=ZZ (ai.o.trans (M.o.mono ai.o.size));have B:=ZZ (au.o.below M.o zL);have a3:C.cell? ⟨w.heap.size+1,0,none⟩=some (.int .i64 (n:Int)):=(M.o.cell (p:=⟨w.heap.size+1,0,none⟩) (zau i ⟨w.heap.size+1,0,none⟩ ak)).trans ak;have aw:=ZZ (aU.o.below M.o zL)
  go_upto_region 6 with fail
  rw[<-V];obtain⟨QB,ax⟩:=zgy i.heap.size;have be:w.heap.size<QB:=by have:=au.o.lt;omega
  rw[<-ax] at ar ⊢;clear V ak ax aU au ai M;by_cases g:Y=3
  ·have a5:(Y == 3)=true:=za8.2 g
   have E:Hid ((Yu b).2=3):=ZZ (by rw[Z.o,zab g])
   obtain⟨x,y0⟩:=B.o.cell 0;obtain⟨m,y1⟩:=B.o.cell 1;obtain⟨y,y2⟩:=B.o.cell 2;obtain⟨j,y3⟩:=B.o.cell 3;clear g;go_wp2;refine zap (v:=.tuple #[.agg #[.int .i64 0,.slice none 0 0,.bool false,.int .i64 0],.slice none 0 0,.bool false]) (by simp[results,Tryz.results117,go_sem,x,m,y,j]) rfl ?_
   exact Ztc.none E.o (Zdl aa.o _ zL _ _ _ _)
  have a5:(Y == 3)=false:=zad.2 g;have ao:=ZZ g;clear g
  go_wp2_with fail
  refine(ba.o _ _ (a4.o C (aQ.o.below aa.o zL))).mono ?_;rintro e W4 ⟨vt,t,rfl,X,aD,aN,N⟩;obtain⟨ta,tc,a0⟩:=X.shape;subst a0;have a9:=ZZ (aa.o.trans (N.mono aa.o.size));have S:=ZZ (B.o.below N zL);have ab:=ZZ (ar.o.below N zL);have bb:=ZZ (aw.o.below N zL);have aY:=ZZ (X.rd aD)
  have aH:Hid (∀ k,(Value.slice ta t.length tc).ownBlock=some k->w.heap.size<k):=ZZ (fun k f=>by
   have I:=(zar X k f).1;have h2:=B.o.lt
   omega)
  have a2:=ZZ aN;clear X aD aN N a3 B ar aw;obtain⟨x,y0⟩:=S.o.cell 0;obtain⟨m,y1⟩:=S.o.cell 1;obtain⟨y,y2⟩:=S.o.cell 2;obtain⟨j,y3⟩:=S.o.cell 3;obtain⟨s0,-⟩:=ab.o.cell 0;obtain⟨s1,-⟩:=ab.o.cell 1;obtain⟨s2,-⟩:=ab.o.cell 2;obtain⟨s3,-⟩:=ab.o.cell 3;obtain⟨ok,am⟩:=zgy TL.isSome;rw[<-am];have ad:=ZZ am;clear am;go_wp2;refine zap (v:=.tuple #[.agg #[.int .i64 G,.slice L q.length lc,.bool H,.int .i64 K],.slice ta t.length tc,.bool ok]) (by simp[results,Tryz.results117,go_sem,x,m,y,j]) rfl ?_
  have aA:=ZxC W4 w.heap.size (.int .i64 G) (.slice L q.length lc) (.bool H) (.int .i64 K);refine⟨_,_,⟨G,q,H,K⟩,t,ok,rfl,bb.o.but aA (.inr fun k f=>by have:=aI.o k f;omega),aT.o.1,aT.o.2,aY.o.but aA (.inr fun k f=>by have:=aH.o k f;omega),(fun k f=>zgq (aI.o k f)),(fun k f=>zgq (aH.o k f)),(fun h=>?_),(fun h=>?_),Zdl a9.o _ zL _ _ _ _⟩
  ·rw[Z.o,zaa ao.o]
   cases TL with
   | none=>rfl
   | some t'=>rw[h] at ad;cases ad.o
  ·cases TL with
   | none=>rw[h] at ad;cases ad.o
   | some t'=>
    refine⟨Y,by rw[Z.o,zaa ao.o,a2.o t' rfl],?_⟩
    rcases aK.o with I | ⟨I,h2 | h2⟩
    ·exact .inl I
    ·exact absurd h2 ao.o
    ·exact .inr ⟨h2,I⟩
def Bq (w:World) (b:Nat) (cs:Array Value):Prop:=w.heap[b]?=some (.cells cs 147 (0,0))
theorem Bq.lt (h:Bq w b cs):b<w.heap.size:=(zan.1 h).1
theorem Bq.below (h:Bq w b cs) (a:Below B w w') (c:w.heap.size<=B):Bq w' b cs:=(a.block b (by have:=h.lt;omega)).trans h
theorem Bq.cell (h:Bq w b cs) (j:Nat):w.cell? ⟨b,j,none⟩=cs[j]?∧w.frozen? ⟨b,j,none⟩=false:=⟨zam w b j _ _ _ h,za2 w b j _ _ h⟩
theorem Bq.set (h:Bq w b cs) (j:Nat) (x:Value):Bq (w.setCell ⟨b,j,none⟩ x) b (cs.setIfInBounds j x):=by
 have:=zba w b j _ _ x h;unfold Bq;simpa using this
theorem Bq.other {c:Nat} (h:Bq w b cs) (j:Nat) (x:Value) (a:b≠c):Bq (w.setCell ⟨c,j,none⟩ x) b cs:=(zal _ _ _ _ a).trans h
theorem ZxD (w:World) (x y z u:Obj):((((w.alloc x).alloc y).alloc z).alloc u).heap[w.heap.size]?=some x∧((((w.alloc x).alloc y).alloc z).alloc u).heap[w.heap.size+1]?=some y∧((((w.alloc x).alloc y).alloc z).alloc u).heap[w.heap.size+2]?=some z∧((((w.alloc x).alloc y).alloc z).alloc u).heap[w.heap.size+3]?=some u:=by
 obtain⟨b,c,a⟩:=ZiP w x y z;refine⟨(zao _ _ _ (by simp;omega)).trans b,(zao _ _ _ (by simp)).trans c,(zao _ _ _ (by simp)).trans a,?_⟩
 have:=zaf (((w.alloc x).alloc y).alloc z) u;simpa using this
theorem Ztd {d:List UInt8} (h:¬ (d.length<1∨(d.getD 0 0).toNat≠115)):Yx d=match Zs 3 (d.drop 1) with
 | none=>(0,0,0,3)
 | some (ns,l)=>if ns.getD 0 0≠3 then(0,0,0,6) else if l.length≠4 then(0,0,0,3) else(ns.getD 1 0,ns.getD 2 0,Lib.leNat l,0):=by
 unfold Yx;rw[zaa h,Zs];by_cases b:(Qb (d.drop 1)).2=0
 ·rw[zab (.inl b),zab b]
 rw[zaa b,Zs];simp only [drop_drop];by_cases c:(Qb (d.drop (1+(Qb (d.drop 1)).2))).2=0
 ·rw[zab (.inr (.inl c)),zab c]
  rfl
 rw[zaa c,ZeS];simp only [drop_drop];by_cases a:(Qb (d.drop (1+(Qb (d.drop 1)).2+(Qb (d.drop (1+(Qb (d.drop 1)).2))).2))).2=0
 ·rw[zab (.inr (.inr a)),zab a]
  rfl
 ·rw[zaa (by omega),zaa a]
  simp only [zcy,List.getD_cons_zero,List.getD_cons_succ]
theorem ZnU:∀ (n:Nat) (b:List UInt8) (ns:List Nat) (l:List UInt8),Zs n b=some (ns,l)->ns.length=n
 | 0,b,ns,l,h=>by
  injection h with h
  injection h with h _
  rw[<-h];rfl
 | n+1,b,ns,l,h=>by
  rw[Zs] at h;split at h
  ·cases h
  ·cases hg:Zs n (b.drop (Qb b).2) with
   | none=>rw[hg] at h;cases h
   | some r=>
    rw[hg] at h
    injection h with h
    injection h with h _
    obtain⟨a,m⟩:=r;rw[<-h,length_cons,ZnU n _ a m hg]
theorem ZvF {R Q:Nat} (e:R≠Q) (h:Bq W R #[.int .i64 0,.int .i64 0,.int .u32 0]) (g:W.heap[Q]?=some (.cells #[.int .i64 0] 3 (0,0))) (ns:List Nat) (f:ns.length<=3):
 ∃ u x y:Int,Bq (Y7 W ([(Q,0),(R,0),(R,1)].take ns.length) ns) R #[.int .i64 x,.int .i64 y,.int .u32 0]∧(Y7 W ([(Q,0),(R,0),(R,1)].take ns.length) ns).cell? ⟨Q,0,none⟩=some (.int .i64 u)∧(ns.length=3->u=((ns.getD 0 0:Nat):Int)∧x=((ns.getD 1 0:Nat):Int)∧y=((ns.getD 2 0:Nat):Int)):=by
 have d:W.cell? ⟨Q,0,none⟩=some (.int .i64 0):=zam W Q 0 _ _ _ g
 match ns,f with
 | [],_=>exact⟨0,0,0,h,d,fun h=>absurd h (by simp)⟩
 | [a],_=>exact⟨a,0,0,h.other 0 _ e,zdb _ _ _ d,fun h=>absurd h (by simp)⟩
 | [a,b],_=>
  refine⟨a,b,0,(h.other 0 _ e).set 0 _,?_,fun h=>absurd h (by simp)⟩
  show((W.setCell ⟨Q,0,none⟩ _).setCell ⟨R,0,none⟩ _).cell? ⟨Q,0,none⟩=_;rw[zbh _ _ _ _ (by simp)]
  exact zdb _ _ _ d
 | [a,b,c],_=>
  refine⟨a,b,c,((h.other 0 _ e).set 0 _).set 1 _,?_,fun _=>⟨rfl,rfl,rfl⟩⟩
  show(((W.setCell ⟨Q,0,none⟩ _).setCell ⟨R,0,none⟩ _).setCell ⟨R,1,none⟩ _).cell? ⟨Q,0,none⟩=_;rw[zbh _ _ _ _ (by simp),zbh _ _ _ _ (by simp)]
  exact zdb _ _ _ d
def ZzR (w:World) (r:Nat × Nat × Nat × Int) (e:Ending) (w':World):Prop:=
 e=.returned (.tuple #[.agg #[.int .i64 (r.1:Int),.int .i64 (r.2.1:Int),.int .u32 (r.2.2.1:Int)],.int .i64 r.2.2.2])∧Below w.heap.size w w'
theorem ZeT {b:World} (h:Below C b w) (R:Nat) (a:C<=R) (e d c:Value):Below C b (((w.setCell ⟨R,0,none⟩ e).setCell ⟨R,1,none⟩ d).setCell ⟨R,2,none⟩ c):=
 ((h.setCell a _).setCell a _).setCell a _
theorem ZgK (v:Value) (d:List UInt8) (w:World) (hr:Rd w v d):
 Calls prog 115 #[v] w fun e w'=>ZzR w (Yx d) e w':=by
 have HR:=ZZ hr;obtain⟨ao,cap,rfl,aM,ap,-,av⟩:=hr;have aU:(d.length:Int)<=9223372036854775807:=by unfold maxLen at ap;omega
 have B:Hid (∀ X,Below w.heap.size w (w.alloc X)):=fun X=>(zac _ _).alloc zL X
 by_cases t:d.length=0
 ·have g:Hid (Yx d=(0,0,0,3)):=ZZ (by unfold Yx;rw[zab (.inl (by omega))])
  have ay:((d.length:Int) == 0)=true:=by rw[za8];omega
  rw[g.o];clear t av
  go_enter func115,ntmps115
  go_wp2;refine zap (v:=.tuple #[.agg #[.int .i64 0,.int .i64 0,.int .u32 0],.int .i64 3]) (by simp[results,Tryz.results115,go_sem]) rfl ?_
  exact⟨rfl,B.o _⟩
 have ay:((d.length:Int) == 0)=false:=zad.2 (by omega)
 have aR:(0:Int)<(d.length:Int):=by omega
 have ab:d≠[]:=fun e=>by rw[e] at t;simp at t
 rcases av with he | ⟨b,A,rfl,hc⟩
 ·exact absurd he ab
 have R:=hc 0 (by omega)
 have aO:b<w.heap.size:=zau w ⟨b,A+0,none⟩ R;have aK:∀ X,(w.alloc X).cell? ⟨b,A,none⟩=some (.int .u8 ((d.getD 0 0).toNat:Nat)):=fun X=>((B.o X).cell (p:=⟨b,A,none⟩) aO).trans R
 clear hc R ap;by_cases I:(d.getD 0 0).toNat=115
 case neg=>
  have g:Hid (Yx d=(0,0,0,3)):=ZZ (by unfold Yx;rw[zab (.inr I)])
  have aN:((((d.getD 0 0).toNat:Nat):Int) != 115)=true:=by
   rw[zbf];omega
  rw[g.o];clear I ab t;generalize (((d.getD 0 0).toNat:Nat):Int)=c0 at *
  go_enter func115,ntmps115
  go_wp2;refine zap (v:=.tuple #[.agg #[.int .i64 0,.int .i64 0,.int .u32 0],.int .i64 3]) (by simp[results,Tryz.results115,go_sem]) rfl ?_
  exact⟨rfl,B.o _⟩
 have aN:((((d.getD 0 0).toNat:Nat):Int) != 115)=false:=by
  rw[I];rfl
 have u:=ZZ (Ztd (d:=d) (by omega))
 generalize (((d.getD 0 0).toNat:Nat):Int)=c0 at *;obtain⟨xa,xc,hcut,L⟩:=Zha (some ⟨b,A,none⟩) d cap aM 1 (by omega)
 have aG:∀ W,(Instr.sliceAt 53 (.slice (some ⟨b,A,none⟩) d.length cap) (some (.int .i64 1)) none none).run prog W=.ok (.slice xa (d.drop 1).length xc) W:=hcut;have aq:=ZZ (fun W h=>L W h)
 obtain⟨f,D⟩:=zgy ((((w.alloc (.cells #[.int .i64 0,.int .i64 0,.int .u32 0] 147)).alloc (.cells #[.int .i64 0,.int .i64 0,.int .u32 0] 147)).alloc (.cells #[.int .i64 0] 3)).alloc (.cells #[.pointer (some ⟨w.heap.size+1+1,0,none⟩),.pointer (some ⟨w.heap.size+1,0,none⟩),.pointer (some ⟨w.heap.size+1,1,none⟩)] 208));have h4:=ZxD w (.cells #[.int .i64 0,.int .i64 0,.int .u32 0] 147) (.cells #[.int .i64 0,.int .i64 0,.int .u32 0] 147) (.cells #[.int .i64 0] 3) (.cells #[.pointer (some ⟨w.heap.size+1+1,0,none⟩),.pointer (some ⟨w.heap.size+1,0,none⟩),.pointer (some ⟨w.heap.size+1,1,none⟩)] 208);rw[<-D] at h4;obtain⟨hA,hB,H,hC⟩:=h4;have T:Hid (Below w.heap.size w f):=ZZ (by rw[D];exact((((zac _ _).alloc zL _).alloc (by simp) _).alloc (by simp;omega) _).alloc (by simp;omega) _)
 have au:Bq f w.heap.size #[.int .i64 0,.int .i64 0,.int .u32 0]:=hA;have n:Bq f (w.heap.size+1) #[.int .i64 0,.int .i64 0,.int .u32 0]:=hB
 have O:=ZZ (Zat (w.heap.size+1+1+1) [(w.heap.size+1+1,0),(w.heap.size+1,0),(w.heap.size+1,1)] (.slice xa (d.drop 1).length xc) (d.drop 1) f (aq.o f (HR.o.below T.o zL)) (fun p k=>by
  simp only [mem_cons,zc9,zf6] at k;rcases k with rfl | rfl | rfl
  ·exact⟨⟨⟨0,zam f (w.heap.size+2) 0 _ _ _ H⟩,za2 f (w.heap.size+2) 0 _ _ H⟩,by simp⟩
  ·exact⟨⟨⟨0,(n.cell 0).1⟩,(n.cell 0).2⟩,by simp⟩
  ·exact⟨⟨⟨0,(n.cell 1).1⟩,(n.cell 1).2⟩,by simp⟩) (by simp) hC 3 rfl)
 have ai:=ZZ (fun ns h=>ZvF (Q:=w.heap.size+1+1) (by omega) n H ns h)
 have ar:Hid (∀ ns,Below w.heap.size w (Y7 f ([(w.heap.size+1+1,0),(w.heap.size+1,0),(w.heap.size+1,1)].take (List.length ns)) ns)):=ZZ (fun ns=>Zbi f _ ns _ w (fun p k=>by
  have:=mem_of_mem_take k;simp only [mem_cons,zc9,zf6] at this
  rcases this with rfl | rfl | rfl <;> (simp only;omega)) T.o)
 have ax:Hid (∀ ns,Bq (Y7 f ([(w.heap.size+1+1,0),(w.heap.size+1,0),(w.heap.size+1,1)].take (List.length ns)) ns) w.heap.size #[.int .i64 0,.int .i64 0,.int .u32 0]):=ZZ (fun ns=>(Zbh f _ ns _ (fun p k=>by
  have:=mem_of_mem_take k;simp only [mem_cons,zc9,zf6] at this
  rcases this with rfl | rfl | rfl <;> (simp only;omega))).trans au)
 have aL:=ZZ (fun v1 l W h=>Zne v1 l W h)
 have K:=ZZ (fun ns l h=>ZnU 3 (d.drop 1) ns l h)
 have ak:Hid ([(w.heap.size+1+1,0),(w.heap.size+1,0),(w.heap.size+1,1)].length=3):=ZZ rfl;rw[ak.o] at O;generalize Zs 3 (d.drop 1)=GL at *;obtain⟨i,aw⟩:=zgy (Yx d);rw[<-aw] at u ⊢;clear aw hcut L hA hB H hC au n I ab t ak;generalize d.drop 1=D1 at *
 go_enter func115,ntmps115
 go_wp2_with fail
 rw[<-D];refine O.o.mono ?_;rintro e j ⟨v1,l,ns,rfl,ae,al,V,aB,an,y⟩;obtain⟨uu,xx,yy,am,af,J⟩:=ai.o ns an;have ac:Hid (Bq j (w.heap.size+1) #[.int .i64 xx,.int .i64 yy,.int .u32 0]):=ZZ (am.below (y.below (Y7 f ([(w.heap.size+1+1,0),(w.heap.size+1,0),(w.heap.size+1,1)].take ns.length) ns).heap.size) zL);have N:Hid (Bq j w.heap.size #[.int .i64 0,.int .i64 0,.int .u32 0]):=ZZ ((ax.o ns).below (y.below (Y7 f ([(w.heap.size+1+1,0),(w.heap.size+1,0),(w.heap.size+1,1)].take ns.length) ns).heap.size) zL);have L:j.cell? ⟨w.heap.size+1+1,0,none⟩=some (.int .i64 uu):=by rw[y.cell];exact af
 have z:Hid (Below w.heap.size w j):=ZZ ((ar.o ns).trans (y.below _));have ag:=ZZ (ae j (aq.o j (HR.o.below z.o zL)));obtain⟨a1,c1,aI⟩:∃ a c,v1=.slice a l.length c:=by obtain⟨a,c,h,-⟩:=ag.o;exact⟨a,c,h⟩
 subst aI;obtain⟨E,y0⟩:=N.o.cell 0;obtain⟨C,y1⟩:=N.o.cell 1;obtain⟨F,y2⟩:=N.o.cell 2;clear O ai ar ax D am af y ae aB an T aK aG B
 cases GL with
 | none=>
  have g:Hid (i=(0,0,0,3)):=ZZ u.o;clear al V J u K;go_wp2;refine zap (v:=.tuple #[.agg #[.int .i64 0,.int .i64 0,.int .u32 0],.int .i64 3]) (by simp[results,Tryz.results115,go_sem,E,C,F]) rfl ?_
  rw[g.o];exact⟨rfl,ZeT z.o _ zL _ _ _⟩
 | some gp=>
  have:=V gp rfl;subst this;obtain⟨g1,g2,g3⟩:=J (K.o _ _ rfl);have m:Hid (i=if ns.getD 0 0≠3 then(0,0,0,6) else if l.length≠4 then(0,0,0,3) else(ns.getD 1 0,ns.getD 2 0,Lib.leNat l,0)):=ZZ u.o
  clear al V J u K;generalize ns.getD 0 0=Z at *;generalize ns.getD 1 0=n1 at *;generalize ns.getD 2 0=n2 at *;subst g1 g2 g3;by_cases G:Z=3
  case neg=>
   have g:Hid (i=(0,0,0,6)):=ZZ (by rw[m.o,zab G])
   have aE:((Z:Int) != 3)=true:=by rw[zbf];omega
   clear G m;go_wp2;refine zap (v:=.tuple #[.agg #[.int .i64 0,.int .i64 0,.int .u32 0],.int .i64 6]) (by simp[results,Tryz.results115,go_sem,E,C,F]) rfl ?_
   rw[g.o];exact⟨rfl,ZeT z.o _ zL _ _ _⟩
  have aE:((Z:Int) != 3)=false:=by rw[zbj];omega
  by_cases x:l.length=4
  case neg=>
   have g:Hid (i=(0,0,0,3)):=ZZ (by rw[m.o,zaa (by omega),zab x])
   have az:((l.length:Int) != 4)=true:=by rw[zbf];omega
   clear G m x;go_wp2;refine zap (v:=.tuple #[.agg #[.int .i64 0,.int .i64 0,.int .u32 0],.int .i64 3]) (by simp[results,Tryz.results115,go_sem,E,C,F]) rfl ?_
   rw[g.o];exact⟨rfl,ZeT z.o _ zL _ _ _⟩
  have az:((l.length:Int) != 4)=false:=by rw[zbj];omega
  have g:Hid (i=(n1,n2,Lib.leNat l,0)):=ZZ (by rw[m.o,zaa (by omega),zaa (by omega)])
  have ad:=ZZ (aL.o _ l j ag.o);rw[zbc (by omega)] at ad
  have aA:Lib.leNat l<4294967296:=by
   have:=Zlv l;rw[x] at this;exact this
  have aP:Hid (l.length=4):=ZZ x;generalize Lib.leNat l=q at *;clear G m x;obtain⟨e0,f0⟩:=ac.o.cell 0;obtain⟨e1,f1⟩:=ac.o.cell 1;obtain⟨e2,f2⟩:=ac.o.cell 2;have aS:¬ (w.heap.size=w.heap.size+1):=by omega
  have aT:¬ (w.heap.size+1=w.heap.size):=by omega
  have aQ:IntKind.u32.wrap (q:Int)=(q:Int):=by
   rw[IntKind.wrap_u32];omega
  have aC:(0:Int)<=(q:Int):=by omega
  have aF:(q:Int)<4294967296:=by omega
  obtain⟨P,Y⟩:∃ P:Int,P=(q:Int):=⟨_,rfl⟩;obtain⟨U,aa⟩:∃ U:Int,U=(n1:Int):=⟨_,rfl⟩;obtain⟨M,S⟩:∃ M:Int,M=(n2:Int):=⟨_,rfl⟩;rw[<-Y] at ad aQ aC aF;rw[<-aa] at e0;rw[<-S] at e1;have aD:=ZZ Y;have aJ:=ZZ aa;have aH:=ZZ S;clear Y aa S aA;clear aP
  go_wp2_with fail
  refine ad.o.mono ?_;rintro e W2 ⟨rfl,aj⟩;rw[aj];clear aj W2;go_wp2;refine zap (v:=.tuple #[.agg #[.int .i64 U,.int .i64 M,.int .u32 P],.int .i64 0]) (by simp[results,Tryz.results115,go_sem,E,C,F]) rfl ?_
  rw[g.o];exact⟨by rw[aD.o,aJ.o,aH.o],ZeT (z.o.setCell (zdi _) _) _ zL _ _ _⟩
theorem ZiU (f g:Value) (a b:List UInt8) (w:World) (d:Rd w f a) (c:Rd w g b):
 Calls prog 163 #[f,g] w fun e w'=>e=.returned (.bool (decide (a=b)))∧w'=w:=by
 have i:=d.str;have k:=c.str
 have j:((bs a).toList == (bs b).toList)=decide (a=b):=by
  rw[ZAn];by_cases h:a=b
  ·rw[h,zah rfl];exact beq_self_eq_true b
  ·rw[zae h,zad];exact h
 generalize decide (a=b)=D at *;clear d c
 go_enter func163,ntmps163
 go_wp2;go_ret;exact⟨rfl,rfl⟩
theorem ZnV {A B:List (List UInt8)} (b:k<A.length) (c:k<B.length) (h:A.take k=B.take k) (a:A.getD k []=B.getD k []):A.take (k+1)=B.take (k+1):=by
 rw[zb4,zb4,h]
 congr 1
 simp only [List.getD,za3 b,za3 c,zgn] at a ⊢;rw[a]
theorem ZjV (I L:Value) (A B:List (List UInt8)) (w:World) (ha:RdL w I A) (hb:RdL w L B):
 Calls prog 162 #[I,L,.func (.func 163) #[] #[]] w fun e w'=>e=.returned (.bool (decide (A=B)))∧w'=w:=by
 obtain⟨aa,ac,rfl,ab,K,-,N⟩:=ha;obtain⟨ba,bc,rfl,-,-,-,S⟩:=hb;have F:=ZZ N;have P:=ZZ S;have Q:=ZZ (fun x y a b h1 h2=>ZiU x y a b w h1 h2)
 obtain⟨D,i⟩:=zgy (decide (A=B));rw[<-i];have O:Hid (A=B->D=true):=fun h=>by rw[i];exact zah h
 have p:Hid (¬ A=B->D=false):=fun h=>by rw[i];exact zae h
 have al:(A.length:Int)<=9223372036854775807:=by unfold maxLen at K;omega
 clear i N S K ab;by_cases j:A.length=B.length
 case neg=>
  have ae:((A.length:Int) != (B.length:Int))=true:=by rw[zbf];omega
  have HE:=ZZ (p.o (fun h=>j (by rw[h])))
  clear j
  go_enter func162,ntmps162
  go_wp2;go_ret;rw[HE.o];exact⟨rfl,rfl⟩
 have ae:((A.length:Int) != (B.length:Int))=false:=by rw[zbj];omega
 have G:=ZZ j
 have R:Hid (A.take A.length=B.take A.length->D=true):=ZZ (fun h=>O.o (by
  rw[take_length,G.o,take_length] at h
  exact h))
 have M:Hid (∀ k,k<A.length->A.getD k []≠B.getD k []->D=false):=ZZ (fun k Z h=>p.o (fun hs=>h (by rw[hs])))
 clear j O p
 go_enter func162,ntmps162
 go_wp2
 go_loopw[17] (fun v wr=>∃ k:Nat,v=.int .i64 (k:Int)∧k<=A.length∧Hid (A.take k=B.take k)∧wr=w) (fun v _=>A.length-(intOf v).toNat)
 case atStart=>exact⟨0,rfl,zai _,rfl,rfl⟩
 case round=>
  obtain⟨k,rfl,Z,H,rfl⟩:=hrel;by_cases f:k<A.length
  case neg=>
   obtain rfl:k=A.length:=by omega
   have W:=ZZ (R.o H.out);go_wp2;go_ret;rw[W.o];exact⟨rfl,rfl⟩
  have m:k<B.length:=by have:=G.o;omega
  rcases F.o with n | ⟨c,ak,rfl,T⟩
  ·rw[n] at f;simp at f
  rcases P.o with n | ⟨c',ag,rfl,J⟩
  ·rw[n] at m;simp at m
  obtain⟨x,hx,t⟩:=T k f;obtain⟨y,hy,z⟩:=J k m;have ai:(k:Int)<(A.length:Int):=by omega
  have aj:(k:Int)<(B.length:Int):=by omega
  have E:=ZZ (M.o k f);have u:Hid (A.getD k []=B.getD k []->A.take (k+1)=B.take (k+1)):=ZZ (fun h=>ZnV f m H.out h)
  have l:=ZZ (Q.o x y _ _ t z);obtain⟨xa,xc,ad⟩:∃ a c,x=.slice a (A.getD k []).length c:=by obtain⟨a,c,h,-⟩:=t;exact⟨a,c,h⟩
  obtain⟨ya,yc,V⟩:∃ a c,y=.slice a (B.getD k []).length c:=by obtain⟨a,c,h,-⟩:=z;exact⟨a,c,h⟩
  subst ad V;clear T J t z R M F P Q;generalize A.getD k []=X at *;generalize B.getD k []=Y at *;by_cases d:X=Y
  ·have af:=ZZ (u.o d)
   have q:Hid (decide (X=Y)=true):=zah d;rw[q.o] at l;clear E u d
   go_wp2_with fail
   refine l.o.mono ?_;rintro e C ⟨rfl,g⟩;rw[g];clear g C;go_wp2;go_roundw
   case rel=>exact⟨k+1,by go_num,by omega,af,trivial⟩
   case measure=>simp[intOf];omega
  ·have U:=ZZ (E.o d)
   have q:Hid (decide (X=Y)=false):=zae d;rw[q.o] at l;clear E u d
   go_wp2_with fail
   refine l.o.mono ?_;rintro e C ⟨rfl,g⟩;rw[g];clear g C;go_wp2;go_ret;rw[U.o];exact⟨rfl,rfl⟩
theorem ZpX (v:Value) (L:List (List UInt8)) (w:World) (C:RdL w v L) (B:L.flatten.length<=1000000) (hn:L.length<=100000):
 Calls prog 131 #[v] w fun e w'=>∃ v',e=.returned v'∧Own w' w.heap.size v' L.flatten∧Below w.heap.size w w':=by
 have S:=ZZ (fun n W h=>ZqV n W h)
 have ai:=ZZ C;have l:Hid (∀ k,ZlO L k<=1000000):=fun k=>zas (Zvi L k) B
 have M:=ZZ (ZnB L);have ac:=ZZ (ZnA L);have z:=ZZ (ZqX L);have ab:=ZZ (ZqW L);obtain⟨F,q⟩:=zgy L.flatten;rw[<-q];rw[<-q] at z;obtain⟨ao,cap,rfl,-,-,-,O⟩:=C;have N:=ZZ O;clear O q B
 go_enter func131,ntmps131
 go_wp2
 go_loopw[3,11] (fun vs a wr=>∃ (k:Nat),vs=.int .i64 (ZlO L k:Int)∧a=.int .i64 (k:Int)∧k<=L.length∧wr=w) (fun _ a _=>L.length-(intOf a).toNat)
 case atStart=>exact⟨0,rfl,rfl,zai _,rfl⟩
 case round=>
  obtain⟨k,rfl,rfl,Z,E⟩:=hrel;have T:=E.symm;subst T;clear E;by_cases f:k<L.length
  ·rcases N.o with p | ⟨c,af,rfl,g⟩
   ·rw[p] at f;simp at f
   obtain⟨x,hx,i⟩:=g k f;have J:=l.o (k+1);have y:=M.o k f;obtain⟨ax,V,rfl,-⟩:=i;have h3:¬ ((ZlO L k:Int)+((L.getD k []).length:Int)<0):=by omega
   have h4:(ZlO L k:Int)+((L.getD k []).length:Int)<=1000000:=by omega
   have H2:=ZZ y;clear g J y;generalize ZlO L k=A at *;generalize (L.getD k []).length=D at *;go_wp2;go_roundw
   case rel=>exact⟨k+1,by rw[H2.o],by go_num,by omega,trivial⟩
   case measure=>simp[intOf];omega
  ·have ag:=ZZ (S.o (ZlO L k) w (l.o k))
   generalize ZlO L k=A at *
   go_wp2_with fail
   refine ag.o.mono ?_;rintro e W1 ⟨v1,rfl,K,R⟩;have G:=ZZ K;have Q:=ZZ R;clear K R Z f;go_wp2
   go_loopw[6,27] (fun vo a H=>∃ (j:Nat),a=.int .i64 (j:Int)∧j<=L.length∧Hid (Own H w.heap.size vo (Zvh L j))∧Hid (Below w.heap.size w H)) (fun _ a _=>L.length-(intOf a).toNat)
   case atStart=>exact⟨0,rfl,zai _,G,Q⟩
   case round=>
    clear G Q;obtain⟨j,rfl,hj,u,d⟩:=hrel;by_cases b:j<L.length
    ·rcases N.o with p | ⟨c,af,rfl,g⟩
     ·rw[p] at b;simp at b
     obtain⟨x,m,i⟩:=g j b;have hx:=(d.o.cell (zau _ _ m)).trans m;have aa:=ZZ (i.below d.o zL);obtain⟨ax,V,rfl,-⟩:=i
     have ad:Hid ((Zvh L j).length+(L.getD j []).length<=70368744177664):=ZZ (by
      have J:=l.o (j+1);have y:=M.o j b;rw[ab.o]
      omega)
     have U:=ZZ d.o.size;have X:=ZZ (ac.o j b);clear g m;generalize L.getD j []=D at *;generalize Zvh L j=P at *
     go_wp2_with(at_builtin;refine Xw _ rfl _ _ rfl w.heap.size _ P rfl u.o _ D rfl aa.o ad.o U.o ?_)
     intro v3 W3 t I;rw[<-X.o] at t;have Y:=ZZ t;have ae:=ZZ (d.o.trans I);clear t I;go_wp2;go_roundw
     case rel=>exact⟨j+1,by go_num,by omega,Y,ae⟩
     case measure=>simp[intOf];omega
    ·have HE:=ZZ (z.o j (by omega))
     rw[HE.o] at u;go_wp2;go_ret;exact⟨_,rfl,u.o,d.o⟩
def Zme (P:List (List UInt8)) (n c:Nat):Int:=if P.flatten.length≠n then 16 else if ¬ Zfx P then 3 else if Q2 0 P.flatten≠c then 4 else 0
def Joined (w:World) (F:List UInt8) (er:Int) (e:Ending) (w':World):Prop:=
 ∃ v',e=.returned (.tuple #[v',.int .i64 er])∧Rd w' v' (if er=0 then F else[])∧Below w.heap.size w w'
theorem ZgH.rdl {xs:List Value} {L:List (List UInt8)} (h:ZgH v l xs L) (b:w'.ownsRow B 53 1 v' L.length xs) (i:Rd w' v l):RdL w' v' L:=by
 rcases b.2 with ⟨a,f⟩ | ⟨g,cap,cur,a,t,q,n,d,p,u⟩
 ·have e:L=[]:=zaj f
  subst e;rw[a];exact RdL.nil _
 ·refine⟨some ⟨g,0,none⟩,cap,a,n,d,(fun e=>by cases e),.inr ⟨g,0,rfl,fun j k=>?_⟩⟩
  obtain⟨x,m,-,c⟩:=h.2 j k;refine⟨x,?_,c w' i⟩;have:=zct b (g:=g) (by rw[a];rfl) j x m
  rw[zbg] at this;exact this
theorem ZxE (i:Int) (n c:Nat) (u:Value) (P:List (List UInt8)) (w:World) (C:RdL w u P) (af:P.flatten.length<=100000) (aw:P.length<=100000):
 Calls prog 116 #[.agg #[.int .i64 i,.int .i64 (n:Int),.int .u32 (c:Int)],u] w fun e w'=>Joined w P.flatten (Zme P n c) e w':=by
 have t:Hid (Below w.heap.size w (w.alloc (.cells #[.int .i64 i,.int .i64 (n:Int),.int .u32 (c:Int)] 147))):=ZZ ((zac _ _).alloc zL _);have L:Hid (Bq (w.alloc (.cells #[.int .i64 i,.int .i64 (n:Int),.int .u32 (c:Int)] 147)) w.heap.size #[.int .i64 i,.int .i64 (n:Int),.int .u32 (c:Int)]):=ZZ (zaf w _);have Q:=ZZ (fun W (h:Below w.heap.size w W)=>ZpX u P W (C.below h zL) (by omega) aw)
 have Z:=ZZ (fun B W h=>ZkB B P.flatten W h af)
 have A:=ZZ (fun vb W S b=>ZjV u vb P (Ya P.flatten) W S b)
 have K:=ZZ (fun B W h=>ZlQ B P.flatten W h)
 have HP:=ZZ C;have ai:decide (P=Ya P.flatten)=decide (Zfx P):=zcd.2 (ZuF P).symm;rw[ai] at A;have k:Hid (Zme P n c=if P.flatten.length≠n then 16 else if ¬ Zfx P then 3 else if Q2 0 P.flatten≠c then 4 else 0):=ZZ rfl
 obtain⟨pa,pc,av⟩:∃ a c,u=.slice a P.length c:=by obtain⟨a,c,h,-⟩:=C;exact⟨a,c,h⟩
 subst av;obtain⟨p,ao⟩:=zgy (Zme P n c);rw[<-ao] at k ⊢;obtain⟨N,R⟩:=zgy (decide (Zfx P));rw[<-R] at A;have aj:=ZZ R;clear ao C ai R;obtain⟨f,am⟩:=zgy P.flatten;rw[<-am] at Q Z A K k af ⊢;have aB:Hid (Ya f=Ya f):=ZZ rfl;clear am;generalize Ya f=PF at *;generalize Q2 0 f=Y at *;obtain⟨E,ab⟩:∃ E:Int,E=(n:Int):=⟨_,rfl⟩;obtain⟨d,O⟩:∃ d:Int,d=(c:Int):=⟨_,rfl⟩;obtain⟨g,aa⟩:∃ g:Int,g=(Y:Int):=⟨_,rfl⟩;rw[<-ab,<-O] at t L ⊢;rw[<-aa] at K;have ae:=ZZ ab;have ap:=ZZ O;have ag:=ZZ aa;clear ab O aa
 go_enter func116,ntmps116
 go_wp2_with fail
 refine(Q.o _ t.o).mono ?_;rintro e W1 ⟨B,rfl,U,ac⟩;have G:=ZZ (t.o.trans (ac.mono t.o.size));have ad:=ZZ (L.o.below ac zL);have I:=ZZ U.rd;obtain⟨a1,c1,aA⟩:∃ a c,B=.slice a f.length c:=by obtain⟨a,c,h,-⟩:=U.rd;exact⟨a,c,h⟩
 subst aA;obtain⟨p1,-⟩:=ad.o.cell 1;clear U ac Q t L;by_cases D:f.length=n
 case neg=>
  have m:Hid (p=16):=ZZ (by rw[k.o,zab D])
  have az:((f.length:Int) != E)=true:=by rw[zbf,ae.o];omega
  clear D k;go_wp2;go_ret2;rw[m.o];exact⟨_,rfl,Rd.nil _,G.o⟩
 have az:((f.length:Int) != E)=false:=by rw[zbj,ae.o];omega
 have HL:=ZZ D;clear D
 go_wp2_with fail
 refine(Z.o _ _ I.o).mono ?_;rintro e z ⟨v2,xs,rfl,aq,an,F⟩;have q:=ZZ (G.o.trans (F.mono G.o.size));have M:=ZZ (ad.o.below F zL);have H:=ZZ (I.o.below F zL);have ar:=ZZ (an.rdl aq H.o);obtain⟨a2,c2,ax⟩:∃ a c,v2=.slice a PF.length c:=by obtain⟨a,c,h,-⟩:=ar.o;exact⟨a,c,h⟩
 subst ax;clear aq F an p1 Z ad I G
 go_wp2_with fail
 refine(A.o _ _ (HP.o.below q.o zL) ar.o).mono ?_;rintro e v ⟨rfl,ak⟩;rw[ak];clear ak v A
 cases N with
 | false=>
  have m:Hid (p=3):=ZZ (by rw[k.o,zaa (fun h=>h HL.o),zab (zdo aj.o.symm)])
  clear k;go_wp2;go_ret2;rw[m.o];exact⟨_,rfl,Rd.nil _,q.o⟩
 | true=>
  have m:Hid (p=if Y≠c then 4 else 0):=ZZ (by rw[k.o,zaa (fun h=>h HL.o),zaa (fun h=>h (zcv aj.o.symm))])
  have al:=ZZ (K.o _ z.drew (H.o.below ((zac _ _).drew) zL));obtain⟨q2,-⟩:=M.o.cell 2
  go_upto_region 6 with fail
  go_cut[21] (fun x wc=>x=.bool (decide (g≠d))∧Hid (Rd wc (.slice a1 f.length c1) f)∧Hid (Below w.heap.size w wc))
  case first=>
   by_cases j:g=d
   ·have S:(g != d)=false:=by rw[zbj];exact j
    have b:decide (g≠d)=false:=zae (fun h=>h j)
    have T:=ZZ b;clear j b
    go_region_held(fun w'=>w'.cell? ⟨w.heap.size,2,none⟩=some (.int .u32 d)) (go_keep)
     (first
      | (go_at_call 136;refine al.o.mono ?_;rintro e v ⟨rfl,y⟩;have l:Below z.heap.size z v:=((zac _ _).drew).trans y;have V:=ZZ (q.o.trans (l.mono q.o.size));have X:=ZZ (H.o.below l zL);obtain⟨r2,-⟩:=(M.o.below l zL).cell 2;clear y l))
    all_goals
     go_wp2_with fail
     go_meet
     exact⟨by rw[T.o],X,V⟩
   ·have S:(g != d)=true:=by rw[zbf];exact j
    have b:decide (g≠d)=true:=zah j;have T:=ZZ b;clear j b
    go_region_held(fun w'=>w'.cell? ⟨w.heap.size,2,none⟩=some (.int .u32 d)) (go_keep)
     (first
      | (go_at_call 136;refine al.o.mono ?_;rintro e v ⟨rfl,y⟩;have l:Below z.heap.size z v:=((zac _ _).drew).trans y;have V:=ZZ (q.o.trans (l.mono q.o.size));have X:=ZZ (H.o.below l zL);obtain⟨r2,-⟩:=(M.o.below l zL).cell 2;clear y l))
    all_goals
     go_wp2_with fail
     go_meet
     exact⟨by rw[T.o],X,V⟩
  case rest=>
   obtain⟨WC,rfl⟩:=zgy wc;obtain⟨rfl,ay,au⟩:=hcut;by_cases j:Y=c
   ·have J:Hid (p=0):=ZZ (by rw[m.o,zaa (by omega)])
    have b:decide (g≠d)=false:=zae (by have:=ap.o;have:=ag.o;omega)
    rw[b];clear b j k m;go_wp2;go_ret2;rw[J.o];exact⟨_,rfl,ay.o,au.o⟩
   ·have J:Hid (p=4):=ZZ (by rw[m.o,zab j])
    have b:decide (g≠d)=true:=zah (by have:=ap.o;have:=ag.o;omega)
    rw[b];clear b j k m;go_wp2;go_ret2;rw[J.o];exact⟨_,rfl,Rd.nil _,au.o⟩
theorem ZxF (b a:Nat) (L:List (List UInt8)) (cap:Nat) (B:L.length<=cap) (m:1<=L.length):
 ∃ l i,(∀ W,(Instr.sliceAt 144 (.slice (some ⟨b,a,none⟩) L.length cap) (some (.int .i64 1)) none none).run prog W=.ok (.slice l (L.length-1) i) W)∧∀ W,RdL W (.slice (some ⟨b,a,none⟩) L.length cap) L->RdL W (.slice l (L.length-1) i) (L.drop 1):=by
 by_cases k:cap=1
 ·refine⟨some ⟨b,a,none⟩,cap-1,fun W=>?_,fun W h=>?_⟩
  ·have g:L.length=1:=by omega
   simp[go_sem,g,k]
  ·have g:L.drop 1=[]:=zd0 (by omega)
   obtain⟨p,A,d,u,v,w,f⟩:=h;simp only [za1] at d;obtain⟨rfl,-,rfl⟩:=d;exact⟨_,_,by rw[length_drop],by rw[length_drop];omega,by omega,(fun e=>by cases e),.inl g⟩
 ·refine⟨some ⟨b,a+1,none⟩,cap-1,fun W=>?_,fun W h=>?_⟩
  ·have q:(1:Int)<=(L.length:Int):=by omega
   simp[go_sem,k,q]
  ·obtain⟨p,A,d,u,v,w,f⟩:=h
   simp only [za1] at d;obtain⟨rfl,-,rfl⟩:=d;refine⟨_,_,by rw[length_drop],by rw[length_drop];omega,by omega,(fun e=>by cases e),?_⟩
   rcases f with f | ⟨b',C,c,z⟩
   ·rw[f] at m
    simp at m
   ·injection c with c
    injection c with c k7 _
    subst c k7;refine .inr ⟨b,a+1,rfl,fun j t=>?_⟩
    rw[length_drop] at t;obtain⟨x,y,n⟩:=z (j+1) (by omega)
    refine⟨x,by rw[show a+1+j=a+(j+1) by omega];exact y,?_⟩
    have e:(L.drop 1).getD j []=L.getD (j+1) []:=by simp[List.getD]
    rw[e];exact n
theorem Zte:Zge []=(Yb,16):=rfl
theorem ZpY (d:List UInt8) (P:List (List UInt8)):Zge (d::P)=if(Yx d).2.2.2≠0 then(Yb,(Yx d).2.2.2) else if Zme P (Yx d).2.1 (Yx d).2.2.1≠0 then(Yb,Zme P (Yx d).2.1 (Yx d).2.2.1)
 else if(Yu P.flatten).2≠0 then(Yb,(Yu P.flatten).2) else if Z6 ⟨((Yx d).1:Nat),(Yu P.flatten).1.st,(Yu P.flatten).1.tab⟩ then(⟨((Yx d).1:Nat),(Yu P.flatten).1.st,(Yu P.flatten).1.tab⟩,0) else(Yb,1):=by
 unfold Zme;rw[Zge];by_cases b:(Yx d).2.2.2≠0
 ·rw[zab b,zab b]
 rw[zaa b,zaa b];by_cases c:P.flatten.length≠(Yx d).2.1
 ·rw[zab c,zab c,zab (by decide)]
 rw[zaa c,zaa c];by_cases e:¬ Zfx P
 ·rw[zab e,zab e,zab (by decide)]
 rw[zaa e,zaa e];by_cases a:Q2 0 P.flatten≠(Yx d).2.2.1
 ·rw[zab a,zab a,zab (by decide)]
 rw[zaa a,zaa a,zaa (show ¬ ((0:Int)≠0) by decide)]
theorem ZeU:∀ L:List (List UInt8),L.flatten.length+L.length<=(Qf L).length
 | []=>by simp[Qf]
 | x::t=>by
  have a:=ZeU t;have:=Q9 x;rw[Q8,length_append,flatten_cons,length_append,length_cons];omega
theorem ZpZ (v:Value) (b:List UInt8) (w:World) (hr:Rd w v b) (bN:b.length<=100000):
 Calls prog 76 #[v] w fun e w'=>Zch w (ZmE b) e w':=by
 obtain⟨W0,ab⟩:=zgy (w.alloc (.cells #[.int .i64 0,.int .i64 0,.slice none 0 0,.bool false,.int .i64 0,.slice none 0 0] 41));have J:Hid (Below w.heap.size w W0):=ZZ (by rw[ab];exact(zac _ _).alloc zL _)
 have am:Hid (Bn W0 w.heap.size #[.int .i64 0,.int .i64 0,.slice none 0 0,.bool false,.int .i64 0,.slice none 0 0]):=ZZ (by rw[ab];exact zaf w _)
 have G:=ZZ (ZyX v b W0 (hr.below J.o zL) (by omega))
 obtain⟨va,vc,hv⟩:∃ a c,v=.slice a b.length c:=by obtain⟨a,c,h,-⟩:=hr;exact⟨a,c,h⟩
 subst hv;obtain⟨l,aj⟩:=zgy (ZmE b);rw[<-aj];by_cases V:(Qp b).2.2=0
 case neg=>
  have F:Hid (l=(Yb,(((Qp b).2.2:Nat):Int))):=ZZ (by rw[aj];unfold ZmE;rw[zab V])
  have ha:Zyl b=([],(Qp b).2.2):=by unfold Zyl;rw[zaa V]
  rw[ha] at G
  dsimp only at G
  generalize (Qp b).2.2=er at *;have aD:((er:Int) != 0)=true:=by rw[zbf];omega
  obtain⟨E,hE⟩:∃ E:Int,E=(er:Int):=⟨_,rfl⟩;rw[<-hE] at G F aD;clear ha aj V hE hr
  go_enter func76,ntmps76
  go_wp2_with fail
  rw[<-ab];refine G.o.mono ?_;rintro e W1 ⟨Y,rfl,T,C⟩;have g:=ZZ (am.o.below C zL);have Q:=ZZ (J.o.trans (C.mono J.o.size));obtain⟨x,y0⟩:=g.o.cell 0;obtain⟨q,y1⟩:=g.o.cell 1;obtain⟨y,y2⟩:=g.o.cell 2;obtain⟨p,y3⟩:=g.o.cell 3;obtain⟨u,y4⟩:=g.o.cell 4;obtain⟨z,y5⟩:=g.o.cell 5;clear C T;go_wp2;refine zap (v:=.tuple #[.agg #[.int .i64 0,.int .i64 0,.slice none 0 0,.bool false,.int .i64 0,.slice none 0 0],.int .i64 E]) (by simp[results,Tryz.results76,go_sem,x,q,y,p,u,z]) rfl ?_
  rw[F.o];exact Zch.zero _ (Zbf Q.o _ zL _ _ _ _ _ _)
 have F:Hid (l=Zge (Qp b).1):=ZZ (by rw[aj];unfold ZmE;rw[zaa (fun h=>h V)])
 have ha:Zyl b=((Qp b).1,0):=by unfold Zyl;rw[zab V]
 have av:=ZeU (Qp b).1;rw[(Zfv b.length b zL V).1] at av;rw[ha] at G
 dsimp only at G
 generalize (Qp b).1=LS at *;clear ha aj V hr
 cases LS with
 | nil=>
  rw[Zte] at F
  go_enter func76,ntmps76
  go_wp2_with fail
  rw[<-ab];refine G.o.mono ?_;rintro e W1 ⟨Y,rfl,T,C⟩;obtain⟨a1,c1,aR⟩:∃ a c,Y=.slice a 0 c:=by obtain⟨a,c,h,-⟩:=T;exact⟨a,c,h⟩
  subst aR;have g:=ZZ (am.o.below C zL);have Q:=ZZ (J.o.trans (C.mono J.o.size));obtain⟨x,y0⟩:=g.o.cell 0;obtain⟨q,y1⟩:=g.o.cell 1;obtain⟨y,y2⟩:=g.o.cell 2;obtain⟨p,y3⟩:=g.o.cell 3;obtain⟨u,y4⟩:=g.o.cell 4;obtain⟨z,y5⟩:=g.o.cell 5;clear C T;go_wp2;refine zap (v:=.tuple #[.agg #[.int .i64 0,.int .i64 0,.slice none 0 0,.bool false,.int .i64 0,.slice none 0 0],.int .i64 16]) (by simp[results,Tryz.results76,go_sem,x,q,y,p,u,z]) rfl ?_
  rw[F.o];exact Zch.zero _ (Zbf Q.o _ zL _ _ _ _ _ _)
 | cons d P=>
  rw[ZpY] at F;have bo:P.flatten.length<=100000:=by rw[flatten_cons,length_append,length_cons] at av;omega
  have bM:P.length<=100000:=by rw[flatten_cons,length_append,length_cons] at av;omega
  have aO:Hid ((d::P).length=P.length+1):=ZZ rfl;have ay:=ZZ (fun Y W h=>ZgK Y d W h)
  have bb:=ZZ (fun i n c vp W h=>ZxE i n c vp P W h bo bM)
  have bn:=ZZ (fun Y W h=>Zmd Y P.flatten W h bo)
  have aP:Hid (I64 ((Yx d).1:Nat)):=ZZ (by
   have:(Yx d).1<4611686018427387904:=by
    unfold Yx;split
    ·decide
    dsimp only
    split
    ·decide
    split
    ·decide
    split
    ·decide
    rcases Xf (d.drop (1+(Qb (d.drop 1)).2)) with h | h
    ·rw[h];exact(by decide:(0:Nat)<4611686018427387904)
    ·exact h.1
   exact⟨by omega,by omega⟩)
  unfold ZzR at ay
  have ao:Hid (∀ (W:World) (n:Int),Below w.heap.size w W->l=(Yb,n)->Zch w l (.returned (.tuple #[.agg #[.int .i64 0,.int .i64 0,.slice none 0 0,.bool false,.int .i64 0,.slice none 0 0],.int .i64 n])) ((((((W.setCell ⟨w.heap.size,0,none⟩ (.int .i64 0)).setCell ⟨w.heap.size,1,none⟩ (.int .i64 0)).setCell ⟨w.heap.size,2,none⟩ (.slice none 0 0)).setCell ⟨w.heap.size,3,none⟩ (.bool false)).setCell ⟨w.heap.size,4,none⟩ (.int .i64 0)).setCell ⟨w.heap.size,5,none⟩ (.slice none 0 0))):=ZZ (fun W n h e=>by
   rw[e]
   exact Zch.zero _ (Zbf h _ zL _ _ _ _ _ _))
  clear av;generalize Yx d=RM at *;obtain⟨f,M,R,me⟩:=RM
  dsimp only at F ay aP
  have a8:=ZZ (fun rb ro c h=>ZxF rb ro (d::P) c h (by simp))
  have bP:(P.length:Int)<=100000:=by omega
  go_enter func76,ntmps76
  go_wp2_with fail
  rw[<-ab];refine G.o.mono ?_;rintro e W1 ⟨Y,rfl,T,C⟩;have g:=ZZ (am.o.below C zL);have Q:=ZZ (J.o.trans (C.mono J.o.size));have aI:=ZZ T;obtain⟨a1,c1,aR,a2,-,-,bK⟩:=T;subst aR;rcases bK with h0 | ⟨rb,ro,rfl,hc⟩
  ·cases h0
  obtain⟨x0,aX,ba⟩:=hc 0 (by simp)
  have bE:W1.cell? ⟨rb,ro,none⟩=some x0:=aX;have aU:Rd W1 x0 d:=ba;have a5:=ZZ aU;obtain⟨xa,xc,bI⟩:∃ a c,x0=.slice a d.length c:=by obtain⟨a,c,h,-⟩:=aU;exact⟨a,c,h⟩
  subst bI;obtain⟨ra,rc,bt,aZ⟩:=a8.o rb ro c1 a2;rw[aO.o,zda] at bt;have aQ:=ZZ (fun W h=>aZ W h)
  rw[aO.o,zda,List.drop_one,List.tail_cons] at aQ;rw[aO.o] at aI ⊢;have bQ:((P.length:Int)+1 == 0)=false:=zad.2 (by omega)
  have bO:(0:Int)<(P.length:Int)+1:=by omega
  clear C hc aX ba aZ G a2 a8 aU ab am J
  go_wp2_with fail
  refine(ay.o _ _ a5.o).mono ?_;rintro e W2 ⟨rfl,ak⟩;obtain⟨j,ax⟩:=zgy (W2.alloc (.cells #[.int .i64 (f:Int),.int .i64 (M:Int),.int .u32 (R:Int)] 147));have aA:Hid (Below W2.heap.size W2 j):=ZZ (by rw[ax];exact(zac _ _).alloc zL _)
  have ap:Hid (Bq j W2.heap.size #[.int .i64 (f:Int),.int .i64 (M:Int),.int .u32 (R:Int)]):=ZZ (by rw[ax];exact zaf W2 _)
  have O:=ZZ ((g.o.below ak zL).below aA.o zL);have aB:=ZZ ((Q.o.trans (ak.mono Q.o.size)).trans (aA.o.mono (zas Q.o.size ak.size)));have bm:=ZZ ((aI.o.below ak zL).below aA.o zL)
  go_upto_region 7 with fail
  rw[<-ax];obtain⟨N,bk⟩:=zgy W2.heap.size;rw[<-bk] at ap ⊢;clear ax bk ak bE g Q aI ay a5 aA;by_cases ae:me=0
  case neg=>
   have bA:(me != 0)=true:=by rw[zbf];exact ae
   have I:Hid (l=(Yb,me)):=ZZ (by rw[F.o,zab ae])
   obtain⟨x,y0⟩:=O.o.cell 0;obtain⟨q,y1⟩:=O.o.cell 1;obtain⟨y,y2⟩:=O.o.cell 2;obtain⟨p,y3⟩:=O.o.cell 3;obtain⟨u,y4⟩:=O.o.cell 4;obtain⟨z,y5⟩:=O.o.cell 5;clear ae;go_wp2;refine zap (v:=.tuple #[.agg #[.int .i64 0,.int .i64 0,.slice none 0 0,.bool false,.int .i64 0,.slice none 0 0],.int .i64 me]) (by simp[results,Tryz.results76,go_sem,x,q,y,p,u,z]) rfl ?_
   exact ao.o _ _ aB.o I.o
  have bA:(me != 0)=false:=by rw[zbj];exact ae
  have aw:Hid (l=if Zme P M R≠0 then(Yb,Zme P M R) else if(Yu P.flatten).2≠0 then(Yb,(Yu P.flatten).2) else if Z6 ⟨(f:Nat),(Yu P.flatten).1.st,(Yu P.flatten).1.tab⟩ then(⟨(f:Nat),(Yu P.flatten).1.st,(Yu P.flatten).1.tab⟩,0) else(Yb,1)):=ZZ (by rw[F.o,zaa (fun h=>h ae)])
  have ai:=ZZ (fun W h=>bb.o (f:Int) M R (.slice ra P.length rc) W h)
  obtain⟨H,bi⟩:=zgy (Zme P M R);rw[<-bi] at aw ai;unfold Joined at ai;clear ae bi F bb;generalize P.flatten=FL at *;obtain⟨m,aL⟩:=zgy (if H=0 then FL else[])
  rw[<-aL] at ai;have bH:=ZZ aL;clear aL
  have aJ:Hid (∀ W,Below j.heap.size j W->W.cell? ⟨N,0,none⟩=some (.int .i64 (f:Int))∧W.cell? ⟨N,1,none⟩=some (.int .i64 (M:Int))∧W.cell? ⟨N,2,none⟩=some (.int .u32 (R:Int))):=ZZ (fun W h=>by
   have hx:=ap.o.below h zL
   exact⟨(hx.cell 0).1,(hx.cell 1).1,(hx.cell 2).1⟩)
  have aG:Hid (Below j.heap.size j j.drew):=ZZ ((zac _ _).drew)
  go_upto_region 9 with fail
  go_cut[5,7] (fun x5 x7 wc=>∃ a c,x5=.int .i64 H∧x7=.slice a m.length c∧Hid (Rd wc (.slice a m.length c) m)∧Hid (Below j.heap.size j wc))
  case first=>
   go_region_held(fun w'=>w'.cell? ⟨N,0,none⟩=some (.int .i64 (f:Int))∧w'.cell? ⟨N,1,none⟩=some (.int .i64 (M:Int))∧w'.cell? ⟨N,2,none⟩=some (.int .u32 (R:Int))) (first | (with_reducible exact aJ.o _ aG.o) | (with_reducible exact aJ.o _ bu))
    (first
     | (go_at_call 116;refine(ai.o j.drew (aQ.o _ (bm.o.below aG.o zL))).mono ?_;rintro e W4 ⟨v4,rfl,aK,bw⟩;have bu:Below j.heap.size j W4:=aG.o.trans bw;have aF:=ZZ aK;obtain⟨a4,c4,bJ⟩:∃ a c,v4=.slice a m.length c:=(by obtain⟨a,c,h,-⟩:=aK;exact⟨a,c,h⟩);subst bJ;clear aK bw))
   all_goals
    go_wp2_with fail
    go_meet
    exact⟨a4,c4,rfl,rfl,aF,ZZ bu⟩
  case rest=>
   obtain⟨WC,rfl⟩:=zgy wc;obtain⟨a4,c4,rfl,rfl,aF,aC⟩:=hcut;have D:=ZZ (O.o.below aC.o zL);have bd:=ZZ (ap.o.below aC.o zL);have an:=ZZ (aB.o.trans (aC.o.mono aB.o.size));clear O ap aB bm aC aJ aG ai aQ bt;by_cases U:H=0
   case neg=>
    have bL:(H != 0)=true:=by rw[zbf];exact U
    have I:Hid (l=(Yb,H)):=ZZ (by rw[aw.o,zab U])
    obtain⟨x,y0⟩:=D.o.cell 0;obtain⟨q,y1⟩:=D.o.cell 1;obtain⟨y,y2⟩:=D.o.cell 2;obtain⟨p,y3⟩:=D.o.cell 3;obtain⟨u,y4⟩:=D.o.cell 4;obtain⟨z,y5⟩:=D.o.cell 5;clear U;go_wp2;refine zap (v:=.tuple #[.agg #[.int .i64 0,.int .i64 0,.slice none 0 0,.bool false,.int .i64 0,.slice none 0 0],.int .i64 H]) (by simp[results,Tryz.results76,go_sem,x,q,y,p,u,z]) rfl ?_
    exact ao.o _ _ an.o I.o
   have bL:(H != 0)=false:=by rw[zbj];exact U
   have bB:m=FL:=by rw[bH.o,zab U]
   subst bB;have ad:Hid (l=if(Yu m).2≠0 then(Yb,(Yu m).2) else if Z6 ⟨(f:Nat),(Yu m).1.st,(Yu m).1.tab⟩ then(⟨(f:Nat),(Yu m).1.st,(Yu m).1.tab⟩,0) else(Yb,1)):=ZZ (by rw[aw.o,zaa (fun h=>h U)])
   have bp:=ZZ (bn.o _ _ aF.o);clear U aw bn
   go_wp2_with fail
   refine bp.o.mono ?_;rintro e W5 ⟨vl,vt,S,t,ok,rfl,aT,br,bv,aM,be,bg,a7,aY,az⟩;obtain⟨la,lc,bz⟩:∃ a c,vl=.slice a S.L.length c:=by obtain⟨a,c,h,-⟩:=aT;exact⟨a,c,h⟩
   obtain⟨ta,tc,bD⟩:=aM.shape;subst bz bD;obtain⟨A,aq⟩:=zgy (W5.alloc (.cells #[.int .i64 S.kind,.slice la S.L.length lc,.bool S.shut,.int .i64 S.eng] 38));have aa:Hid (Below W5.heap.size W5 A):=ZZ (by rw[aq];exact(zac _ _).alloc zL _)
   have af:Hid (Bx A W5.heap.size #[.int .i64 S.kind,.slice la S.L.length lc,.bool S.shut,.int .i64 S.eng]):=ZZ (by rw[aq];exact zaf W5 _)
   have K:=ZZ ((D.o.below az zL).below aa.o zL);have bF:=ZZ ((bd.o.below az zL).below aa.o zL);have aW:=ZZ (an.o.trans (az.mono an.o.size));have aV:=ZZ (aW.o.trans (aa.o.mono aW.o.size));have bq:=ZZ (aT.below aa.o zL);have a6:=ZZ (aM.below aa.o zL);have aE:=ZZ (And.intro br bv);have au:Hid ((∀ k,(Value.slice la S.L.length lc).ownBlock=some k->w.heap.size<k)∧(∀ k,(Value.slice ta t.length tc).ownBlock=some k->w.heap.size<k)):=ZZ ⟨fun k B=>by have h1:=be k B;have h2:=D.o.lt;omega,fun k B=>by have h1:=bg k B;have h2:=D.o.lt;omega⟩
   have bj:=ZZ a7;have bf:=ZZ aY
   go_upto_region 13 with fail
   rw[<-aq];obtain⟨QS,bl⟩:=zgy W5.heap.size;rw[<-bl] at af ⊢;clear aq bl aT br bv aM be bg a7 aY az D bd an bp aF aa aW
   cases ok with
   | false=>
    have h3:=bj.o rfl;have I:Hid (l=(Yb,3)):=ZZ (by rw[ad.o,zab (by rw[h3];decide),h3])
    obtain⟨x,y0⟩:=K.o.cell 0;obtain⟨q,y1⟩:=K.o.cell 1;obtain⟨y,y2⟩:=K.o.cell 2;obtain⟨p,y3⟩:=K.o.cell 3;obtain⟨u,y4⟩:=K.o.cell 4;obtain⟨z,y5⟩:=K.o.cell 5;clear h3;go_wp2;refine zap (v:=.tuple #[.agg #[.int .i64 0,.int .i64 0,.slice none 0 0,.bool false,.int .i64 0,.slice none 0 0],.int .i64 3]) (by simp[results,Tryz.results76,go_sem,x,q,y,p,u,z]) rfl ?_
    exact ao.o _ _ aV.o I.o
   | true=>
    obtain⟨er,bc,aD⟩:=bf.o rfl;rw[bc] at ad
    dsimp only at ad
    have I:Hid (l=if Z6 ⟨(f:Nat),S,t⟩ then(⟨(f:Nat),S,t⟩,0) else(Yb,1)):=ZZ (by
     rcases aD with h | ⟨h,h2⟩
     ·rw[ad.o,zaa (fun h'=>h' h)]
     ·rw[ad.o,zab (by rw[h];decide),h,h2,zaa (ZuH _ _)])
    have aH:=ZZ (fun W (h:Below A.heap.size A W)=>ZqY (.agg #[.int .i64 ((f:Nat):Int),.int .i64 S.kind,.slice la S.L.length lc,.bool S.shut,.int .i64 S.eng,.slice ta t.length tc]) ⟨(f:Nat),S,t⟩ W ⟨_,_,rfl,bq.o.below h zL,aE.o.1,aE.o.2,a6.o.below h zL,aP.o⟩)
    obtain⟨m0,-⟩:=bF.o.cell 0;obtain⟨s0,-⟩:=af.o.cell 0;obtain⟨s1,-⟩:=af.o.cell 1;obtain⟨s2,-⟩:=af.o.cell 2;obtain⟨s3,-⟩:=af.o.cell 3;have ag:Hid (∀ X,Below A.heap.size A (A.alloc X)):=ZZ (fun X=>(zac _ _).alloc zL X)
    have a3:Hid (∀ cs,Bn (A.alloc (.cells cs 41)) A.heap.size cs):=ZZ (fun cs=>zaf A _)
    obtain⟨my,aS⟩:=zgy (decide (Z6 ⟨((f:Nat):Int),S,t⟩));rw[<-aS] at aH;have bx:=ZZ aS;clear bc aD bf bj ad aS
    go_wp2_with fail
    refine(aH.o _ (ag.o _)).mono ?_;rintro e W8 ⟨rfl,ar⟩;have ac:=ZZ ((K.o.below (ag.o _) zL).below ar zL);have Z:=ZZ ((a3.o _).below ar zL);have al:=ZZ ((ag.o _).trans (ar.mono (ag.o _).size));have a9:=ZZ (aV.o.trans (al.o.mono aV.o.size));have bG:=ZZ (bq.o.below al.o zL);have bC:=ZZ (a6.o.below al.o zL);obtain⟨x,y0⟩:=ac.o.cell 0;obtain⟨q,y1⟩:=ac.o.cell 1;obtain⟨y,y2⟩:=ac.o.cell 2;obtain⟨p,y3⟩:=ac.o.cell 3;obtain⟨u,y4⟩:=ac.o.cell 4;obtain⟨z,y5⟩:=ac.o.cell 5;clear ar aH m0 s0 s1 s2 s3 K ag a3 al
    cases my with
    | false=>
     have aN:Hid (l=(Yb,1)):=ZZ (by rw[I.o,zaa (zdo bx.o.symm)])
     go_wp2;refine zap (v:=.tuple #[.agg #[.int .i64 0,.int .i64 0,.slice none 0 0,.bool false,.int .i64 0,.slice none 0 0],.int .i64 1]) (by simp[results,Tryz.results76,go_sem,x,q,y,p,u,z]) rfl ?_
     exact ao.o _ _ a9.o aN.o
    | true=>
     have aN:Hid (l=(⟨((f:Nat):Int),S,t⟩,0)):=ZZ (by rw[I.o,zab (zcv bx.o.symm)])
     obtain⟨q0,-⟩:=Z.o.cell 0;obtain⟨q1,-⟩:=Z.o.cell 1;obtain⟨q2,-⟩:=Z.o.cell 2;obtain⟨q3,-⟩:=Z.o.cell 3;obtain⟨q4,-⟩:=Z.o.cell 4;obtain⟨q5,-⟩:=Z.o.cell 5;go_wp2;refine zap (v:=.tuple #[.agg #[.int .i64 (f:Int),.int .i64 S.kind,.slice la S.L.length lc,.bool S.shut,.int .i64 S.eng,.slice ta t.length tc],.int .i64 0]) (by simp[results,Tryz.results76,go_sem,x,q,y,p,u,z]) rfl ?_
     rw[aN.o];have a0:=ZqQ W8 w.heap.size (.int .i64 (f:Int)) (.int .i64 S.kind) (.slice la S.L.length lc) (.bool S.shut) (.int .i64 S.eng) (.slice ta t.length tc);exact⟨_,_,rfl,bG.o.but a0 (.inr fun k B=>by have:=au.o.1 k B;omega),aE.o.1,aE.o.2,bC.o.but a0 (.inr fun k B=>by have:=au.o.2 k B;omega),aP.o,(fun k B=>zgq (au.o.1 k B)),(fun k B=>zgq (au.o.2 k B)),ZeF a9.o _ zL _ _ _ _ _ _⟩
def Jy (m:List UInt8):Rec × Int × List UInt8 × Bool:=
 let m1:=behind (Qb m).2 m
 let m2:=behind (Qe m1).2 m1
 let m3:=behind (Xc m2).2 m2
 (⟨0,(Qb m).1,0,(Xc m2).1,zag (Qe m3).1⟩,zag (Qe m1).1,behind (Qe m3).2 m3,decide ((Qe m3).2≠0))
theorem ZeV (m:List UInt8):∃ c b a,c=behind (Qb m).2 m∧b=behind (Qe c).2 c∧a=behind (Xc b).2 b∧Jy m=(⟨0,(Qb m).1,0,(Xc b).1,zag (Qe a).1⟩,zag (Qe c).1,behind (Qe a).2 a,decide ((Qe a).2≠0)):=
 ⟨_,_,_,rfl,rfl,rfl,rfl⟩
theorem ZnW:(Xc []).2=0:=by
 have:=ZqE [];simpa using this
theorem Zcn {d:Nat} (h:behind d l≠[]):d≠0:=fun e=>h (by rw[e];rfl)
theorem ZkK (h:(Qe l).2≠0):l≠[]:=fun e=>h (by rw[e,Zbj])
theorem Ztf (h:(Qb l).2≠0):l≠[]:=fun e=>h (by rw[e,ZcS])
theorem Ztg (h:(Xc l).2≠0):l≠[]:=fun e=>h (by rw[e];exact ZnW)
theorem ZiV (h:(Qb l).2≠0):l=Lib.uvarint (Qb l).1++behind (Qb l).2 l:=by
 rw[Yv h,Z2 h,zbz]
theorem ZnX (h:(Qe l).2≠0):l=Lib.uvarint (Qe l).1++behind (Qe l).2 l:=by
 rw[Yv h,Zkf h,zbz]
theorem ZvG (h:(Xc l).2≠0):l=X6 (Xc l).1++behind (Xc l).2 l:=by
 rw[Yv h,(Zhv h).2,zbz]
theorem ZvH {m:List UInt8} (h:(Jy m).2.2.2=false):(Jy m).2.2.1=[]:=by
 unfold Jy at h ⊢;simp only [zc1,zbv] at h ⊢;rw[h];rfl
theorem take_nil:(Jy []).2.2.2=false:=by
 obtain⟨k,g,c,d,j,a,i⟩:=ZeV [];have f:k=[]:=by rw[d,ZcS];rfl
 have b:g=[]:=by rw[j,f,Zbj];rfl
 have e:c=[]:=by rw[a,b,ZnW];rfl
 rw[i,e];show decide ((Qe []).2≠0)=false;rw[Zbj];rfl
theorem Zth {m:List UInt8} (h:(Jy m).2.2.2=true):
 m=Lib.uvarint (Jy m).1.proc.toNat++(Lib.uvarint (Lib.zigzag (Jy m).2.1)++(X6 (Jy m).1.op++(Lib.uvarint (Lib.zigzag (Jy m).1.resp)++(Jy m).2.2.1))):=by
 obtain⟨b,a,c,j,n,d,t⟩:=ZeV m;rw[t] at h ⊢;simp only [zde] at h;have k:(Xc a).2≠0:=Zcn (l:=a) (by rw[<-d];exact ZkK h)
 have g:(Qe b).2≠0:=Zcn (l:=b) (by rw[<-n];exact Ztg k)
 have q:(Qb m).2≠0:=Zcn (l:=m) (by rw[<-j];exact ZkK g)
 have p:=ZnX h;have f:=ZvG k;have e:=ZnX g;have i:=ZiV q;rw[<-j] at i;rw[<-n] at e;rw[<-d] at f;show m=Lib.uvarint ((Qb m).1:Int).toNat++(Lib.uvarint (Lib.zigzag (zag (Qe b).1))++(X6 (Xc a).1++(Lib.uvarint (Lib.zigzag (zag (Qe c).1))++behind (Qe c).2 c)));rw[za9,ZbI,ZbI];exact i.trans (congrArg (Lib.uvarint (Qb m).1++·) (e.trans (congrArg (Lib.uvarint (Qe b).1++·) (f.trans (congrArg (X6 (Xc a).1++·) p)))))
theorem ZvI (m:List UInt8):I64 (Jy m).1.proc∧I64 (Jy m).2.1∧Zyw (Jy m).1.op∧I64 (Jy m).1.resp∧(Jy m).1.idx=0∧(Jy m).1.seq=0∧0<=(Jy m).1.proc:=by
 have a:∀ l:List UInt8,I64 (zag (Qe l).1):=fun l=>ZoL (Zle l)
 have u:(Qb m).1<4611686018427387904:=by
  rcases Xf m with e | e
  ·rw[e];decide
  ·exact e.1
 have j:∀ l:List UInt8,Zyw (Xc l).1:=fun l=>by
  by_cases h:(Xc l).2=0
  ·rw[Zrz h]
   exact⟨⟨by decide,by decide⟩,⟨by decide,by decide⟩,⟨by decide,by decide⟩⟩
  ·have d:=(Zhv h).1
   have b:=ZaM d;obtain⟨t,w,_⟩:=d;refine⟨?_,b.1,b.2⟩;generalize (Xc l).1.code=c at *;exact⟨by omega,by omega⟩
 obtain⟨g,k,p,x,v,q,f⟩:=ZeV m;have n:I64 ((Qb m).1:Int):=⟨by omega,by omega⟩
 have i:(0:Int)<=((Qb m).1:Int):=by omega
 rw[f];exact⟨n,a g,j k,a p,rfl,rfl,i⟩
theorem Zzd (m:List UInt8):(Jy m).2.2.1.length<=m.length:=by
 obtain⟨e,c,b,j,l,g,k⟩:=ZeV m;rw[k];have f:=Je (Qb m).2 m;have d:=Je (Qe e).2 e;have a:=Je (Xc c).2 c;have i:=Je (Qe b).2 b;rw[<-j] at f;rw[<-l] at d;rw[<-g] at a;exact zas i (zas a (zas d f))
theorem ZxG {a:List Rec} (j:∀ r ∈ a,Qz r) {r:Rec} (c:Qz r) (t:List UInt8):
 Jy (Zf a r++t)=(⟨0,r.proc,0,r.op,r.resp⟩,r.seq-Q7 a r.proc,t,true):=by
 have b:=Zeu j c;have d:=ZaX c;obtain⟨l,_,_,n,p,u,q,_⟩:=id c
 have E:Zf a r++t=Lib.uvarint r.proc.toNat++(Lib.uvarint (Lib.zigzag (r.seq-Q7 a r.proc))++(X6 r.op++(Lib.uvarint (Lib.zigzag r.resp)++t))):=by
  unfold Zf;simp only [append_assoc]
 rw[E]
 have i:(X6 r.op).length≠0:=by
  unfold X6;have:=J2 r.op.code.toNat;rw[length_append];omega
 have g:=Q4 r.proc.toNat (Lib.uvarint (Lib.zigzag (r.seq-Q7 a r.proc))++(X6 r.op++(Lib.uvarint (Lib.zigzag r.resp)++t))) (by omega)
 have k:=Y8 (Lib.zigzag (r.seq-Q7 a r.proc)) (X6 r.op++(Lib.uvarint (Lib.zigzag r.resp)++t)) (Zbd b);have m:=Zmy r.op l (Lib.uvarint (Lib.zigzag r.resp)++t);have e:=Y8 (Lib.zigzag r.resp) t (Zbd d);unfold Jy;simp only [g,Yv (J2 _),zgx,k,m,Yv i,e,Gw _ b.1 b.2,Gw _ d.1 d.2];have f:((r.proc.toNat:Nat):Int)=r.proc:=by omega
 rw[f,zah (J2 _)]
theorem Zco {ao:Option Addr} {cap:Nat} (g:Rd w (.slice ao l.length cap) l) (d:Nat) (j:d<=l.length):
 ∃ c a,(∀ W,(Instr.sliceAt 53 (.slice ao l.length cap) (some (.int .i64 (d:Int))) none none).run prog W=.ok (.slice c (l.drop d).length a) W)∧Rd w (.slice c (l.drop d).length a) (l.drop d):=by
 obtain⟨k,m,e,i,r⟩:=id g;simp only [za1] at e;obtain⟨rfl,_,rfl⟩:=e;have b:=g.mid d l.length cap j zL i zL;rw[zbc (by simp)] at b
 obtain⟨c,a,f,-⟩:=id b;rw[f] at b;refine⟨c,a,fun W=>?_,b⟩
 rw[zb5 W 53 _ _ _ _ Xu,zfi W 53 ao l.length cap Xu .i64 (d:Int) (by omega) (by omega),Jo,Zce]
 show Result.ok (sliced ao ((d:Int)).toNat l.length cap 1) W=_;rw[za9,f]
def ZjB (w:World) (g:Nat) (L:List Rec):Prop:=w.heap[g]?=some (.cells (Qt L).toArray 62 (0,0))
theorem ZjB.lt (h:ZjB w g L):g<w.heap.size:=(zan.1 h).1
theorem ZjB.below (h:ZjB w g L) (a:Below B w w') (b:w.heap.size<=B):ZjB w' g L:=(a.block g (by have:=h.lt;omega)).trans h
theorem ZjB.cell (h:ZjB w g L) (i:Nat):w.cell? ⟨g,i,none⟩=(Qt L)[i]?∧w.frozen? ⟨g,i,none⟩=false:=
 ⟨(zam w g i _ _ _ h).trans (by simp),za2 w g i _ _ h⟩
theorem ZjB.at (h:ZjB w g L) {k:Nat} (b:k<L.length):ZjI w g (k*7) (L.getD k Qi):=by
 have a:∀ j u,j<7->(Ja (L.getD k Qi))[j]?=some u->w.cell? ⟨g,k*7+j,none⟩=some u:=fun j u c d=>(h.cell _).1.trans ((Zbv L k j b c).trans d)
 exact⟨a 0 _ (by decide) rfl,a 1 _ (by decide) rfl,a 2 _ (by decide) rfl,a 3 _ (by decide) rfl,a 4 _ (by decide) rfl,a 5 _ (by decide) rfl,a 6 _ (by decide) rfl⟩
theorem Zgu:∀ (L:List Rec) (k j:Nat) (v:Value) (r:Rec),k<L.length->j<7->(Ja r).toList=(Ja (L.getD k Qi)).toList.set j v->(Qt L).set (k*7+j) v=Qt (L.set k r)
 | s::t,0,j,v,r,_,hj,h=>by
  have e:((s::t).getD 0 Qi)=s:=rfl;rw[e] at h;rw[Qt,zc3,za5,List.set_append_left _ _ (by simp[Ja];omega),<-h]
  rfl
 | s::t,k+1,j,v,r,hk,hj,h=>by
  have e:(k+1)*7+j=(Ja s).toList.length+(k*7+j):=by simp[Ja];omega
  have a:((s::t).getD (k+1) Qi)=t.getD k Qi:=by simp[List.getD]
  rw[a] at h;rw[Qt,e,zeu _ _ (by omega),zcf,Zgu t k j v r (by simpa using hk) hj h]
  rfl
theorem ZjB.set (h:ZjB w g L) {k:Nat} (a:k<L.length) (j:Nat) (b:j<7) (v:Value) (r:Rec) (c:(Ja r).toList=(Ja (L.getD k Qi)).toList.set j v):
 ZjB (w.setCell ⟨g,k*7+j,none⟩ v) g (L.set k r):=by
 have:=zba w g (k*7+j) _ _ v h;unfold ZjB;rw[<-Zgu L k j v r a b c];simpa using this
theorem Zav (a:k<L.length) (r:Rec):(L.set k r).getD k Qi=r:=by simp[List.getD,a]
theorem ZjB.seven (h:ZjB w g L) {k:Nat} (d:k<L.length) (i p s c a b y:Int):
 ZjB (((((((w.setCell ⟨g,k*7,none⟩ (.int .i64 i)).setCell ⟨g,k*7+1,none⟩ (.int .i64 p)).setCell ⟨g,k*7+2,none⟩ (.int .i64 s)).setCell ⟨g,k*7+3,none⟩ (.int .i64 c)).setCell ⟨g,k*7+4,none⟩ (.int .i64 a)).setCell ⟨g,k*7+5,none⟩ (.int .i64 b)).setCell ⟨g,k*7+6,none⟩ (.int .i64 y)) g (L.set k ⟨i,p,s,⟨c,a,b⟩,y⟩):=by
 have f:∀ r,k<(L.set k r).length:=fun r=>by simpa using d
 generalize C:L.getD k Qi=R;obtain⟨D,B,n,⟨m,l,j⟩,e⟩:=R;have A:=h.set d 0 (by decide) (.int .i64 i) ⟨i,B,n,⟨m,l,j⟩,e⟩ (by rw[C];rfl)
 have z:=A.set (f _) 1 (by decide) (.int .i64 p) ⟨i,p,n,⟨m,l,j⟩,e⟩ (by rw[Zav d];rfl)
 rw[zeg] at z;have v:=z.set (f _) 2 (by decide) (.int .i64 s) ⟨i,p,s,⟨m,l,j⟩,e⟩ (by rw[Zav d];rfl)
 rw[zeg] at v;have q:=v.set (f _) 3 (by decide) (.int .i64 c) ⟨i,p,s,⟨c,l,j⟩,e⟩ (by rw[Zav d];rfl)
 rw[zeg] at q;have x:=q.set (f _) 4 (by decide) (.int .i64 a) ⟨i,p,s,⟨c,a,j⟩,e⟩ (by rw[Zav d];rfl)
 rw[zeg] at x;have u:=x.set (f _) 5 (by decide) (.int .i64 b) ⟨i,p,s,⟨c,a,b⟩,e⟩ (by rw[Zav d];rfl)
 rw[zeg] at u;have t:=u.set (f _) 6 (by decide) (.int .i64 y) ⟨i,p,s,⟨c,a,b⟩,y⟩ (by rw[Zav d];rfl)
 rw[zeg] at t;exact t
theorem ZjB.rd (h:ZjB w g L) (b:∀ r ∈ L,Zcx r) (c:L.length<=maxLen):RdR w (.slice (some ⟨g,0,none⟩) L.length L.length) L:=
 ⟨_,_,rfl,zat _,c,(fun e=>by cases e),b,.inr ⟨g,0,rfl,fun j a=>by rw[za5];exact h.at a⟩⟩
theorem ZeW:∀ n:Nat,Qt (List.replicate n Qi)=List.replicate (n*7) (Value.int .i64 0)
 | 0=>rfl
 | n+1=>by
  have e:(n+1)*7=7+n*7:=by omega
  rw[zf1,Qt,ZeW n,e,<-List.replicate_append_replicate];rfl
theorem Zmf (w:World) (n:Nat) (l:n<=1000000):(Instr.makeSlice 29 (.int .i64 (n:Int)) (.int .i64 (n:Int))).run prog w=.ok (.slice (some ⟨w.heap.size,0,none⟩) n n) (w.alloc (.cells (Qt (List.replicate n Qi)).toArray 62)):=by
 obtain⟨f,a,g,d,k⟩:=zbo Zdg;have h:=run_make (P:=prog) w 29 62 f _ underlying29 a g .i64 .i64 (n:Int) (n:Int) (by omega) (zed _) (by rw[k];omega) (by omega)
 rw[za9,d] at h;rw[h]
 congr 3
 apply Array.ext';rw[ZeW];apply zet;intro i;show(madeCells #[Value.int .i64 0,.int .i64 0,.int .i64 0,.int .i64 0,.int .i64 0,.int .i64 0,.int .i64 0] (n*7)).toList[i]?=_;by_cases a:i<n*7
 ·have b:i % 7<7:=zfx _ (by decide)
  have e:∀ j,j<7->(#[Value.int .i64 0,.int .i64 0,.int .i64 0,.int .i64 0,.int .i64 0,.int .i64 0,.int .i64 0]:Array Value)[j]! = .int .i64 0:=by
   intro j c
   match j,c with
   | 0,_ | 1,_ | 2,_ | 3,_ | 4,_ | 5,_ | 6,_=>rfl
  simp only [madeCells,Array.toList_map,Array.toList_range,List.getElem?_map,List.getElem?_range a,zcy,List.getElem?_replicate,zab a];exact congrArg some (e (i % 7) b)
 ·simp[madeCells,a]
structure Zqa (b:List UInt8) (first count:Nat) (L:List Rec) (m:List UInt8) (t:Bool):Prop where
 chain:Xl first L
 ok:∀ r ∈ L,Zcx r
 sound:t=true->(∀ r ∈ L,Qz r)->b=Lib.uvarint first++(Lib.uvarint count++(Yg [] L++m))
 none:t=false->m=[]
 whole:∀ l',Yc l'->X9 l'=b->l'.length=count∧L=l'.take L.length∧m=Yg (l'.take L.length) (l'.drop L.length)∧t=true∧(l'.headD Qi).idx=first
def ZcU (first:Nat) (L:List Rec) (r:Rec) (d:Int):Rec:=⟨(first:Int)+L.length,r.proc,IntKind.i64.wrap (Q7 L r.proc+d),r.op,r.resp⟩
theorem ZiW (n:Int):I64 (IntKind.i64.wrap n):=by
 unfold I64;rw[zbe];omega
theorem ZvJ {a d:Int} (j:0<=a) (i:a<4611686018427387904) (b:I64 d) (c:0<=IntKind.i64.wrap (a+d)) (e:IntKind.i64.wrap (a+d)<4611686018427387904):IntKind.i64.wrap (a+d)-a=d:=by
 obtain⟨f,g⟩:=b;rw[zbe] at *;omega
theorem Zqa.step {b:List UInt8} (h:Zqa b first g L m t) (hf:first<4611686018427387904) (aa:L.length<g) (hc:g<=256)
 {R:Rec} {d:Int} {m':List UInt8} {l:Bool} (k:Jy m=(R,d,m',l)):
 Zqa b first g (L++[ZcU first L R d]) m' l:=by
 have y:=ZvI m;have u:=@ZvH m;have q:=@Zth m
 have S:m=[]->l=false:=fun e=>by
  have:=take_nil;rw[<-e,k] at this;exact this
 rw[k] at y u q;obtain⟨hp,F,T,N,-,-,ab⟩:=y;refine⟨?_,?_,?_,u,?_⟩
 ·exact(ZfR L first (ZcU first L R d)).2 ⟨h.chain,rfl⟩
 ·intro r hr
  rcases zaw.1 hr with hr | hr
  ·exact h.ok r hr
  ·simp only [zaq] at hr
   rw[hr];have j:I64 ((first:Int)+L.length):=⟨by omega,by omega⟩
   exact⟨j,hp,ZiW _,T,N⟩
 ·intro c z
  have p:m≠[]:=fun e=>by
   rw[S e] at c
   cases c
  have G:t=true:=by
   cases t with
   | true=>rfl
   | false=>exact absurd (h.none rfl) p
  have v:∀ r ∈ L,Qz r:=fun r hr=>z r (by simp[hr])
  have H:Qz (ZcU first L R d):=z _ (by simp)
  have J:=h.sound G v;have Q:=q c;obtain⟨A,P⟩:=Zkh R.proc v;obtain⟨_,_,_,O,D,_⟩:=H;have K:(ZcU first L R d).seq-Q7 L (ZcU first L R d).proc=d:=ZvJ A P F O D
  have E:Yg [] (L++[ZcU first L R d])=Yg [] L++Zf L (ZcU first L R d):=by
   rw[ZhI];simp[Yg]
  have h1:Zf L (ZcU first L R d)++m'=m:=by
   unfold Zf;rw[K];refine Eq.trans ?_ Q.symm;simp only [append_assoc];rfl
  rw[E,append_assoc,h1];exact J
 ·intro a i U
  obtain⟨w1,n,X,w4,w⟩:=h.whole a i U;have f:L.length<a.length:=by omega
  have x:Qz (a.getD L.length Qi):=i.2.2.1 _ (by simp[List.getD,f])
  have M:∀ r ∈ L,Qz r:=fun r hr=>by
   rw[n] at hr;exact i.2.2.1 r (mem_of_mem_take hr)
  have Z:a.drop L.length=a.getD L.length Qi::a.drop (L.length+1):=by
   rw[zdr f];simp[List.getD,f]
  have p:m=Zf L (a.getD L.length Qi)++Yg (L++[a.getD L.length Qi]) (a.drop (L.length+1)):=by
   rw[X,Z,Yg,<-n]
  have c:=ZxG M x (Yg (L++[a.getD L.length Qi]) (a.drop (L.length+1)));rw[<-p,k] at c;have j:=ZnI a _ _ i.2.2.2 f;rw[w] at j;have el:(L++[ZcU first L R d]).length=L.length+1:=by simp
  rw[el,ZfQ f];rw[<-n];generalize a.getD L.length Qi=r at *;simp only [zca] at c;obtain⟨C,B,V,Y⟩:=c
  have W:ZcU first L R d=r:=by
   obtain⟨_,_,_,q0,q1,_⟩:=x;unfold ZcU;rw[C,B];have I:Q7 L r.proc+(r.seq-Q7 L r.proc)=r.seq:=by omega
   show(⟨_,r.proc,IntKind.i64.wrap (Q7 L r.proc+(r.seq-Q7 L r.proc)),r.op,r.resp⟩:Rec)=_;rw[I,ZoP ⟨by omega,by omega⟩,<-j]
  rw[W];exact⟨w1,rfl,V,Y,w⟩
theorem Zqa.done {b:List UInt8} (h:Zqa b first L.length L m t):
 (t=true∧m=[]∧Yc L->X9 L=b)∧(¬ (t=true∧m=[]∧Yc L)->∀ a,Yc a->X9 a≠b):=by
 constructor
 ·rintro⟨ht,hm,hf⟩
  have f:=h.sound ht hf.2.2.1;rw[hm,zcx] at f;rw[f];unfold X9;have c:=h.chain;have p:=hf.1
  match L,p,c with
  | r::u,_,c=>
   have e:r.idx=(first:Int):=c.1;show Lib.uvarint r.idx.toNat++_=_;rw[e,za9]
 ·intro k a d l
  obtain⟨i,g,n,j,q⟩:=h.whole a d l;rw[<-i,take_length] at g;refine k ⟨j,?_,by rw[g];exact d⟩
  rw[n,<-i,zez];rfl
theorem ZdW (x:Int) (d:Nat) (v:Value) (m:List UInt8) (w:World) (g:Rd w v m) (k:d<=m.length)
 (b:Calls prog 168 #[v] w fun e w'=>e=.returned (.tuple #[.int .i64 x,.int .i64 (d:Nat)])∧w'=w):
 Calls prog 167 #[v,.func (.func 168) #[] #[]] w fun e w'=>∃ v',e=.returned (.tuple #[.int .i64 x,v',.bool (decide (d≠0))])∧Rd w' v' (behind d m)∧Below w.heap.size w w':=by
 have f:=ZZ b;have l:=ZZ g;obtain⟨ao,cap,rfl,-⟩:=g;by_cases a:d=0
 ·subst a
  clear b
  go_enter func167,ntmps167
  go_wp2_with fail
  refine f.o.mono ?_;rintro e w' ⟨rfl,rfl⟩;go_wp2;refine zap (v:=.tuple #[.int .i64 x,.slice none 0 0,.bool false]) (by simp[results,Tryz.results167,go_sem]) rfl ?_
  exact⟨_,rfl,Rd.nil _,zac _ _⟩
 ·have t:((d:Int) == 0)=false:=zad.2 (by omega)
  have i:Hid (behind d m=m.drop d):=zaa a;have j:Hid (decide (d≠0)=true):=zah a;obtain⟨q,n,hcut,c⟩:=Zco l.o d k;have p:=ZZ c;clear b a c;generalize m.drop d=M at *
  go_enter func167,ntmps167
  go_wp2_with fail
  refine f.o.mono ?_;rintro e w' ⟨rfl,rfl⟩;go_wp2;refine ze3 (by kernel_rfl) (by kernel_rfl) ?_
  repeat (go_big_quiet_step (fail))
  refine zdt ?_;rintro _ ⟨nq,rfl⟩;go_wp2;refine zap (v:=.tuple #[.int .i64 x,.slice q M.length n,.bool true]) (by simp[results,Tryz.results167,go_sem]) rfl ?_
  refine⟨_,by rw[j.o],?_,Xo (zac _ _) _⟩
  rw[i.o];exact p.o.below (Xo (zac _ _) _) zL
theorem Zdy (x:Int) (d:Nat) (v:Value) (m:List UInt8) (w:World) (g:Rd w v m) (k:d<=m.length)
 (b:Calls prog 201 #[v] w fun e w'=>e=.returned (.tuple #[.int .i64 x,.int .i64 (d:Nat)])∧w'=w):
 Calls prog 167 #[v,.func (.func 201) #[] #[]] w fun e w'=>∃ v',e=.returned (.tuple #[.int .i64 x,v',.bool (decide (d≠0))])∧Rd w' v' (behind d m)∧Below w.heap.size w w':=by
 have f:=ZZ b;have l:=ZZ g;obtain⟨ao,cap,rfl,-⟩:=g;by_cases a:d=0
 ·subst a
  clear b
  go_enter func167,ntmps167
  go_wp2_with fail
  refine f.o.mono ?_;rintro e w' ⟨rfl,rfl⟩;go_wp2;refine zap (v:=.tuple #[.int .i64 x,.slice none 0 0,.bool false]) (by simp[results,Tryz.results167,go_sem]) rfl ?_
  exact⟨_,rfl,Rd.nil _,zac _ _⟩
 ·have t:((d:Int) == 0)=false:=zad.2 (by omega)
  have i:Hid (behind d m=m.drop d):=zaa a;have j:Hid (decide (d≠0)=true):=zah a;obtain⟨q,n,hcut,c⟩:=Zco l.o d k;have p:=ZZ c;clear b a c;generalize m.drop d=M at *
  go_enter func167,ntmps167
  go_wp2_with fail
  refine f.o.mono ?_;rintro e w' ⟨rfl,rfl⟩;go_wp2;refine ze3 (by kernel_rfl) (by kernel_rfl) ?_
  repeat (go_big_quiet_step (fail))
  refine zdt ?_;rintro _ ⟨nq,rfl⟩;go_wp2;refine zap (v:=.tuple #[.int .i64 x,.slice q M.length n,.bool true]) (by simp[results,Tryz.results167,go_sem]) rfl ?_
  refine⟨_,by rw[j.o],?_,Xo (zac _ _) _⟩
  rw[i.o];exact p.o.below (Xo (zac _ _) _) zL
theorem Bo.set (h:Bo w b cs) (j:Nat) (x:Value):Bo (w.setCell ⟨b,j,none⟩ x) b (cs.setIfInBounds j x):=by
 have:=zba w b j _ _ x h;unfold Bo;simpa using this
theorem Bo.three {e d c:Value} (h:Bo w b #[e,d,c]) (x y z:Value):Bo (((w.setCell ⟨b,0,none⟩ x).setCell ⟨b,1,none⟩ y).setCell ⟨b,2,none⟩ z) b #[x,y,z]:=by
 have a:=((h.set 0 x).set 1 y).set 2 z;exact a
theorem Zti (v:Value) (m:List UInt8) (w:World) (D:Rd w v m) (J:m.length<=1000000):
 Calls prog 208 #[v,.func (.func 209) #[] #[]] w fun e w'=>∃ v',e=.returned (.tuple #[opV (Xc m).1,v',.bool (decide ((Xc m).2≠0))])∧Rd w' v' (behind (Xc m).2 m)∧Below w.heap.size w w':=by
 have u:=ZZ (fun W h=>ZvE v m W h J)
 unfold ZuM at u;have q:=ZZ D;have R:=ZqE m;obtain⟨ao,cap,rfl,-⟩:=D;have l:Hid (∀ X,Below w.heap.size w (w.alloc X)):=fun X=>(zac _ _).alloc zL X
 generalize (Xc m).2=d at *;generalize (Xc m).1=o at *;have C:Hid (∀ cs,Bo (w.alloc (.cells cs 52)) w.heap.size cs):=fun cs=>zaf w _
 unfold opV at *;obtain⟨f,a,b⟩:=o
 dsimp only at *
 by_cases n:d=0
 ·subst n
  go_enter func208,ntmps208
  go_wp2_with fail
  refine(u.o _ (q.o.below (l.o _) zL)).mono ?_;rintro e i ⟨rfl,k⟩;have c:Bo i w.heap.size _:=(C.out _).below k zL;obtain⟨T,S⟩:=c.cell 0;obtain⟨N,O⟩:=c.cell 1;obtain⟨I,P⟩:=c.cell 2;have x:=ZZ ((l.o _).trans (k.mono (l.o _).size));have L:=c.lt;have F:i.heap.size≠w.heap.size:=by omega
  have U:w.heap.size≠i.heap.size:=by omega
  have A:=ZZ c;clear k c;go_wp2;have g:Bo ((((i.setCell ⟨w.heap.size,0,none⟩ (.int .i64 f)).setCell ⟨w.heap.size,1,none⟩ (.int .i64 a)).setCell ⟨w.heap.size,2,none⟩ (.int .i64 b)).alloc (.cells #[.int .i64 f,.int .i64 a,.int .i64 b] 52)) w.heap.size #[.int .i64 f,.int .i64 a,.int .i64 b]:=(A.o.three _ _ _).below ((zac _ _).alloc zL _) zL;have y:=(g.cell 0).1;have t:=(g.cell 1).1;have z:=(g.cell 2).1;have j:=ZZ (((x.o.setCell (p:=⟨w.heap.size,0,none⟩) zL (.int .i64 f)).setCell (p:=⟨w.heap.size,1,none⟩) zL (.int .i64 a)).setCell (p:=⟨w.heap.size,2,none⟩) zL (.int .i64 b));clear g;refine zap (v:=.tuple #[.agg #[.int .i64 f,.int .i64 a,.int .i64 b],.slice none 0 0,.bool false]) (by simp[results,Tryz.results208,go_sem,y,t,z]) rfl ?_
  exact⟨_,rfl,Rd.nil _,j.o.alloc j.o.size _⟩
 ·have V:((d:Int) == 0)=false:=zad.2 (by omega)
  have E:Hid (behind d m=m.drop d):=zaa n;have G:Hid (decide (d≠0)=true):=zah n;obtain⟨Q,H,hcut,B⟩:=Zco q.o d R;have K:=ZZ B;clear n B;generalize m.drop d=M at *
  go_enter func208,ntmps208
  go_wp2_with fail
  refine(u.o _ (q.o.below (l.o _) zL)).mono ?_;rintro e i ⟨rfl,k⟩;have c:Bo i w.heap.size _:=(C.out _).below k zL;obtain⟨T,S⟩:=c.cell 0;obtain⟨N,O⟩:=c.cell 1;obtain⟨I,P⟩:=c.cell 2;have x:=ZZ ((l.o _).trans (k.mono (l.o _).size));have L:=c.lt;have F:i.heap.size≠w.heap.size:=by omega
  have U:w.heap.size≠i.heap.size:=by omega
  have A:=ZZ c;clear k c;go_wp2
  go_region
  all_goals
   go_wp2;have g:Bo ((((i.setCell ⟨w.heap.size,0,none⟩ (.int .i64 f)).setCell ⟨w.heap.size,1,none⟩ (.int .i64 a)).setCell ⟨w.heap.size,2,none⟩ (.int .i64 b)).alloc (.cells #[.int .i64 f,.int .i64 a,.int .i64 b] 52)).drew w.heap.size #[.int .i64 f,.int .i64 a,.int .i64 b]:=(A.o.three _ _ _).below (((zac _ _).alloc zL _).drew) zL;have y:=(g.cell 0).1;have t:=(g.cell 1).1;have z:=(g.cell 2).1;have j:=ZZ (((x.o.setCell (p:=⟨w.heap.size,0,none⟩) zL (.int .i64 f)).setCell (p:=⟨w.heap.size,1,none⟩) zL (.int .i64 a)).setCell (p:=⟨w.heap.size,2,none⟩) zL (.int .i64 b));clear g;refine zap (v:=.tuple #[.agg #[.int .i64 f,.int .i64 a,.int .i64 b],.slice Q M.length H,.bool true]) (by simp[results,Tryz.results208,go_sem,y,t,z]) rfl ?_
   refine⟨_,by rw[G.o],?_,(j.o.alloc j.o.size _).drew⟩
   rw[E.o];exact K.o.below (j.o.alloc j.o.size _).drew zL
structure TIn (w W:World) (cs:Array Value) (v:Value) (m:List UInt8):Prop where
 box:Br W w.heap.size cs
 rd:Rd W v m
 below:Below w.heap.size w W
theorem TIn.next {W':World} {m':List UInt8} (h:TIn w W cs v m) (a:Below W.heap.size W W') (b:Rd W' v' m'):TIn w W' cs v' m':=
 ⟨h.box.below a zL,b,h.below.trans (a.mono h.below.size)⟩
theorem TIn.set (h:TIn w W cs v m) (j:Nat) {n:Int} (a:cs[j]?=some (.int .i64 n)) (x:Value):TIn w (W.setCell ⟨w.heap.size,j,none⟩ x) (cs.setIfInBounds j x) v m:=
 ⟨h.box.set j x,h.rd.setInt ((h.box.cell j).1.trans a),h.below.setCell zL _⟩
theorem ZjW (v:Value) (m:List UInt8) (w:World) (I:Rd w v m) (ac:m.length<=1000000):
 Calls prog 169 #[v] w fun e w'=>∃ v',e=.returned (.tuple #[Zso (Jy m).1,.int .i64 (Jy m).2.1,v',.bool (Jy m).2.2.2])∧Rd w' v' (Jy m).2.2.1∧Below w.heap.size w w':=by
 obtain⟨f,g,d,z,A,B,H⟩:=ZeV m;have U:=ZZ H;have N:=Je (Qb m).2 m;have M:=Je (Qe f).2 f;have G:=Je (Xc g).2 g;rw[<-z] at N;rw[<-A] at M;rw[<-B] at G
 have l:Hid (∀ W v,Rd W v m->Calls prog 167 #[v,.func (.func 168) #[] #[]] W fun e w'=>∃ v',e=.returned (.tuple #[.int .i64 ((Qb m).1:Nat),v',.bool (decide ((Qb m).2≠0))])∧Rd w' v' f∧Below W.heap.size W w'):=ZZ (fun W v h=>by
  have:=ZdW ((Qb m).1:Nat) (Qb m).2 v m W h (Ju m) (ZcJ v m W h);rw[<-z] at this
  exact this)
 have P:Hid (∀ W v,Rd W v f->Calls prog 167 #[v,.func (.func 201) #[] #[]] W fun e w'=>∃ v',e=.returned (.tuple #[.int .i64 (zag (Qe f).1),v',.bool (decide ((Qe f).2≠0))])∧Rd w' v' g∧Below W.heap.size W w'):=ZZ (fun W v h=>by
  have:=Zdy (zag (Qe f).1) (Qe f).2 v f W h (G0 f) (Zak v f W h);rw[<-A] at this
  exact this)
 have k:Hid (∀ W v,Rd W v g->Calls prog 208 #[v,.func (.func 209) #[] #[]] W fun e w'=>∃ v',e=.returned (.tuple #[opV (Xc g).1,v',.bool (decide ((Xc g).2≠0))])∧Rd w' v' d∧Below W.heap.size W w'):=ZZ (fun W v h=>by
  have:=Zti v g W h (by omega)
  rw[<-B] at this
  exact this)
 have S:Hid (∀ W v,Rd W v d->Calls prog 167 #[v,.func (.func 201) #[] #[]] W fun e w'=>∃ v',e=.returned (.tuple #[.int .i64 (zag (Qe d).1),v',.bool (decide ((Qe d).2≠0))])∧Rd w' v' (behind (Qe d).2 d)∧Below W.heap.size W w'):=ZZ (fun W v h=>Zdy (zag (Qe d).1) (Qe d).2 v d W h (G0 d) (Zak v d W h))
 have HR:=ZZ I;obtain⟨ao,cap,rfl,-⟩:=I;rw[U.o];clear H U z A B N M G;generalize decide ((Qe d).2≠0)=T at *;generalize behind (Qe d).2 d=t at *;generalize zag (Qe d).1=y at *;generalize zag (Qe f).1=x at *;generalize decide ((Qe f).2≠0)=T1 at *;generalize decide ((Xc g).2≠0)=T2 at *;generalize decide ((Qb m).2≠0)=T0 at *;obtain⟨p,K⟩:∃ p:Int,p=((Qb m).1:Nat):=⟨_,rfl⟩;rw[<-K] at l ⊢;clear K;generalize (Xc g).1=o at *;unfold opV at k;obtain⟨c,a,b⟩:=o
 dsimp only at k
 unfold Zso
 dsimp only
 have D:Hid (TIn w (w.alloc (.cells #[.int .i64 0,.int .i64 0,.int .i64 0,.int .i64 0,.int .i64 0,.int .i64 0,.int .i64 0] 62)) #[.int .i64 0,.int .i64 0,.int .i64 0,.int .i64 0,.int .i64 0,.int .i64 0,.int .i64 0] (.slice ao m.length cap) m):=
  ⟨zaf w _,HR.o.below ((zac _ _).alloc zL _) zL,(zac _ _).alloc zL _⟩
 go_enter func169,ntmps169
 go_wp2_with fail
 refine(l.o _ _ D.o.rd).mono ?_;rintro e W1 ⟨v1,rfl,E,aa⟩;have n:=ZZ (D.o.next aa E);obtain⟨p1,f1⟩:=n.o.box.cell 1;obtain⟨a1,c1,rfl,-⟩:=E;have u:=ZZ (n.o.set 1 rfl (.int .i64 p));clear aa D l
 go_wp2_with fail
 refine(P.o _ _ u.o.rd).mono ?_;rintro e W2 ⟨v2,rfl,Y,X⟩;have q:=ZZ (u.o.next X Y);obtain⟨a2,c2,rfl,-⟩:=Y;clear X n u P p1 f1
 go_wp2_with fail
 refine(k.o _ _ q.o.rd).mono ?_;rintro e W3 ⟨v3,rfl,R,Q⟩;have j:=ZZ (q.o.next Q R);obtain⟨p3,f3⟩:=j.o.box.cell 3;obtain⟨p4,f4⟩:=j.o.box.cell 4;obtain⟨p5,f5⟩:=j.o.box.cell 5;obtain⟨a3,c3,rfl,-⟩:=R;have C:=ZZ (((j.o.set 3 rfl (.int .i64 c)).set 4 rfl (.int .i64 a)).set 5 rfl (.int .i64 b));clear Q q k
 go_wp2_with fail
 refine(S.o _ _ C.o.rd).mono ?_;rintro e F ⟨v4,rfl,L,Z⟩;have O:=ZZ (C.o.next Z L);obtain⟨V,J,rfl,-⟩:=L;have i:Br F w.heap.size #[.int .i64 0,.int .i64 p,.int .i64 0,.int .i64 c,.int .i64 a,.int .i64 b,.int .i64 0]:=O.o.box;have ab:Hid (TIn w (F.setCell ⟨w.heap.size,6,none⟩ (.int .i64 y)) #[.int .i64 0,.int .i64 p,.int .i64 0,.int .i64 c,.int .i64 a,.int .i64 b,.int .i64 y] (.slice V t.length J) t):=O.o.set 6 rfl (.int .i64 y);obtain⟨q0,g0⟩:=i.cell 0;obtain⟨q1,g1⟩:=i.cell 1;obtain⟨q2,g2⟩:=i.cell 2;obtain⟨q3,g3⟩:=i.cell 3;obtain⟨q4,g4⟩:=i.cell 4;obtain⟨q5,g5⟩:=i.cell 5;obtain⟨q6,g6⟩:=i.cell 6;clear Z j C S p3 p4 p5 f3 f4 f5;go_wp2;refine zap (v:=.tuple #[.agg #[.int .i64 0,.int .i64 p,.int .i64 0,.int .i64 c,.int .i64 a,.int .i64 b,.int .i64 y],.int .i64 x,.slice V t.length J,.bool T]) (by simp[results,Tryz.results169,go_sem,q0,q1,q2,q3,q4,q5,q6]) rfl ?_
 have h:=(((((((ab.o.set 0 rfl (.int .i64 0)).set 1 rfl (.int .i64 p)).set 2 rfl (.int .i64 0)).set 3 rfl (.int .i64 c)).set 4 rfl (.int .i64 a)).set 5 rfl (.int .i64 b)).set 6 rfl (.int .i64 y));exact⟨_,rfl,h.rd,h.below⟩
end Go.Proofs.YtnahjngbneicaaaGreatDoor
