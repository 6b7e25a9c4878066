import Derived.Test.YtnahjngbneicaaaGreatDoorRows
import Derived.WalkKit
import Derived.ProofKit
import Derived.Lib.VarintMem
import Derived.Lib.Zigzag
import Derived.Lib.Endian
import Derived.Lib.VarintBits
import Derived.BigQuiet
import Derived.Deep.DeepCutAuto
import Derived.Deep.RegionHeld
import Derived.Maps.AppendAt
namespace Go.Proofs.YtnahjngbneicaaaGreatDoor
set_option linter.unusedSimpArgs false
open _root_.Go.Proofs.Tryz
open List (cons_append foldl_append getElem_mem length_append length_cons length_take map_cons map_nil mem_cons_of_mem mem_cons_self pairwise_cons)
set_option maxRecDepth 100000
variable {p:Prop} {B B' C R T b c cap f m m' n:Nat} {a:Bool} {w w':World} {g key kind least lo:Int} {v:Value} {l:List Int} {x:Addr} {cs:Array Value}
abbrev zaa:=@if_neg
abbrev zab:=@if_pos
abbrev zac:=@Go.RowKit.Below.refl
abbrev zai:=@decide_eq_false
abbrev zak:=@Go.heap_alloc_new
abbrev zan:=@decide_eq_true
abbrev zao:=@List.eq_nil_of_length_eq_zero
abbrev zap:=@Nat.zero_le
abbrev zaq:=@Option.some.inj
abbrev zar:=@Array.getElem?_eq_some_iff
abbrev zas:=@Go.cell_of_row
abbrev zat:=@Go.RowKit.Below.heap_setCell
abbrev zau:=@Nat.le_trans
abbrev zav:=@Go.RowKit.Below.heap_alloc
abbrev zaw:=@List.mem_singleton
abbrev zay:=@Nat.lt_of_lt_of_le
abbrev zaz:=@Go.World.ownsRow.lt
abbrev za0:=@Nat.le_refl
abbrev za1:=@Go.World.block_lt_of_cell?
abbrev za2:=@List.mem_append
abbrev za4:=@List.getElem?_eq_getElem
abbrev za8:=@Go.Lib.uvarint_length64
abbrev za9:=@Nat.zero_add
abbrev zbb:=@Go.Value.slice.injEq
abbrev zbc:=@Go.frozen_of_row
abbrev zbd:=@List.mem_cons
abbrev zbe:=@Go.Result.andThen_ok
abbrev zbl:=@List.take_of_length_le
abbrev zbm:=@List.mem_map
abbrev zbn:=@Go.Addr.add_lit
abbrev zbo:=@Go.IntKind.wrap_i64
abbrev zbr:=@List.getElem?_eq_some_iff
abbrev zbt:=@Go.Sem.run_bind
abbrev zbv:=@Go.Sem.run_pure
abbrev zbw:=@List.getElem?_eq_none
abbrev zbx:=@Go.info_parts
abbrev zbz:=@List.mem_of_mem_take
abbrev zb0:=@Go.wpList_plain
abbrev zb3:=@Go.World.ownsRow.alloc
abbrev zb4:=@Go.World.cell?_of_block
abbrev zb6:=@Option.some.injEq
abbrev zb8:=@Go.RowKit.ownsRow_setCell_below
abbrev zcd:=@List.pairwise_cons
abbrev zce:=@List.take_append_of_le_length
abbrev zch:=@List.map_toArray
abbrev zcj:=@Prod.mk.injEq
abbrev zck:=@Go.World.ownsRow_nil
abbrev zcs:=@List.mem_or_eq_of_mem_set
abbrev zcu:=@Go.Lib.uvarint_pos
abbrev zcw:=@List.length_singleton
abbrev zcy:=@Nat.min_eq_left
abbrev zc4:=@Go.World.ownsRow.cells
abbrev zdd:=@List.take_length
abbrev zdf:=@Go.run_append_own_at
abbrev zdh:=@List.length_filter_le
abbrev zdi:=@List.filter_cons
abbrev zdj:=@Nat.mod_eq_of_lt
abbrev zdn:=@Go.run_append_own
abbrev zdp:=@decide_eq_true_eq
abbrev zdr:=@List.take_succ_cons
abbrev zds:=@List.getElem_of_mem
abbrev zdx:=@List.take_succ_eq_append_getElem
abbrev zd0:=@List.drop_eq_getElem_cons
abbrev zd4:=@List.length_set
abbrev zd5:=@BitVec.ofInt_natCast
abbrev zd7:=@Bool.not_eq_true'
abbrev zd8:=@List.filter_sublist
abbrev zeb:=@BitVec.toNat_ofNat
abbrev zej:=@List.pairwise_map
abbrev zeo:=@Go.IntKind.wrap_u64
abbrev zes:=@List.length_pos_iff
abbrev zeu:=@if_true
abbrev ze2:=@Go.Lib.uvarint_small
abbrev ze7:=@and_true
abbrev ze8:=@List.mem_of_mem_drop
abbrev zfb:=@Bool.false_or
abbrev zff:=@Nat.pow_succ
abbrev zfg:=@Nat.mul_comm
abbrev zfq:=@Go.Lib.toUInt8_toNat
abbrev zft:=@Nat.mul_assoc
abbrev zfv:=@if_false
abbrev zfw:=@Go.World.cell?_spot
abbrev zfx:=@BitVec.toNat_xor
abbrev zf2:=@Go.Lib.uvarint_big
abbrev zf3:=@Nat.xor_comm
abbrev zgm:=@Go.Addr.mk.injEq
abbrev zgv:=@Bool.or_true
abbrev zgw:=@Bool.true_or
abbrev zgx:=@Bool.and_eq_true
theorem zg7 {α:Type} (a:α):∃ x,x=a:=⟨a,rfl⟩
theorem _root_.Go.RowKit.Hid.o (h:Go.RowKit.Hid p):p:=h
theorem zL:n<=n:=za0 n
open Go.RowKit
theorem X6 {a:World} (h:Below B a w) (n:Nat):Below B a (w.drewN n):=⟨h.os,h.tape,h.output,h.size,h.block⟩
theorem ZZ (h:p):Hid p:=h
theorem Zeq {b:Bool} (h:a=b):Ending.returned (.bool a)=.returned (.bool b):=by rw[h]
structure Fl where
 b:List UInt8
 k:Nat
inductive Ch where
 | give (n:Int) (f:Nat)
 | move (n tz:Int) (f:Nat)
 | take (n:Int)
abbrev Dir:=List (Int × Nat)
def Xb (l:Dir):Prop:=l.Pairwise (fun p q=>p.1<q.1)
def Dc (l:Dir):Prop:=l.Pairwise (fun p q=>p.2≠q.2)
def look:Dir->Int->Option Nat
 | [],_=>none
 | p::l,n=>if p.1=n then some p.2 else look l n
def ZjM (n:Int) (f:Nat):Bool->Dir->Dir
 | done,[]=>if done then[] else[(n,f)]
 | done,p::l=>(if !done && decide (p.1>n) then[(n,f)] else[])++((if p.1≠n then[p] else[])++ZjM n f (done || decide (p.1>n)) l)
def Yv (l:Dir) (n:Int):Option Nat->Dir
 | some f=>ZjM n f false l
 | none=>ZjM n 0 true l
theorem Zhv {α:Type} (c:Prop) [Decidable c] (x p:α):p ∈ (if c then[x] else[])↔c∧p=x:=by
 split <;> simp_all
theorem Zbn (n:Int) (f:Nat) (p:Int × Nat):∀ (l:Dir) (done:Bool),p ∈ ZjM n f done l↔(p ∈ l∧p.1≠n)∨(done=false∧p=(n,f))
 | [],done=>by cases done <;> simp[ZjM]
 | q::l,done=>by
  rw[ZjM,za2,za2,Zbn n f p l,Zhv,Zhv,zbd]
  cases done <;> grind
theorem Zt (l:Dir) (n:Int) (o:Option Nat) (p:Int × Nat):p ∈ Yv l n o↔(p ∈ l∧p.1≠n)∨(p.1=n∧o=some p.2):=by
 cases o with
 | none=>rw[Yv,Zbn];simp
 | some f=>
  rw[Yv,Zbn];constructor
  ·rintro(h | ⟨_,h⟩)
   ·exact .inl h
   ·exact .inr (by rw[h];exact⟨rfl,rfl⟩)
  ·rintro(h | ⟨h1,h2⟩)
   ·exact .inl h
   ·refine .inr ⟨rfl,?_⟩
    obtain⟨a,b⟩:=p;simp only [zb6] at h2;simp only at h1;rw[h1,h2]
theorem ZdJ (n:Int) (f:Nat):∀ (l:Dir) (done:Bool),Xb l->(done=true->∀ p ∈ l,p.1>n)->Xb (ZjM n f done l)
 | [],done,_,_=>by cases done <;> simp[ZjM,Xb]
 | q::l,done,h,hd=>by
  unfold Xb at h;rw[pairwise_cons] at h;rw[ZjM];unfold Xb;by_cases a:q.1>n
  ·have c:q.1≠n:=by omega
   have b:=ZdJ n f l true h.2 (fun _ p hp=>by have:=h.1 p hp;omega)
   have e:(done || decide (q.1>n))=true:=by rw[zan a,zgv]
   rw[e,zab c]
   have d:(q::ZjM n f true l).Pairwise (fun p q=>p.1<q.1):=by
    refine zcd.2 ⟨fun p hp=>?_,b⟩
    rcases(Zbn n f p l true).1 hp with ⟨hp,_⟩ | ⟨hp,_⟩
    ·exact h.1 p hp
    ·cases hp
   cases done
   ·rw[zab (by simp[a])]
    refine zcd.2 ⟨fun p hp=>?_,d⟩
    rcases zbd.1 hp with rfl | hp
    ·exact a
    ·rcases(Zbn n f p l true).1 hp with ⟨hp,_⟩ | ⟨hp,_⟩
     ·have:=h.1 p hp;simp only;omega
     ·cases hp
   ·rw[zaa (by simp)]
    exact d
  ·have e:(done || decide (q.1>n))=done:=by rw[zai a,Bool.or_false]
   have g:done=false:=by
    cases done
    ·rfl
    ·exact absurd (hd rfl q (mem_cons_self ..)) a
   subst g;rw[e,zaa (by simp[a])]
   have b:=ZdJ n f l false h.2 (fun i=>by cases i)
   by_cases c:q.1=n
   ·rw[zaa (by simp[c])]
    exact b
   ·rw[zab c]
    refine zcd.2 ⟨fun p hp=>?_,b⟩
    rcases(Zbn n f p l false).1 hp with ⟨hp,_⟩ | ⟨_,hp⟩
    ·exact h.1 p hp
    ·rw[hp];simp only;omega
theorem Zer (n:Int) (f:Nat):∀ l:Dir,ZjM n f true l=l.filter (fun p=>decide (p.1≠n))
 | []=>rfl
 | q::l=>by
  rw[ZjM,zgw,Zer n f l,zdi];by_cases h:q.1=n <;> simp[h]
theorem Yq {l:Dir} (h:Xb l) (n:Int) (o:Option Nat):Xb (Yv l n o):=by
 cases o with
 | none=>
  rw[Yv,Zer];exact h.sublist zd8
 | some f=>exact ZdJ n f l false h (fun a=>by cases a)
theorem ZdK (n:Int) (f:Nat):∀ (l:Dir) (done:Bool),(ZjM n f done l).length<=l.length+(if done then 0 else 1)
 | [],done=>by cases done <;> simp[ZjM]
 | q::l,done=>by
  have a:=ZdK n f l (done || decide (q.1>n));rw[ZjM,length_append,length_append,length_cons]
  cases done <;> grind
theorem ZdL (l:Dir) (n:Int) (o:Option Nat):(Yv l n o).length<=l.length+1:=by
 cases o with
 | none=>have:=ZdK n 0 l true;simp at this;rw[Yv];omega
 | some f=>have:=ZdK n f l false;simpa[Yv] using this
theorem Y2 {l:Dir} (h:Xb l) (n:Int) (f:Nat):look l n=some f↔(n,f) ∈ l:=by
 induction l with
 | nil=>simp[look]
 | cons p l d=>
  unfold Xb at h;rw[pairwise_cons] at h;rw[look];by_cases e:p.1=n
  ·rw[zab e]
   constructor
   ·intro c
    have:p=(n,f):=by
     obtain⟨a,b⟩:=p;simp only [zb6] at c;simp only at e;rw[e,c]
    rw[this];exact mem_cons_self ..
   ·intro hm
    rcases zbd.1 hm with hm | hm
    ·rw[<-hm]
    ·have:=h.1 _ hm
     simp only at this;omega
  ·rw[zaa e,d h.2]
   constructor
   ·exact fun hm=>mem_cons_of_mem _ hm
   ·intro hm
    rcases zbd.1 hm with hm | hm
    ·exact absurd (by rw[<-hm]) e
    ·exact hm
theorem Zum {l:Dir} (n:Int):look l n=none↔∀ p ∈ l,p.1≠n:=by
 induction l with
 | nil=>simp[look]
 | cons p l a=>
  rw[look];by_cases e:p.1=n
  ·rw[zab e]
   constructor
   ·intro h;cases h
   ·intro h;exact absurd e (h p (mem_cons_self ..))
  ·rw[zaa e,a]
   constructor
   ·intro h q hq
    rcases zbd.1 hq with rfl | hq
    ·exact e
    ·exact h q hq
   ·exact fun h q hq=>h q (mem_cons_of_mem _ hq)
theorem Zax {l:Dir} (h:Xb l) (n:Int) (o:Option Nat) (m:Int):look (Yv l n o) m=if m=n then o else look l m:=by
 have c:=Yq h n o;apply Option.ext;intro f;rw[Y2 c,Zt];by_cases e:m=n
 ·rw[zab e]
  constructor
  ·rintro(⟨_,a⟩ | ⟨_,a⟩)
   ·exact absurd e a
   ·exact a
  ·exact fun a=>.inr ⟨e,a⟩
 ·rw[zaa e,Y2 h]
  constructor
  ·rintro(⟨b,_⟩ | ⟨b,_⟩)
   ·exact b
   ·exact absurd b e
  ·exact fun b=>.inl ⟨b,e⟩
theorem Zgl {l:Dir} (h:Xb l):(l.map Prod.fst).Pairwise (·<·):=by
 rw[zej];exact h
theorem Zgm:∀ {a b:List Int},a.Pairwise (·<·)->b.Pairwise (·<·)->(∀ x,x ∈ a↔x ∈ b)->a=b
 | [],[],_,_,_=>rfl
 | [],y::b,_,_,h=>by have:=(h y).2 (mem_cons_self ..);cases this
 | x::a,[],_,_,h=>by have:=(h x).1 (mem_cons_self ..);cases this
 | x::a,y::b,ha,hb,h=>by
  rw[pairwise_cons] at ha hb
  have d:x=y:=by
   rcases zbd.1 ((h x).1 (mem_cons_self ..)) with e | hx
   ·exact e
   ·rcases zbd.1 ((h y).2 (mem_cons_self ..)) with e | hy
    ·exact e.symm
    ·have:=ha.1 y hy
     have:=hb.1 x hx;omega
  subst d;rw[Zgm ha.2 hb.2 fun z=>?_]
  constructor
  ·intro c
   rcases zbd.1 ((h z).1 (mem_cons_of_mem _ c)) with e | hz'
   ·have:=ha.1 z c;omega
   ·exact hz'
  ·intro c
   rcases zbd.1 ((h z).2 (mem_cons_of_mem _ c)) with e | hz'
   ·have:=hb.1 z c;omega
   ·exact hz'
theorem Zko (n:Int) (f:Nat):∀ (l:Dir) (done:Bool),Dc l->(done=false->∀ p ∈ l,p.1≠n->p.2≠f)->Dc (ZjM n f done l)
 | [],done,_,_=>by cases done <;> simp[ZjM,Dc]
 | q::l,done,h,hd=>by
  unfold Dc at h;rw[pairwise_cons] at h;rw[ZjM];have d:=Zko n f l (done || decide (q.1>n)) h.2 (fun e p hp i=>hd (by cases done <;> simp_all) p (mem_cons_of_mem _ hp) i)
  have c:∀ a:q.1≠n,(q::ZjM n f (done || decide (q.1>n)) l).Pairwise (fun p q=>p.2≠q.2):=by
   intro a;refine zcd.2 ⟨fun p hp=>?_,d⟩
   rcases(Zbn n f p l _).1 hp with ⟨hp,_⟩ | ⟨hdn,hp⟩
   ·exact h.1 p hp
   ·rw[hp]
    exact hd (by cases done <;> simp_all) q (mem_cons_self ..) a
  unfold Dc;by_cases a:q.1=n
  ·rw[zaa (by simp[a]),zaa (by simp[a])]
   exact d
  ·rw[zab a]
   by_cases b:(!done && decide (q.1>n))=true
   ·rw[zab b]
    simp only [zgx,zd7,zdp] at b;refine zcd.2 ⟨fun p hp=>?_,c a⟩
    rcases zbd.1 hp with rfl | hp
    ·exact fun e=>hd b.1 p (mem_cons_self ..) a e.symm
    ·rcases(Zbn n f p l _).1 hp with ⟨hp,g⟩ | ⟨hdn,_⟩
     ·exact fun e=>hd b.1 p (mem_cons_of_mem _ hp) g e.symm
     ·rw[zan b.2] at hdn
      simp at hdn
   ·rw[zaa b]
    exact c a
theorem Zkp {l:Dir} (h:Dc l) (n:Int) (f:Nat) (a:∀ p ∈ l,p.1≠n->p.2≠f):Dc (Yv l n (some f)):=
 Zko n f l false h fun _=>a
theorem Zkq {l:Dir} (h:Dc l) (n:Int):Dc (Yv l n none):=by
 rw[Yv,Zer];exact h.sublist zd8
def chD (l:Dir):Ch->Dir
 | .give n f=>Yv l n (some f)
 | .move n tz f=>Yv (Yv l n none) tz (some f)
 | .take n=>Yv l n none
theorem Zfw {l:Dir} (h:Xb l) (c:Ch):Xb (chD l c):=by
 cases c with
 | give n f=>rw[chD];exact Yq h _ _
 | move n tz f=>rw[chD];exact Yq (Yq h _ _) _ _
 | take n=>rw[chD];exact Yq h _ _
theorem ZrO (l:Dir) (c:Ch):(chD l c).length<=l.length+1:=by
 cases c with
 | give n f=>rw[chD];exact ZdL _ _ _
 | move n tz f=>
  have b:=ZdL (Yv l n none) tz (some f);have a:(Yv l n none).length<=l.length:=by rw[Yv,Zer];exact zdh _ _
  rw[chD];omega
 | take n=>rw[chD];exact ZdL _ _ _
def chF (f:Int->Option Nat):Ch->Int->Option Nat
 | .give n x=>fun m=>if m=n then some x else f m
 | .move n tz x=>fun m=>if m=n then none else if m=tz then some x else f m
 | .take n=>fun m=>if m=n then none else f m
theorem Zdf {l:Dir} (h:Xb l) (c:Ch) (b:∀ n a f,c=.move n a f->n≠a) (m:Int):look (chD l c) m=chF (look l) c m:=by
 cases c with
 | give n f=>rw[chD];exact Zax h _ _ _
 | move n a f=>
  have d:=b n a f rfl;rw[chD,Zax (Yq h _ _),Zax h];show _=(if m=n then none else if m=a then some f else look l m)
  grind
 | take n=>rw[chD];exact Zax h _ _ _
def Zf (a:Int) (all:Nat):Nat:=if a<0 then 0 else(a % ((all:Int)+1)).toNat
theorem ZbH (a:Int) (all:Nat):Zf a all<=all:=by
 unfold Zf;split
 ·omega
 ·have:=Int.emod_lt_of_pos a (show(0:Int)<(all:Int)+1 by omega)
  omega
def Zhw (keep:List Int) (i:Nat):Int:=if keep.length=0 then 0 else keep.getD (i % keep.length) 0
def Zlt (x:Fl) (a:Int):Fl:=⟨x.b.take (x.k+Zf a (x.b.length-x.k)),x.k+Zf a (x.b.length-x.k)⟩
def fl (fs:List Fl) (f:Nat):Fl:=fs.getD f ⟨[],0⟩
def Xd (keep:List Int):Dir->Nat->List Fl->List Fl
 | [],_,fs=>fs
 | p::l,i,fs=>Xd keep l (i+1) (fs.set p.2 (Zlt (fl fs p.2) (Zhw keep i)))
theorem Gn (keep:List Int):∀ (l:Dir) (i:Nat) (fs:List Fl),(Xd keep l i fs).length=fs.length
 | [],_,_=>rfl
 | p::l,i,fs=>by rw[Xd,Gn keep l,zd4]
theorem Zhx (keep:List Int):∀ (l:Dir) (p:Int × Nat) (i:Nat) (fs:List Fl),Xd keep (l++[p]) i fs=(Xd keep l i fs).set p.2 (Zlt (fl (Xd keep l i fs) p.2) (Zhw keep (i+l.length)))
 | [],p,i,fs=>by simp[Xd]
 | q::l,p,i,fs=>by
  rw[cons_append,Xd,Xd,Zhx keep l p (i+1)];rw[length_cons,show i+1+l.length=i+(l.length+1) by omega]
theorem Zao {fs:List Fl} (h:f<fs.length) (x:Fl):fl (fs.set f x) f=x:=by
 unfold fl;simp[List.getD,h]
theorem Jk {fs:List Fl} {g:Nat} (h:f≠g) (x:Fl):fl (fs.set f x) g=fl fs g:=by
 unfold fl;simp[List.getD,h]
theorem Zbo (keep:List Int):∀ (l:Dir) (i:Nat) (fs:List Fl) (g:Nat),(∀ p ∈ l,p.2≠g)->fl (Xd keep l i fs) g=fl fs g
 | [],_,_,_,_=>rfl
 | p::l,i,fs,g,h=>by
  rw[Xd,Zbo keep l (i+1) _ g fun q a=>h q (mem_cons_of_mem _ a),Jk (h p (mem_cons_self ..))]
structure Dk where
 room:Int
 files:List Fl
 kept:Dir
 waits:List Ch
 power:Int
def Yo (d:Dk) (k:Nat):Dir:=(d.waits.take k).foldl chD d.kept
def Qm (d:Dk):Dir:=d.waits.foldl chD d.kept
def Zy (fs:List Fl) (l:Dir):Nat:=(l.map fun p=>(fl fs p.2).b.length).sum
def Jh (d:Dk):Nat:=Zy d.files (Qm d)
def totF (fs:List Fl):Nat:=(fs.map fun x=>x.b.length).sum
def Ye (p:Int):Int:=if p>0 then p-1 else p
def ZdM (n:Int):Bool:=decide (0<=n) && decide (n<1048576)
def Zhe (room:Int):Dk:=⟨room,[],[],[],-1⟩
def Ji (d:Dk) (n:Int):Dk:={ d with files:=d.files++[⟨[],0⟩],waits:=d.waits++[.give n d.files.length] }
def Yt (fs:List Fl) (f:Nat) (b:List UInt8):List Fl:=fs.set f ⟨(fl fs f).b++b,(fl fs f).k⟩
def appendTo (d:Dk) (f:Nat) (b:List UInt8):Dk:={ d with files:=Yt d.files f b,power:=Ye d.power }
def Qy (d:Dk) (n:Int) (b:List UInt8):Dk × Int:=
 if d.power=0 then(d,11) else if ZdM n=false then(d,1) else if(Jh d:Int)+b.length>d.room then(d,10) else
 match look (Qm d) n with
 | some f=>(appendTo d f b,0)
 | none=>(appendTo (Ji d n) d.files.length b,0)
def Zu (d:Dk) (n:Int):List UInt8 × Int:=
 if d.power=0 then([],11) else
 match look (Qm d) n with
 | some f=>((fl d.files f).b,0)
 | none=>([],8)
def Gi (fs:List Fl) (f:Nat):List Fl:=fs.set f ⟨(fl fs f).b,(fl fs f).b.length⟩
def Xz (d:Dk) (n:Int):Dk × Int:=
 if d.power=0 then(d,11) else
 match look (Qm d) n with
 | some f=>({ d with files:=Gi d.files f,power:=Ye d.power },0)
 | none=>(d,8)
def Z1 (d:Dk) (n tz:Int):Dk × Int:=
 if d.power=0 then(d,11) else
 match look (Qm d) n with
 | some f=>if ZdM tz=false then(d,1) else if n=tz then({ d with power:=Ye d.power },0) else
  ({ d with waits:=d.waits++[.move n tz f],power:=Ye d.power },0)
 | none=>(d,8)
def Qi (d:Dk) (n:Int):Dk × Int:=
 if d.power=0 then(d,11) else
 match look (Qm d) n with
 | some _=>({ d with waits:=d.waits++[.take n],power:=Ye d.power },0)
 | none=>(d,8)
def Qn (d:Dk):Dk × Int:=
 if d.power=0 then(d,11) else({ d with kept:=Qm d,waits:=[],power:=Ye d.power },0)
def ZqS (d:Dk) (n:Int):Dk:={ d with power:=if d.power=0 then 0 else max n 0 }
def Jc (d:Dk) (names:Int) (keep:List Int):Dk:=
 let l:=Yo d (Zf names d.waits.length)
 { d with files:=Xd keep l 0 d.files,kept:=l,waits:=[],power:=-1 }
def Zuh (m:Nat):Ch->Prop
 | .give n f=>ZdM n=true∧f<m
 | .move n tz f=>ZdM n=true∧ZdM tz=true∧n≠tz∧f<m
 | .take n=>ZdM n=true
structure OkL (m:Nat) (l:Dir):Prop where
 rise:Xb l
 apart:Dc l
 may:∀ p ∈ l,ZdM p.1=true∧p.2<m
structure OkD (d:Dk):Prop where
 dirs:∀ k,OkL d.files.length (Yo d k)
 chs:∀ c ∈ d.waits,Zuh d.files.length c
 keep:∀ x ∈ d.files,x.k<=x.b.length
theorem Zdg (d:Dk):Yo d d.waits.length=Qm d:=by rw[Yo,Qm,zdd]
theorem Zes (d:Dk):Yo d 0=d.kept:=by rw[Yo];rfl
theorem ZyY (d:Dk) {k:Nat} (h:d.waits.length<=k):Yo d k=Qm d:=by rw[Yo,Qm,zbl h]
theorem Zun (d:Dk) {k:Nat} (h:k<d.waits.length):Yo d (k+1)=chD (Yo d k) d.waits[k]:=by
 rw[Yo,Yo,zdx h,foldl_append];rfl
theorem OkD.dir {d:Dk} (h:OkD d):OkL d.files.length (Qm d):=by rw[<-Zdg];exact h.dirs _
theorem OkD.kept {d:Dk} (h:OkD d):OkL d.files.length d.kept:=by rw[<-Zes];exact h.dirs _
theorem OkL.more {l:Dir} (h:OkL m l) (b:m<=m'):OkL m' l:=
 ⟨h.rise,h.apart,fun p a=>⟨(h.may p a).1,by have:=(h.may p a).2;omega⟩⟩
theorem Zuh.more {c:Ch} (h:Zuh m c) (a:m<=m'):Zuh m' c:=by
 cases c with
 | give n f=>exact⟨h.1,by have:=h.2;omega⟩
 | move n tz f=>exact⟨h.1,h.2.1,h.2.2.1,by have:=h.2.2.2;omega⟩
 | take n=>exact h
theorem ZyZ (m:Nat):OkL m []:=⟨List.Pairwise.nil,List.Pairwise.nil,fun p a=>by cases a⟩
theorem Zuo (room:Int):OkD (Zhe room):=by
 refine⟨fun k=>?_,(fun c a=>by cases a),(fun x b=>by cases b)⟩
 rw[Yo];show OkL 0 ((([]:List Ch).take k).foldl chD []);rw[List.take_nil];exact ZyZ _
theorem OkD.wait {d:Dk} (h:OkD d) {c:Ch} {fs:List Fl} {p:Int} (a:d.files.length<=fs.length) (f:∀ x ∈ fs,x.k<=x.b.length) (e:Zuh fs.length c) (i:OkL fs.length (chD (Qm d) c)):
 OkD { d with files:=fs,waits:=d.waits++[c],power:=p }:=by
 refine⟨fun k=>?_,fun c' hc'=>?_,f⟩
 ·show OkL fs.length (((d.waits++[c]).take k).foldl chD d.kept)
  by_cases g:k<=d.waits.length
  ·rw[zce g]
   exact(h.dirs k).more a
  ·rw[zbl (by simp;omega),foldl_append]
   exact i
 ·rcases za2.1 hc' with hc' | hc'
  ·exact(h.chs c' hc').more a
  ·rw[zaw.1 hc']
   exact e
theorem OkD.bytes {d:Dk} (h:OkD d) {fs:List Fl} {p:Int} (a:d.files.length=fs.length) (f:∀ x ∈ fs,x.k<=x.b.length):OkD { d with files:=fs,power:=p }:=by
 refine⟨fun k=>?_,fun c e=>?_,f⟩
 ·show OkL fs.length (Yo d k)
  rw[<-a];exact h.dirs k
 ·show Zuh fs.length c
  rw[<-a];exact h.chs c e
theorem OkD.power {d:Dk} (h:OkD d) (p:Int):OkD { d with power:=p }:=h.bytes (fs:=d.files) rfl h.keep
theorem Zhf {d:Dk} {fs:List Fl} {l:Dir} {p:Int} (f:OkL fs.length l) (e:∀ x ∈ fs,x.k<=x.b.length):OkD { d with files:=fs,kept:=l,waits:=[],power:=p }:=by
 refine⟨fun k=>?_,(fun c a=>by cases a),e⟩
 show OkL fs.length ((([]:List Ch).take k).foldl chD l);rw[List.take_nil];exact f
theorem OkD.fresh {d:Dk} (h:OkD d) {n:Int} (c:ZdM n=true):OkD (Ji d n):=by
 have b:=h.dir;refine OkD.wait (p:=d.power) h (by simp) (fun x hx=>?_) ⟨c,by simp⟩ ⟨?_,?_,?_⟩
 ·rcases za2.1 hx with hx | hx
  ·exact h.keep x hx
  ·rw[zaw.1 hx];exact za0 _
 ·exact Zfw b.rise _
 ·rw[chD]
  exact Zkp b.apart n _ fun p a _=>by have:=(b.may p a).2;omega
 ·intro p a
  rw[chD,Zt] at a;simp only [length_append,zcw];rcases a with ⟨a,_⟩ | ⟨a,e⟩
  ·exact⟨(b.may p a).1,by have:=(b.may p a).2;omega⟩
  ·rw[a]
   have:=zaq e;exact⟨c,by omega⟩
theorem ZrP {d:Dk} (h:OkD d) (n:Int):look (Qm (Ji d n)) n=some d.files.length:=by
 have e:Qm (Ji d n)=chD (Qm d) (.give n d.files.length):=by
  show(d.waits++[_]).foldl chD d.kept=_;rw[foldl_append];rfl
 rw[e,Zdf h.dir.rise _ (fun _ _ _ a=>by cases a)]
 show(if n=n then _ else _)=_
 rw[zab rfl]
theorem Zkr (d:Dk) (n:Int):Qm (Ji d n)=chD (Qm d) (.give n d.files.length):=by
 show(d.waits++[_]).foldl chD d.kept=_;rw[foldl_append];rfl
theorem ZbI {fs:List Fl} (h:f<fs.length):fl fs f ∈ fs:=by
 unfold fl;rw[List.getD,za4 h];exact getElem_mem h
theorem Zhg {fs:List Fl} (h:∀ x ∈ fs,x.k<=x.b.length) (f:Nat) {y:Fl} (c:y.k<=y.b.length):∀ x ∈ fs.set f y,x.k<=x.b.length:=by
 intro x a;rcases zcs a with a | rfl
 ·exact h x a
 ·exact c
theorem Zfx {fs:List Fl} (h:∀ x ∈ fs,x.k<=x.b.length) (f:Nat):(fl fs f).k<=(fl fs f).b.length:=by
 by_cases a:f<fs.length
 ·exact h _ (ZbI a)
 ·unfold fl
  rw[List.getD,zbw (by omega)]
  exact za0 _
theorem OkD.appendTo {d:Dk} (h:OkD d) (f:Nat) (b:List UInt8):OkD (appendTo d f b):=by
 refine h.bytes (by simp[Yt]) (Zhg h.keep f ?_)
 have:=Zfx h.keep f;simp only [length_append];omega
theorem OkD.append {d:Dk} (h:OkD d) (n:Int) (b:List UInt8):OkD (Qy d n b).1:=by
 unfold Qy;split
 ·exact h
 ·split
  ·exact h
  ·rename_i a
   split
   ·exact h
   ·split
    ·exact h.appendTo _ b
    ·exact(h.fresh (by simpa using a)).appendTo _ b
theorem OkD.sync {d:Dk} (h:OkD d) (n:Int):OkD (Xz d n).1:=by
 unfold Xz;split
 ·exact h
 ·split
  ·exact h.bytes (by simp[Gi]) (Zhg h.keep _ zL)
  ·exact h
theorem OkL.mayOf {l:Dir} (h:OkL m l) {n:Int} {f:Nat} (e:look l n=some f):ZdM n=true∧f<m:=h.may (n,f) ((Y2 h.rise n f).1 e)
theorem Zhh:∀ {l:Dir},Dc l->∀ {p q:Int × Nat},p ∈ l->q ∈ l->p≠q->p.2≠q.2
 | [],_,_,_,hp,_,_=>by cases hp
 | a::l,h,p,q,hp,hq,hne=>by
  unfold Dc at h;rw[pairwise_cons] at h;rcases zbd.1 hp with c | hp1
  ·rcases zbd.1 hq with b | hq1
   ·exact absurd (c.trans b.symm) hne
   ·rw[c];exact h.1 q hq1
  ·rcases zbd.1 hq with b | hq1
   ·rw[b];exact fun e=>h.1 p hp1 e.symm
   ·exact Zhh (l:=l) h.2 hp1 hq1 hne
theorem OkD.moved {d:Dk} (h:OkD d) {n m:Int} {f:Nat} (i:look (Qm d) n=some f) (g:ZdM m=true) (l:n≠m) (q:Int):OkD { d with waits:=d.waits++[.move n m f],power:=q }:=by
 have b:=h.dir;have c:=b.mayOf i;refine OkD.wait (fs:=d.files) h zL h.keep ⟨c.1,g,l,c.2⟩ ⟨Zfw b.rise _,?_,?_⟩
 ·rw[chD]
  refine Zkp (Zkq b.apart n) m f fun p a _=>?_
  rw[Zt] at a;rcases a with ⟨a,j⟩ | ⟨_,a⟩
  ·intro e
   have k:=(Y2 b.rise n f).1 i;have:=Zhh b.apart a k (by intro e;rw[e] at j;exact j rfl)
   exact this e
  ·cases a
 ·intro p a
  rw[chD,Zt,Zt] at a;rcases a with ⟨⟨a,_⟩ | ⟨_,a⟩,_⟩ | ⟨a,e⟩
  ·exact b.may p a
  ·cases a
  ·rw[a]
   exact⟨g,by rw[<-zaq e];exact c.2⟩
theorem OkD.rename {d:Dk} (h:OkD d) (n m:Int):OkD (Z1 d n m).1:=by
 unfold Z1;split
 ·exact h
 ·split
  ·rename_i f c
   split
   ·exact h
   ·rename_i a
    split
    ·exact h.power _
    ·rename_i b
     exact h.moved c (by simpa using a) b _
  ·exact h
theorem OkD.taken {d:Dk} (h:OkD d) {n:Int} {f:Nat} (e:look (Qm d) n=some f) (q:Int):OkD { d with waits:=d.waits++[.take n],power:=q }:=by
 have b:=h.dir;have c:=b.mayOf e;refine OkD.wait (fs:=d.files) h zL h.keep c.1 ⟨Zfw b.rise _,?_,?_⟩
 ·rw[chD];exact Zkq b.apart n
 ·intro p a
  rw[chD,Zt] at a;rcases a with ⟨a,_⟩ | ⟨_,a⟩
  ·exact b.may p a
  ·cases a
theorem OkD.remove {d:Dk} (h:OkD d) (n:Int):OkD (Qi d n).1:=by
 unfold Qi;split
 ·exact h
 ·split
  ·rename_i f a
   exact h.taken a _
  ·exact h
theorem OkD.syncDir {d:Dk} (h:OkD d):OkD (Qn d).1:=by
 unfold Qn;split
 ·exact h
 ·exact Zhf (fs:=d.files) h.dir h.keep
theorem OkD.cut {d:Dk} (h:OkD d) (n:Int):OkD (ZqS d n):=h.power _
theorem Zup {x:Fl} (h:x.k<=x.b.length) (a:Int):(Zlt x a).k<=(Zlt x a).b.length:=by
 have:=ZbH a (x.b.length-x.k);unfold Zlt;simp only [length_take];omega
theorem ZwR {x:Fl} (h:x.k<=x.b.length) (a:Int):(Zlt x a).b.length=(Zlt x a).k:=by
 have:=ZbH a (x.b.length-x.k);unfold Zlt;simp only [length_take];omega
theorem Zhy (keep:List Int):∀ (l:Dir) (i:Nat) (fs:List Fl),(∀ x ∈ fs,x.k<=x.b.length)->∀ x ∈ Xd keep l i fs,x.k<=x.b.length
 | [],_,_,h=>h
 | p::l,i,fs,h=>by
  rw[Xd];exact Zhy keep l (i+1) _ (Zhg h _ (Zup (Zfx h _) _))
theorem OkD.crash {d:Dk} (h:OkD d) (names:Int) (keep:List Int):OkD (Jc d names keep):=
 Zhf (fs:=Xd keep (Yo d (Zf names d.waits.length)) 0 d.files) (by rw[Gn];exact h.dirs _) (Zhy keep _ 0 _ h.keep)
def val:List UInt8->Nat
 | []=>0
 | c::r=>c.toNat % 128+128*val r
def dec:Nat->List UInt8->Option (Nat × Nat)
 | 0,_=>none
 | _+1,[]=>none
 | n+1,c::r=>if c.toNat<128 then some (c.toNat,1) else
  match dec n r with
  | some (v+1,k)=>some (c.toNat % 128+128*(v+1),k+1)
  | _=>none
def Qe (l:List UInt8):Nat × Nat:=
 match dec 10 l with
 | some (v,k)=>if v<18446744073709551616 then(v,k) else(0,0)
 | none=>(0,0)
def Qb (l:List UInt8):Nat × Nat:=if(Qe l).1<4611686018427387904 then Qe l else(0,0)
theorem ZyK:∀ l:List UInt8,val l<128 ^ l.length
 | []=>by simp[val]
 | c::r=>by
  have h:=ZyK r;simp only [val,length_cons,zff];omega
theorem ZqT:∀ (l:List UInt8) (c:UInt8),val (l++[c])=val l+c.toNat % 128*128 ^ l.length
 | [],c=>by simp[val]
 | d::r,c=>by
  have h:=ZqT r c;simp only [cons_append,val,length_cons,zff,h];rw[Nat.mul_add,<-zft,zfg 128 (c.toNat % 128),zft,zfg 128 (128 ^ r.length)];omega
theorem Zhz (l:List UInt8) (k:Nat) (h:k<l.length):l.take (k+1)=l.take k++[l.getD k 0]:=by
 rw[zdx h];simp[List.getD,h]
theorem Zet (l:List UInt8) (k:Nat) (h:k<l.length):val (l.take (k+1))=val (l.take k)+(l.getD k 0).toNat % 128*128 ^ k:=by
 rw[Zhz l k h,ZqT,length_take,zcy (by omega)]
theorem Zuq:∀ (k n:Nat) (l:List UInt8),k<n->k<l.length->(∀ j,j<k->128<=(l.getD j 0).toNat)->(l.getD k 0).toNat<128->
 dec n l=if 0<k∧(l.getD k 0).toNat=0 then none else some (val (l.take (k+1)),k+1)
 | 0,n+1,c::r,_,_,_,h=>by
  have p:c.toNat<128:=by simpa using h
  simp only [dec,p,zeu];simp[val];omega
 | k+1,n+1,c::r,hn,hl,hj,h=>by
  have x:128<=c.toNat:=by simpa using hj 0 (by omega)
  have b:=Zuq k n r (by omega) (by simpa using hl) (fun j w=>by simpa using hj (j+1) (by omega)) (by simpa using h)
  have t:((c::r).getD (k+1) 0)=r.getD k 0:=by simp
  simp only [dec];rw[zaa (show ¬ c.toNat<128 by omega),t]
  have f:k<r.length:=by simpa using hl
  have v:(r.getD k 0).toNat % 128=(r.getD k 0).toNat:=zdj (by simpa using h)
  by_cases a:(r.getD k 0).toNat=0
  ·rw[zab ⟨Nat.succ_pos k,a⟩]
   have u:dec n r=none∨dec n r=some (0,1):=by
    by_cases d:0<k
    ·exact .inl (by rw[b,zab ⟨d,a⟩])
    ·obtain rfl:k=0:=by omega
     have g:val (r.take (0+1))=0:=by
      rw[Zet r 0 f,a];simp[val]
     exact .inr (by rw[b,zaa (fun e=>d e.1),g])
   rcases u with e | e <;> rw[e]
  ·have g:0<val (r.take (k+1)):=by
    rw[Zet r k f,v];have q:0<128 ^ k:=Nat.pow_pos (by decide)
    have y:0<(r.getD k 0).toNat*128 ^ k:=Nat.mul_pos (by omega) q
    omega
   obtain⟨m,i⟩:∃ m,val (r.take (k+1))=m+1:=⟨val (r.take (k+1))-1,by omega⟩
   have e:dec n r=some (m+1,k+1):=by rw[b,zaa (fun e=>a e.2),i]
   rw[e,zaa (fun e=>a e.2)]
   simp only [zdr,val,i]
theorem Zlu:∀ (n:Nat) (l:List UInt8),(∀ j,j<n->j<l.length->128<=(l.getD j 0).toNat)->dec n l=none
 | 0,_,_=>rfl
 | n+1,[],_=>rfl
 | n+1,c::r,h=>by
  have d:128<=c.toNat:=by simpa using h 0 (by omega) (by simp)
  have a:=Zlu n r (fun j e b=>by simpa using h (j+1) (by omega) (by simpa using b))
  simp only [dec];rw[zaa (by omega),a]
theorem ZhA:∀ (n u:Nat) (t:List UInt8),(Lib.uvarint u).length<=n->dec n (Lib.uvarint u++t)=some (u,(Lib.uvarint u).length)
 | 0,u,_,h=>by have:=zcu u;omega
 | n+1,u,t,h=>by
  by_cases b:u<128
  ·rw[ze2 b]
   have e:(u.toUInt8).toNat=u:=zfq (by omega)
   simp only [cons_append,dec,e,b,zeu];simp
  ·rw[zf2 (by omega)] at h ⊢
   have e:((u % 128+128).toUInt8).toNat=u % 128+128:=zfq (by omega)
   have a:=ZhA n (u / 128) t (by simpa using h)
   obtain⟨m,c⟩:∃ m,u / 128=m+1:=⟨u / 128-1,by omega⟩
   rw[c] at a ⊢;simp only [cons_append,dec,e];rw[zaa (by omega),a]
   simp only [length_cons,zb6,zcj,ze7];omega
theorem ZmJ:∀ (n:Nat) (l:List UInt8) (v k:Nat),dec n l=some (v,k)->k<=l.length∧1<=k∧l.take k=Lib.uvarint v
 | 0,_,_,_,h=>by simp[dec] at h
 | n+1,[],_,_,h=>by simp[dec] at h
 | n+1,c::r,v,k,h=>by
  simp only [dec] at h;by_cases a:c.toNat<128
  ·rw[zab a] at h
   simp only [zb6,zcj] at h;obtain⟨rfl,rfl⟩:=h;refine⟨by simp,by omega,?_⟩
   rw[ze2 a];simp
  ·rw[zaa a] at h
   cases hd:dec n r with
   | none=>rw[hd] at h;simp at h
   | some p=>
    obtain⟨v',e⟩:=p;rw[hd] at h
    cases v' with
    | zero=>simp at h
    | succ m=>
     simp only [zb6,zcj] at h;obtain⟨rfl,rfl⟩:=h;have b:=ZmJ n r (m+1) e hd;have g:=c.toNat_lt;refine⟨by simpa using b.1,by omega,?_⟩
     rw[zf2 (by omega),zdr,b.2.2]
     have f:(c.toNat % 128+128*(m+1)) % 128+128=c.toNat:=by omega
     have d:(c.toNat % 128+128*(m+1)) / 128=m+1:=by omega
     rw[f,d];simp
theorem Zb (u:Nat) (t:List UInt8) (h:u<18446744073709551616):Qe (Lib.uvarint u++t)=(u,(Lib.uvarint u).length):=by
 unfold Qe;rw[ZhA 10 u t (za8 h)];simp[h]
theorem Q6 (u:Nat) (t:List UInt8) (h:u<4611686018427387904):Qb (Lib.uvarint u++t)=(u,(Lib.uvarint u).length):=by
 unfold Qb;rw[Zb u t (by omega)]
 simp[h]
theorem Jl (l:List UInt8):Qe l=(0,0)∨((Qe l).1<18446744073709551616∧1<=(Qe l).2∧(Qe l).2<=l.length∧l.take (Qe l).2=Lib.uvarint (Qe l).1):=by
 unfold Qe
 cases h:dec 10 l with
 | none=>exact .inl rfl
 | some p=>
  obtain⟨v,k⟩:=p;have a:=ZmJ 10 l v k h;by_cases b:v<18446744073709551616
  ·simp only [b,zeu]
   exact .inr ⟨trivial,a.2.1,a.1,a.2.2⟩
  ·simp only [b,zfv]
   exact .inl trivial
theorem Zlv (l:List UInt8):(Qe l).1<18446744073709551616:=by
 rcases Jl l with h | h
 ·rw[h];decide
 ·exact h.1
theorem Da (l:List UInt8):(Qe l).2<=l.length:=by
 rcases Jl l with h | h
 ·rw[h];exact zap _
 ·exact h.2.2.1
theorem Xh (l:List UInt8):Qb l=(0,0)∨((Qb l).1<4611686018427387904∧1<=(Qb l).2∧(Qb l).2<=l.length∧l.take (Qb l).2=Lib.uvarint (Qb l).1):=by
 unfold Qb;by_cases h:(Qe l).1<4611686018427387904
 ·rw[zab h]
  rcases Jl l with e | e
  ·exact .inl e
  ·exact .inr ⟨h,e.2⟩
 ·rw[zaa h]
  exact .inl rfl
theorem pow7 (k:Nat):2 ^ (7*k)=128 ^ k:=by rw[Nat.pow_mul]
theorem Zgn:∀ (n u j:Nat),(Lib.uvarint u).length<=n->j+1<(Lib.uvarint u).length->128<=((Lib.uvarint u).getD j 0).toNat
 | 0,u,_,h,_=>by have:=zcu u;omega
 | n+1,u,j,h,hj=>by
  by_cases a:u<128
  ·rw[ze2 a] at hj
   simp at hj
  ·rw[zf2 (by omega)] at h hj ⊢
   cases j with
   | zero=>
    have e:((u % 128+128).toUInt8).toNat=u % 128+128:=zfq (by omega)
    simp only [List.getD_cons_zero,e];omega
   | succ j=>
    simp only [length_cons] at h hj;simp only [List.getD_cons_succ];exact Zgn n (u / 128) j (by omega) (by omega)
def Rd (w:World) (v:Value) (l:List UInt8):Prop:=
 ∃ ao cap,v=.slice ao l.length cap∧l.length<=cap∧cap<=maxLen∧(ao=none->cap=0)∧
  (l=[]∨∃ b off,ao=some ⟨b,off,none⟩∧∀ j,j<l.length->w.cell? ⟨b,off+j,none⟩=some (.int .u8 (l.getD j 0).toNat))
def Own (w:World) (B:Nat) (v:Value) (l:List UInt8):Prop:=w.ownsRow B 5 1 v l.length (Lib.byteCells l)
theorem Y4 (l:List UInt8):(Lib.byteCells l).length=l.length:=by simp[Lib.byteCells]
theorem ZbU (l:List UInt8) (j:Nat) (h:j<l.length):(Lib.byteCells l)[j]?=some (.int .u8 (l.getD j 0).toNat):=by
 simp[Lib.byteCells,List.getD,h]
theorem ZaK (l:List UInt8):∀ u ∈ Lib.byteCells l,u.oneCell'=true:=by
 intro u a;obtain⟨_,_,rfl⟩:=zbm.1 a;rfl
theorem Rd.nil (w:World):Rd w (.slice none 0 0) []:=⟨none,0,rfl,za0 _,zap _,fun _=>rfl,.inl rfl⟩
theorem Rd.below {l:List UInt8} (h:Rd w v l) {B:Nat} (q:Below B w w') (n:w.heap.size<=B):Rd w' v l:=by
 obtain⟨ao,cap,i,u,m,f,a⟩:=h;refine⟨ao,cap,i,u,m,f,?_⟩;rcases a with a | ⟨b,c,g,k⟩
 ·exact .inl a
 ·refine .inr ⟨b,c,g,fun j e=>?_⟩
  have d:=k j e;have t:b<w.heap.size:=za1 w ⟨b,c+j,none⟩ d;rw[q.cell (p:=⟨b,c+j,none⟩) (by exact zay t n)]
  exact d
theorem Rd.at {w:World} {b d n cap:Nat} {l:List UInt8} (h:Rd w (.slice (some ⟨b,d,none⟩) n cap) l) (j:Nat) (c:j<l.length):w.cell? ⟨b,d+j,none⟩=some (.int .u8 (l.getD j 0).toNat):=by
 obtain⟨ao,i,e,_,_,_,a⟩:=h;simp only [zbb] at e;obtain⟨rfl,_,rfl⟩:=e;rcases a with a | ⟨b',k,f,g⟩
 ·subst a
  simp at c
 ·simp only [zb6,zgm,ze7] at f
  obtain⟨rfl,rfl⟩:=f;exact g j c
theorem Rd.ofRow {a:List Int} (D:c<=cap) (v:cap<=maxLen) (B:a.length=cap) (g:∀ i,i<a.length->w.cell? (x.add i)=some (.int .u8 (a.getD i 0))) (k:∀ n ∈ a,(Lit.int .u8 n).wf=true):
 Rd w (.slice (some x) c cap) ((a.take c).map fun n=>UInt8.ofNat n.toNat):=by
 have z:((a.take c).map fun n=>UInt8.ofNat n.toNat).length=c:=by simp;omega
 refine⟨some x,cap,by rw[z],by omega,v,(fun e=>by cases e),?_⟩
 by_cases y:c=0
 ·exact .inl (by rw[y];rfl)
 ·obtain⟨b,q,spot⟩:=x
  have l:=g 0 (by omega)
  have u:spot=none:=by simpa[Addr.add] using zfw l
  subst u;refine .inr ⟨b,q,rfl,fun j A=>?_⟩
  have d:j<a.length:=by omega
  have f:=g j d;rw[zbn] at f;rw[f];have p:a[j] ∈ a:=getElem_mem d;have t:=k _ p;have C:0<=a[j]∧a[j]<=255:=by simpa[Lit.wf,IntKind.min,IntKind.max,IntKind.signed,IntKind.bits] using t
  have e:(((a.take c).map fun n=>UInt8.ofNat n.toNat).getD j 0)=UInt8.ofNat (a[j]).toNat:=by
   simp[List.getD,d,show j<c by omega]
  rw[e];have m:a.getD j 0=a[j]:=by simp[List.getD,d]
  rw[m,UInt8.toNat_ofNat']
  congr 2
  omega
theorem Own.rd {l:List UInt8} (h:Own w B v l):Rd w v l:=by
 rcases h.2 with ⟨a,b⟩ | ⟨g,cap,cur,a,n,i,d,f,m,k⟩
 ·exact⟨none,0,by rw[a,b],by omega,zap _,fun _=>rfl,.inl (zao b)⟩
 ·refine⟨some ⟨g,0,none⟩,cap,a,d,f,(fun e=>by cases e),.inr ⟨g,0,rfl,fun j c=>?_⟩⟩
  have:=zc4 h (g:=g) (by rw[a];rfl) j _ (ZbU l j c)
  rw[zbn] at this;exact this
theorem Own.mono {l:List UInt8} (h:Own w B v l) (d:B'<=B):Own w B' v l:=by
 obtain⟨b,a⟩:=h;refine⟨b,?_⟩;rcases a with a | ⟨g,cap,cur,c,e,r⟩
 ·exact .inl a
 ·exact .inr ⟨g,cap,cur,c,by omega,r⟩
theorem Own.below {l:List UInt8} (h:Own w B v l) (e:Below B' w w') (i:w.heap.size<=B'):Own w' B v l:=by
 obtain⟨d,a⟩:=h;refine⟨d,?_⟩;rcases a with a | ⟨g,cap,cur,f,c,b,r⟩
 ·exact .inl a
 ·have j:g<w.heap.size:=(zar.1 b).1
  exact .inr ⟨g,cap,cur,f,c,by rw[e.block g (by omega)];exact b,r⟩
theorem Rd.cells {ao:Option Addr} {l:List UInt8} (h:l=[]∨∃ b d,ao=some ⟨b,d,none⟩∧∀ j,j<l.length->w.cell? ⟨b,d+j,none⟩=some (.int .u8 (l.getD j 0).toNat)):
 ∀ a,ao=some a->∀ j u,(Lib.byteCells l)[j]?=some u->w.cell? (a.add j)=some u:=by
 intro a e j u f
 have c:j<l.length:=by
  have:=(zbr.1 f).1;simpa[Lib.byteCells] using this
 rcases h with rfl | ⟨b,d,g,i⟩
 ·simp at c
 ·rw[g] at e
  obtain rfl:=zaq e;rw[zbn,i j c,<-ZbU l j c,f]
theorem Own.mk' {xs:List Value} {l:List UInt8} (h:w.ownsRow B 5 1 v n xs) (b:n=l.length) (a:xs=Lib.byteCells l):Own w B v l:=by
 subst b a;exact h
theorem Zlw:(prog.info? 5).map (fun i=>(i.zero,i.size,i.bytes))=some (some (.int .u8 0),1,1):=by kernel_rfl
theorem ZbV {k:IntKind} {a b:Int} (h:a=b):Ending.returned (.int k a)=.returned (.int k b):=by rw[h]
theorem Zur (n:Int) (c:-9223372036854775808<=n) (d:n<=9223372036854775807):
 bits .xor .u64 (IntKind.u64.wrap (IntKind.u64.wrap n*2)) (IntKind.u64.wrap (n / 9223372036854775808))=((Lib.zigzag n:Nat):Int):=by
 by_cases h:0<=n
 ·have b:IntKind.u64.wrap (IntKind.u64.wrap n*2)=(((2*n).toNat:Nat):Int):=by
   rw[zeo,zeo];omega
  have a:IntKind.u64.wrap (n / 9223372036854775808)=((0:Nat):Int):=by
   rw[zeo];omega
  rw[b,a,bits_xor_u64_nat _ _ (by omega) (by decide)]
  unfold Lib.zigzag;rw[zab h];simp
 ·have b:IntKind.u64.wrap (IntKind.u64.wrap n*2)=(((2*n+18446744073709551616).toNat:Nat):Int):=by
   rw[zeo,zeo];omega
  have a:IntKind.u64.wrap (n / 9223372036854775808)=((2 ^ 64-1:Nat):Int):=by
   rw[zeo];omega
  rw[b,a,bits_xor_u64_nat _ _ (by omega) (by decide),zf3,Lib.xor_ones64 _ (by omega)]
  unfold Lib.zigzag;rw[zaa h];omega
def zag (u:Nat):Int:=if u % 2=0 then((u / 2:Nat):Int) else -((u / 2:Nat):Int)-1
theorem ZmK (x:Nat) (c:x<9223372036854775808):bits .xor .i64 (x:Int) (-1)=-(x:Int)-1:=by
 show IntKind.i64.wrap ((BitVec.ofInt 64 (x:Int) ^^^ BitVec.ofInt 64 (-1)).toNat:Int)=_;have b:(BitVec.ofInt 64 (-1)).toNat=2 ^ 64-1:=by decide
 have a:(BitVec.ofInt 64 (x:Int)).toNat=x:=by
  rw[zd5,zeb];exact zdj (by omega)
 rw[zfx,b,a,zf3,Lib.xor_ones64 x (by omega),zbo]
 omega
theorem ZmL (x:Nat) (c:x<9223372036854775808):bits .xor .i64 (x:Int) 0=(x:Int):=by
 show IntKind.i64.wrap ((BitVec.ofInt 64 (x:Int) ^^^ BitVec.ofInt 64 0).toNat:Int)=_;have b:(BitVec.ofInt 64 0).toNat=0:=by decide
 have a:(BitVec.ofInt 64 (x:Int)).toNat=x:=by
  rw[zd5,zeb];exact zdj (by omega)
 rw[zfx,b,a,Nat.xor_zero,zbo];omega
theorem Zus (u:Nat) (h:u<18446744073709551616):
 bits .xor .i64 ((u:Int) / 2) (wrap64 (-wrap64 (bits .and .u64 (u:Int) 1)))=zag u:=by
 rw[Lib.u64_and1 _ (by omega) (by omega)]
 have e:(u:Int) / 2=((u / 2:Nat):Int):=by omega
 rw[e];unfold zag;by_cases b:u % 2=0
 ·have a:wrap64 (-wrap64 ((u:Int) % 2))=0:=by
   have:(u:Int) % 2=0:=by omega
   rw[this];unfold wrap64;omega
  rw[a,zab b,ZmL _ (by omega)]
 ·have a:wrap64 (-wrap64 ((u:Int) % 2))=-1:=by
   have:(u:Int) % 2=1:=by omega
   rw[this];unfold wrap64;omega
  rw[a,zaa b,ZmK _ (by omega)]
theorem G6 (n:Int) (a:-9223372036854775808<=n) (b:n<=9223372036854775807):zag (Lib.zigzag n)=n:=by
 unfold zag Lib.zigzag;split <;> split <;> omega
theorem ZbJ (u:Nat):Lib.zigzag (zag u)=u:=by
 unfold zag Lib.zigzag;split <;> split <;> omega
theorem Zut (u:Nat) (h:u<18446744073709551616):-9223372036854775808<=zag u∧zag u<=9223372036854775807:=by
 unfold zag;split <;> omega
theorem Zza (n:Int) (w:World) (a:-9223372036854775808<=n) (b:n<=9223372036854775807):
 Calls prog 191 #[.int .i64 n] w fun e w'=>e=.returned (.int .u64 (Lib.zigzag n:Nat))∧w'=w:=by
 have H:Hid (bits .xor .u64 (IntKind.u64.wrap (IntKind.u64.wrap n*2)) (IntKind.u64.wrap (n / 9223372036854775808))=((Lib.zigzag n:Nat):Int)):=Zur n a b
 go_enter func191,ntmps191
 go_wp2;go_ret;exact⟨ZbV H.out,rfl⟩
theorem Zzb (u:Nat) (w:World) (h:u<18446744073709551616):
 Calls prog 220 #[.int .u64 (u:Int)] w fun e w'=>e=.returned (.int .i64 (zag u))∧w'=w:=by
 have H:Hid (bits .xor .i64 ((u:Int) / 2) (wrap64 (-wrap64 (bits .and .u64 (u:Int) 1)))=zag u):=Zus u h
 go_enter func220,ntmps220
 go_wp2;go_ret;exact⟨ZbV H.out,rfl⟩
theorem Qc (h:p):Hid p:=h
def I64 (n:Int):Prop:=-9223372036854775808<=n∧n<=9223372036854775807
def RdI (w:World) (v:Value) (l:List Int):Prop:=
 ∃ ao cap,v=.slice ao l.length cap∧l.length<=cap∧cap<=maxLen∧(ao=none->cap=0)∧(∀ n ∈ l,I64 n)∧
  (l=[]∨∃ b off,ao=some ⟨b,off,none⟩∧∀ j,j<l.length->w.cell? ⟨b,off+j,none⟩=some (.int .i64 (l.getD j 0)))
def Qr (l:List Int):List Value:=l.map (Value.int .i64)
def Qt (w:World) (B:Nat) (v:Value) (l:List Int):Prop:=w.ownsRow B 3 1 v l.length (Qr l)
theorem Zp (l:List Int):(Qr l).length=l.length:=by simp[Qr]
theorem Zz (l:List Int) (j:Nat) (h:j<l.length):(Qr l)[j]?=some (.int .i64 (l.getD j 0)):=by
 simp[Qr,List.getD,h]
theorem ZmM (l:List Int):∀ u ∈ Qr l,u.oneCell'=true:=by
 intro u a;obtain⟨_,_,rfl⟩:=zbm.1 a;rfl
theorem RdI.nil (w:World):RdI w (.slice none 0 0) []:=⟨none,0,rfl,za0 _,zap _,fun _=>rfl,(fun n h=>by simp at h),.inl rfl⟩
theorem Qt.nil (w:World) (B:Nat):Qt w B (.slice none 0 0) []:=zck w B 3 1
theorem RdI.i64 (h:RdI w v l):∀ n ∈ l,I64 n:=by
 obtain⟨_,_,_,_,_,_,h,_⟩:=h;exact h
theorem ZwS (h:∀ n ∈ l,I64 n) (j:Nat):I64 (l.getD j 0):=by
 by_cases a:j<l.length
 ·have e:l.getD j 0=l[j]:=by simp[List.getD,a]
  rw[e];exact h _ (getElem_mem a)
 ·have e:l.getD j 0=0:=by simp[List.getD,a]
  rw[e];exact⟨by decide,by decide⟩
theorem RdI.below (h:RdI w v l) {B:Nat} (t:Below B w w') (q:w.heap.size<=B):RdI w' v l:=by
 obtain⟨ao,cap,k,x,n,f,i,a⟩:=h;refine⟨ao,cap,k,x,n,f,i,?_⟩;rcases a with a | ⟨b,c,g,m⟩
 ·exact .inl a
 ·refine .inr ⟨b,c,g,fun j e=>?_⟩
  have d:=m j e;have u:b<w.heap.size:=za1 w ⟨b,c+j,none⟩ d;rw[t.cell (p:=⟨b,c+j,none⟩) (by exact zay u q)]
  exact d
theorem RdI.ofRow {a:Nat} {c:List Int} (A:a<=cap) (t:cap<=maxLen) (z:c.length=cap) (f:∀ i,i<c.length->w.cell? (x.add i)=some (.int .i64 (c.getD i 0))) (g:∀ n ∈ c,(Lit.int .i64 n).wf=true):
 RdI w (.slice (some x) a cap) (c.take a):=by
 have v:(c.take a).length=a:=by simp;omega
 refine⟨some x,cap,by rw[v],by omega,t,(fun e=>by cases e),fun n l=>?_,?_⟩
 ·have:=g n (zbz l)
  simpa[I64,Lit.wf,IntKind.min,IntKind.max,IntKind.signed,IntKind.bits] using this
 ·by_cases u:a=0
  ·exact .inl (by rw[u];rfl)
  ·obtain⟨b,m,spot⟩:=x
   have k:=f 0 (by omega)
   have q:spot=none:=by simpa[Addr.add] using zfw k
   subst q;refine .inr ⟨b,m,rfl,fun j y=>?_⟩
   have d:=f j (by omega)
   rw[zbn] at d;rw[d];have p:j<a:=by omega
   simp[List.getD,p]
theorem Qt.rd (h:Qt w B v l) (c:∀ n ∈ l,I64 n):RdI w v l:=by
 rcases h.2 with ⟨a,b⟩ | ⟨g,cap,cur,a,q,k,f,i,p,m⟩
 ·exact⟨none,0,by rw[a,b],by omega,zap _,fun _=>rfl,c,.inl (zao b)⟩
 ·refine⟨some ⟨g,0,none⟩,cap,a,f,i,(fun e=>by cases e),c,.inr ⟨g,0,rfl,fun j d=>?_⟩⟩
  have:=zc4 h (g:=g) (by rw[a];rfl) j _ (Zz l j d)
  rw[zbn] at this;exact this
theorem Qt.mono (h:Qt w B v l) (d:B'<=B):Qt w B' v l:=by
 obtain⟨b,a⟩:=h;refine⟨b,?_⟩;rcases a with a | ⟨g,cap,cur,c,e,r⟩
 ·exact .inl a
 ·exact .inr ⟨g,cap,cur,c,by omega,r⟩
theorem Qt.below (h:Qt w B v l) (e:Below B' w w') (i:w.heap.size<=B'):Qt w' B v l:=by
 obtain⟨d,a⟩:=h;refine⟨d,?_⟩;rcases a with a | ⟨g,cap,cur,f,c,b,r⟩
 ·exact .inl a
 ·have j:g<w.heap.size:=(zar.1 b).1
  exact .inr ⟨g,cap,cur,f,c,by rw[e.block g (by omega)];exact b,r⟩
theorem Zlx:(prog.info? 3).map (fun i=>(i.zero,i.size,i.bytes))=some (some (.int .i64 0),1,8):=by kernel_rfl
theorem ZjQ (w:World) (ty:TypeId) (B:Nat) (v:Value) (l:List Int) (h:Qt w B v l) (n:Int) (z:l.length<=1000000) (i:B<=w.heap.size):
 ∃ v' w',(Builtin.append_ #[23,23] ty #[v,.slice (some ⟨w.heap.size,0,none⟩) 1 1]).run prog (w.alloc (.cells #[.int .i64 n] 3))=.ok v' w'∧Qt w' B v' (l++[n])∧Below B w w':=by
 obtain⟨p,y,d,c,t⟩:=zbx Zlx
 obtain⟨v',w',e,m,q,_⟩:=zdn (P:=prog) (w.alloc (.cells #[.int .i64 n] 3)) B 23 ty 3 p (.int .i64 0) 1 8 underlying23 y d c t rfl (by decide) v l.length (Qr l) (zb3 h _)
  ⟨w.heap.size,0,none⟩ 1 1 [.int .i64 n] rfl (fun j u a=>by
   match j,a with
   | 0,a=>simp at a;subst a;simp[Addr.add]) (fun u b=>by simp at b;subst b;rfl) (by unfold maxLen;omega) (by omega) (by simp;omega)
 refine⟨v',w',e,?_,?_⟩
 ·unfold Qt
  have x:(l++[n]).length=l.length+1:=by simp
  have f:Qr (l++[n])=Qr l++[.int .i64 n]:=by simp[Qr]
  rw[x,f];exact m
 ·exact((zac _ _).alloc i _).grown q (by simp;omega) (fun k g=>(zaz h k g).1)
theorem Zfy (w:World) {b:Array Oper} {rest:List Oper} {o:Oper} {a:Act} {Q:Exit->Act->World->Prop} (g:o.guard=none) (s x:Operand)
 (j:o.op=.call { callee:=.builtin .append,args:=#[s,x],argTypes:=#[23,23] })
 (B:Nat) (v:Value) (l:List Int) (c:a.eval s=v) (k:Qt w B v l) (n:Int) (p:a.eval x=.slice (some ⟨w.heap.size,0,none⟩) 1 1)
 (d:l.length<=1000000) (i:B<=w.heap.size)
 (h:∀ v' w',Qt w' B v' (l++[n])->Below B w w'->wpList prog b Q rest (a.put o.dst v') w'):wpList prog b Q (o::rest) a (w.alloc (.cells #[.int .i64 n] 3)):=
 zb0 g fun _ e=>by
  obtain⟨v',w',f,q,m⟩:=ZjQ w o.type B v l k n d i;unfold Oper.wp execOp;simp only [j,resolve,invoke,builtin,zbt,zbv,zbe,zch,map_cons,map_nil,c,p,f];exact e _ _ (h v' w' q m)
def Jp (n:Int):Int:=if n < -1099511627776 then -1099511627776 else if 1099511627776<n then 1099511627776 else n
theorem Zby (n:Int):-1099511627776<=Jp n∧Jp n<=1099511627776:=by
 unfold Jp;split
 ·omega
 ·split <;> omega
structure St where
 kind:Int
 L:List Int
 shut:Bool
 eng:Int
structure Opn where
 code:Int
 a:Int
 b:Int
def ZhB (least:Int) (l:List Int) (k:Nat):Prop:=
 0<=l.getD k 0∧l.getD k 0<=255∧(0<k->l.getD (k-2) 0<l.getD k 0)∧least<=l.getD (k+1) 0∧l.getD (k+1) 0<=1099511627776
instance (least:Int) (l:List Int) (k:Nat):Decidable (ZhB least l k):=by unfold ZhB;infer_instance
def Zap (least:Int) (l:List Int):Prop:=l.length % 2=0∧l.length<=128∧∀ k,k<l.length->k % 2=0->ZhB least l k
instance (least:Int) (l:List Int):Decidable (Zap least l):=by unfold Zap;infer_instance
def Gh (l:List Int):Prop:=∀ j,j<l.length->-1099511627776<=l.getD j 0∧l.getD j 0<=1099511627776
instance (l:List Int):Decidable (Gh l):=by unfold Gh;infer_instance
def Zg (kind:Int) (l:List Int):Prop:=
 if kind=4 then Zap (-1099511627776) l else if kind=5 then Zap 0 l else l.length<=64∧(kind<=1->l.length=1)∧Gh l
instance (kind:Int) (l:List Int):Decidable (Zg kind l):=by unfold Zg;infer_instance
def Ym (s:St):Prop:=0<=s.eng∧s.eng<=2∧(s.shut=false->s.eng=0)∧0<=s.kind∧s.kind<6∧Zg s.kind s.L
instance (s:St):Decidable (Ym s):=by unfold Ym;infer_instance
def Gj (o:Opn):Prop:=0<=o.code∧o.code<=10∧-1099511627776<=o.a∧o.a<=1099511627776∧-1099511627776<=o.b∧o.b<=1099511627776
instance (o:Opn):Decidable (Gj o):=by unfold Gj;infer_instance
def Gu (kind:Int):St:=if kind<0∨6<=kind then⟨0,[],false,0⟩ else⟨kind,if kind<=1 then[0] else[],false,0⟩
def J5 (key:Int):Nat->List Int->Int
 | k,a::_::r=>if a=key then(k:Int) else J5 key (k+2) r
 | _,_=>-1
def Xi (key n:Int):Bool->List Int->List Int
 | done,a::b::r=>(if done=false∧key<=a then[key,n] else[])++((if a≠key then[a,b] else[])++Xi key n (done || decide (key<=a)) r)
 | done,_=>if done then[] else[key,n]
def Yr (key:Int):List Int->List Int
 | a::b::r=>(if a≠key then[a,b] else[])++Yr key r
 | _=>[]
theorem Zuu (l:List Int) (k:Nat) (h:k+1<l.length):l.drop k=l.getD k 0::l.getD (k+1) 0::l.drop (k+2):=by
 rw[zd0 (show k<l.length by omega),zd0 h]
 simp[List.getD,h,show k<l.length by omega]
theorem Zgo (key n:Int):∀ (l:List Int) (done:Bool),(Xi key n done l).length<=l.length+2
 | [],done=>by unfold Xi;split <;> simp
 | [a],done=>by unfold Xi;split <;> simp
 | a::b::r,done=>by
  have c:=Zgo key n r (done || decide (key<=a));unfold Xi
  have f:(if done=false∧key<=a then[key,n] else([]:List Int)).length+(Xi key n (done || decide (key<=a)) r).length<=r.length+2:=by
   by_cases h:done=false∧key<=a
   ·rw[zab h]
    have e:(done || decide (key<=a))=true:=by simp[h.2]
    rw[e];have d:=withF_true key n r;simp;omega
   ·rw[zaa h]
    simpa using c
  have d:(if a≠key then[a,b] else([]:List Int)).length<=2:=by split <;> simp
  simp only [length_append,length_cons];omega
where
 withF_true (key n:Int):∀ (l:List Int),(Xi key n true l).length<=l.length
 | []=>by simp[Xi]
 | [a]=>by simp[Xi]
 | a::b::r=>by
  have ih:=withF_true key n r;unfold Xi;simp only [zgw];split <;> split <;> simp_all <;> omega
def ZdN (s:St) (o:Opn):St × Int:=
 if s.kind=0∧o.code=1 then(⟨s.kind,[Jp (s.L.getD 0 0+Jp o.a)],s.shut,s.eng⟩,s.L.getD 0 0) else
 if s.kind=1∧o.code=2 then(⟨s.kind,[Jp o.a],s.shut,s.eng⟩,s.L.getD 0 0) else
 if o.code=7 then(s,s.L.getD 0 0) else(s,0)
def Zo (s:St) (o:Opn):St × Int:=
 if o.code=3 then(if s.L.length=64 then(s,-1) else(⟨s.kind,s.L++[Jp o.a],s.shut,s.eng⟩,(s.L.length:Int)+1)) else
 if o.code=4 then(if s.L.length=0 then(s,-1) else if s.kind=2 then(⟨s.kind,s.L.drop 1,s.shut,s.eng⟩,s.L.getD 0 0) else(⟨s.kind,s.L.take (s.L.length-1),s.shut,s.eng⟩,s.L.getD (s.L.length-1) 0)) else
 if o.code=7 then(s,(s.L.length:Int)) else(s,0)
def ZqU (key:Int) (l:List Int):Int:=if 0<=J5 key 0 l then l.getD ((J5 key 0 l).toNat+1) 0 else -1
def Zcr (s:St) (o:Opn):St × Int:=
 if o.code≠7∧o.code≠6∧o.code≠5 then(s,0) else
 if o.a<0∨255<o.a then(s,-1) else
 if o.code=6 then(⟨s.kind,Yr o.a s.L,s.shut,s.eng⟩,ZqU o.a s.L) else
 if o.code=5 then(if J5 o.a 0 s.L<0∧s.L.length=128 then(s,-2) else(⟨s.kind,Xi o.a (Jp o.b) false s.L,s.shut,s.eng⟩,ZqU o.a s.L)) else
 (s,ZqU o.a s.L)
def Y3 (key:Int) (l:List Int):Int:=if 0<=J5 key 0 l then l.getD ((J5 key 0 l).toNat+1) 0 else 0
def De (s:St) (o:Opn):St × Int:=
 if o.a<0∨65535<o.a∨o.b<0 then(s,0) else
 if J5 (o.a / 256) 0 s.L<0∨Y3 (o.a / 256) s.L<o.b then(s,0) else
 if o.a / 256=o.a % 256 then(s,1) else
 if(J5 (o.a % 256) 0 s.L<0∧s.L.length=128)∨1099511627776<Y3 (o.a % 256) s.L+o.b then(s,0) else
 (⟨s.kind,Xi (o.a % 256) (Y3 (o.a % 256) s.L+o.b) false (Xi (o.a / 256) (Y3 (o.a / 256) s.L-o.b) false s.L),s.shut,s.eng⟩,1)
def Yh (s:St) (o:Opn):St × Int:=
 if o.code=9 then De s o else
 if o.code≠7∧o.code≠8 then(s,0) else
 if o.a<0∨255<o.a then(s,-1) else
 if o.code=7 then(s,ZqU o.a s.L) else
 if o.b<0 then(s,-1) else
 if J5 o.a 0 s.L<0∧s.L.length=128 then(s,-2) else
 (⟨s.kind,Xi o.a (Jp (Y3 o.a s.L+Jp o.b)) false s.L,s.shut,s.eng⟩,Jp (Y3 o.a s.L+Jp o.b))
def Zcy (s:St) (o:Opn):St × Int:=
 if ¬ Ym s then(s,0) else
 if s.shut=true then(s,-1125899906842624) else
 if o.code=10 then(⟨s.kind,s.L,true,if 0<=o.a∧o.a<=2 then o.a else s.eng⟩,0) else
 if s.kind<=1 then ZdN s o else if s.kind<=3 then Zo s o else if s.kind=4 then Zcr s o else Yh s o
def Qu (least:Int):Int->List Int->Prop
 | lo,a::b::r=>lo<a∧a<=255∧least<=b∧b<=1099511627776∧Qu least a r
 | _,[]=>True
 | _,[_]=>False
def Zeu (least lo:Int) (l:List Int) (k:Nat):Prop:=
 (if k=0 then lo else l.getD (k-2) 0)<l.getD k 0∧l.getD k 0<=255∧least<=l.getD (k+1) 0∧l.getD (k+1) 0<=1099511627776
theorem Zev (least lo a b:Int) (r:List Int) (k:Nat) (d:k % 2=0):Zeu least lo (a::b::r) (k+2)↔Zeu least a r k:=by
 unfold Zeu;rw[zaa (by omega)]
 by_cases c:k=0
 ·subst c
  rw[zab rfl];exact Iff.rfl
 ·rw[zaa c]
  obtain⟨j,rfl⟩:∃ j,k=j+2:=⟨k-2,by omega⟩
  exact Iff.rfl
theorem Zdh (least:Int):∀ (l:List Int) (lo:Int),Qu least lo l↔l.length % 2=0∧∀ k,k<l.length->k % 2=0->Zeu least lo l k
 | [],lo=>by simp[Qu]
 | [a],lo=>by simp[Qu]
 | a::b::r,lo=>by
  have f:=Zdh least r a;unfold Qu;rw[f];constructor
  ·rintro⟨h1,h2,h3,h4,h5,h6⟩
   refine⟨by simp;omega,fun k e d=>?_⟩
   by_cases c:k=0
   ·subst c
    exact⟨by rw[zab rfl];exact h1,h2,h3,h4⟩
   ·obtain⟨j,rfl⟩:∃ j,k=j+2:=⟨k-2,by omega⟩
    rw[Zev least lo a b r j (by omega)]
    exact h6 j (by simp at e;omega) (by omega)
  ·rintro⟨h1,h2⟩
   have c:=h2 0 (by simp) rfl
   unfold Zeu at c;rw[zab rfl] at c;refine⟨c.1,c.2.1,c.2.2.1,c.2.2.2,by simp at h1;omega,fun k e d=>?_⟩
   rw[<-Zev least lo a b r k d];exact h2 (k+2) (by simp;omega) (by omega)
theorem ZhC (least:Int):∀ (l:List Int) (lo:Int) (k:Nat),Qu least lo l->k<l.length->k % 2=0->lo<l.getD k 0
 | [],_,_,_,hk,_=>by simp at hk
 | [a],_,_,h,_,_=>by simp[Qu] at h
 | a::b::r,lo,k,h,hk,hk2=>by
  unfold Qu at h;by_cases c:k=0
  ·subst c
   exact h.1
  ·obtain⟨j,rfl⟩:∃ j,k=j+2:=⟨k-2,by omega⟩
   have:=ZhC least r a j h.2.2.2.2 (by simp at hk;omega) (by omega)
   have e:(a::b::r).getD (j+2) 0=r.getD j 0:=rfl;rw[e];have:=h.1;omega
theorem ZhD (least:Int) (l:List Int):Zap least l↔l.length<=128∧Qu least (-1) l:=by
 constructor
 ·rintro⟨h1,h2,b⟩
  refine⟨h2,(Zdh least l (-1)).2 ⟨h1,fun k c a=>?_⟩⟩
  obtain⟨g,f,d,e,i⟩:=b k c a;refine⟨?_,f,e,i⟩;split
  ·omega
  ·exact d (by omega)
 ·rintro⟨h1,h2⟩
  have b:=(Zdh least l (-1)).1 h2;refine⟨b.1,h1,fun k c a=>?_⟩
  obtain⟨g,f,d,e⟩:=b.2 k c a;have i:=ZhC least l (-1) k h2 c a;refine⟨by omega,f,fun h=>?_,d,e⟩
  rwa [zaa (by omega)] at g
theorem ZbK (h:Qu least lo l):l.length % 2=0:=((Zdh least l lo).1 h).1
def Yj (key:Int):List Int->Option Int
 | a::b::r=>if a=key then some b else Yj key r
 | _=>none
theorem Gt (key a b:Int) (r:List Int):Yj key (a::b::r)=if a=key then some b else Yj key r:=rfl
theorem Zew (key:Int):∀ (l:List Int) (k:Nat),(J5 key k l=-1∧Yj key l=none)∨(∃ j,J5 key k l=((k+j:Nat):Int)∧j+1<l.length∧Yj key l=some (l.getD (j+1) 0)∧l.getD j 0=key)
 | [],_=>.inl ⟨rfl,rfl⟩
 | [_],_=>.inl ⟨rfl,rfl⟩
 | a::b::r,k=>by
  by_cases h:a=key
  ·right
   refine⟨0,by unfold J5;rw[zab h];rfl,by simp,by unfold Yj;rw[zab h];rfl,h⟩
  ·rcases Zew key r (k+2) with ⟨c,d⟩ | ⟨j,c,d,f,e⟩
   ·left
    exact⟨by unfold J5;rw[zaa h];exact c,by unfold Yj;rw[zaa h];exact d⟩
   ·right
    refine⟨j+2,?_,by simp;omega,?_,e⟩
    ·unfold J5
     rw[zaa h,c]
     congr 1
     omega
    ·unfold Yj
     rw[zaa h,f];rfl
theorem Zex (key:Int) (l:List Int):J5 key 0 l<0↔Yj key l=none:=by
 rcases Zew key l 0 with ⟨a,b⟩ | ⟨j,a,b,c,d⟩
 ·rw[a,b]
  simp
 ·rw[a,c]
  simp
theorem Zly (key:Int) (l:List Int):ZqU key l=(Yj key l).getD (-1):=by
 unfold ZqU;rcases Zew key l 0 with ⟨a,b⟩ | ⟨j,a,b,c,d⟩
 ·rw[a,b,zaa (by omega)]
  rfl
 ·rw[a,c,zab (by omega)]
  simp
theorem ZhE (key:Int) (l:List Int):Y3 key l=(Yj key l).getD 0:=by
 unfold Y3;rcases Zew key l 0 with ⟨a,b⟩ | ⟨j,a,b,c,d⟩
 ·rw[a,b,zaa (by omega)]
  rfl
 ·rw[a,c,zab (by omega)]
  simp
theorem ZaU {least:Int} {key:Int}:∀ {l:List Int} {lo:Int},Qu least lo l->key<=lo->Yj key l=none
 | [],_,_,_=>rfl
 | [_],_,h,_=>by simp[Qu] at h
 | a::b::r,lo,h,hk=>by
  unfold Qu at h;unfold Yj;rw[zaa (by omega)]
  exact ZaU h.2.2.2.2 (by omega)
theorem ZhF {least:Int} {key v:Int}:∀ {l:List Int} {lo:Int},Qu least lo l->Yj key l=some v->lo<key∧key<=255∧least<=v∧v<=1099511627776
 | [],_,_,h=>by simp[Yj] at h
 | [_],_,h,_=>by simp[Qu] at h
 | a::b::r,lo,h,hg=>by
  unfold Qu at h;unfold Yj at hg;by_cases e:a=key
  ·rw[zab e] at hg
   injection hg with hg
   omega
  ·rw[zaa e] at hg
   have:=ZhF h.2.2.2.2 hg;omega
theorem Zfz (key n least:Int):∀ (l:List Int) (lo:Int),Qu least lo l->key<=lo->Xi key n true l=l
 | [],_,_,_=>rfl
 | [_],_,h,_=>by simp[Qu] at h
 | a::b::r,lo,h,hk=>by
  unfold Qu at h;unfold Xi;rw[zaa (by simp),zab (by omega),zgw,Zfz key n least r a h.2.2.2.2 (by omega)]
  rfl
theorem ZaV (key n least a b:Int) (r:List Int) (lo:Int) (h:Qu least lo (a::b::r)):
 Xi key n false (a::b::r)=if key<a then key::n::a::b::r else if key=a then key::n::r else a::b::Xi key n false r:=by
 unfold Qu at h
 conv=>lhs;unfold Xi
 by_cases d:key<a
 ·rw[zab d,zab ⟨rfl,by omega⟩,zab (by omega),zan (by omega),zfb,Zfz key n least r a h.2.2.2.2 (by omega)]
  rfl
 ·rw[zaa d]
  by_cases c:key=a
  ·rw[zab c,zab ⟨rfl,by omega⟩,zaa (by omega),zan (by omega),zfb,Zfz key n least r a h.2.2.2.2 (by omega)]
   rfl
  ·rw[zaa c,zaa (by omega),zab (by omega),zai (by omega),zfb]
   rfl
theorem Zbc (key n least:Int) (d:least<=n) (c:n<=1099511627776) (f:key<=255):∀ (l:List Int) (lo:Int),Qu least lo l->lo<key->Qu least lo (Xi key n false l)
 | [],lo,_,hlo=>by
  simp[Xi,Qu];omega
 | [_],_,h,_=>by simp[Qu] at h
 | a::b::r,lo,h,hlo=>by
  have g:=Zbc key n least d c f r a;rw[ZaV key n least a b r lo h];unfold Qu at h;split
  ·unfold Qu
   refine⟨hlo,f,d,c,?_⟩;unfold Qu;exact⟨by assumption,h.2⟩
  ·split
   ·rename_i e
    subst e;unfold Qu;exact⟨hlo,f,d,c,h.2.2.2.2⟩
   ·unfold Qu
    exact⟨h.1,h.2.1,h.2.2.1,h.2.2.2.1,g h.2.2.2.2 (by omega)⟩
theorem Zey (key n least:Int):∀ (l:List Int) (lo:Int),Qu least lo l->(Xi key n false l).length=if Yj key l=none then l.length+2 else l.length
 | [],lo,_=>by simp[Xi,Yj]
 | [_],_,h=>by simp[Qu] at h
 | a::b::r,lo,h=>by
  have g:=Zey key n least r a;rw[ZaV key n least a b r lo h];unfold Qu at h;by_cases f:key<a
  ·have e:Yj key (a::b::r)=none:=by rw[Gt,zaa (by omega),ZaU h.2.2.2.2 (by omega)]
   rw[zab f,zab e];simp
  ·rw[zaa f]
   by_cases d:key=a
   ·have e:Yj key (a::b::r)≠none:=by rw[Gt,zab d.symm];simp
    rw[zab d,zaa e];simp
   ·have e:Yj key (a::b::r)=Yj key r:=by rw[Gt,zaa (by omega)]
    rw[zaa d,e];have:=g h.2.2.2.2;simp only [length_cons,this];by_cases c:Yj key r=none
    ·rw[zab c,zab c]
    ·rw[zaa c,zaa c]
theorem ZmN (key n least:Int):∀ (l:List Int) (lo:Int),Qu least lo l->∀ k,Yj k (Xi key n false l)=if k=key then some n else Yj k l
 | [],lo,_,k=>by
  simp[Xi,Yj,eq_comm]
 | [_],_,h,_=>by simp[Qu] at h
 | a::b::r,lo,h,k=>by
  have d:=ZmN key n least r a;rw[ZaV key n least a b r lo h];unfold Qu at h;by_cases f:key<a
  ·rw[zab f]
   by_cases e:k=key
   ·subst e
    rw[zab rfl,Yj,zab rfl]
   ·rw[zaa e,Yj,zaa (by omega)]
  ·rw[zaa f]
   by_cases c:key=a
   ·rw[zab c]
    subst c;by_cases e:k=key
    ·subst e
     rw[zab rfl,Yj,zab rfl]
    ·rw[zaa e,Yj,zaa (by omega),Yj,zaa (by omega)]
   ·rw[zaa c]
    by_cases e:k=key
    ·subst e
     rw[zab rfl,Yj,zaa (by omega),d h.2.2.2.2 k,zab rfl]
    ·rw[zaa e,Yj]
     conv=>rhs;rw[Yj]
     rw[d h.2.2.2.2 k,zaa e]
theorem Zad (key a b:Int) (r:List Int):Yr key (a::b::r)=if a≠key then a::b::Yr key r else Yr key r:=by
 rw[Yr];split <;> rfl
theorem Zdx (key least:Int):∀ (l:List Int) (lo:Int),Qu least lo l->Qu least lo (Yr key l)
 | [],_,_=>by simp[Yr,Qu]
 | [_],_,h=>by simp[Qu] at h
 | a::b::r,lo,h=>by
  have c:=Zdx key least r;rw[Zad];unfold Qu at h;split
  ·unfold Qu
   exact⟨h.1,h.2.1,h.2.2.1,h.2.2.2.1,c a h.2.2.2.2⟩
  ·exact lower (c a h.2.2.2.2) (by omega)
where
 lower {least lo lo':Int}:∀ {l:List Int},Qu least lo l->lo'<=lo->Qu least lo' l
 | [],_,_=>trivial
 | [_],h,_=>by simp[Qu] at h
 | a::b::r,h,hl=>by
  unfold Qu at h ⊢;exact⟨by omega,h.2⟩
theorem Zcz (key:Int):∀ (l:List Int),(Yr key l).length<=l.length
 | []=>by simp[Yr]
 | [_]=>by simp[Yr]
 | a::b::r=>by
  have c:=Zcz key r;rw[Zad];split <;> simp <;> omega
def Zui:List Int->Int
 | _::b::r=>b+Zui r
 | _=>0
theorem ZhG (key n least:Int):∀ (l:List Int) (lo:Int),Qu least lo l->Zui (Xi key n false l)=Zui l+n-(Yj key l).getD 0
 | [],lo,_=>by simp[Xi,Yj,Zui]
 | [_],_,h=>by simp[Qu] at h
 | a::b::r,lo,h=>by
  have e:=ZhG key n least r a;rw[ZaV key n least a b r lo h];unfold Qu at h;by_cases d:key<a
  ·rw[zab d,Yj,zaa (by omega),ZaU h.2.2.2.2 (by omega)]
   simp[Zui];omega
  ·rw[zaa d]
   by_cases c:key=a
   ·rw[zab c,Yj,zab c.symm]
    simp[Zui];omega
   ·rw[zaa c,Yj,zaa (by omega),Zui,e h.2.2.2.2]
    simp[Zui];omega
theorem J9 (l:List Int):Gh l↔∀ x ∈ l,-1099511627776<=x∧x<=1099511627776:=by
 unfold Gh;constructor
 ·intro h x b
  obtain⟨j,a,rfl⟩:=zds b;have:=h j a;simpa[List.getD,a] using this
 ·intro h j a
  have:=h l[j] (getElem_mem a);simpa[List.getD,a] using this
theorem X9 (a:kind≠4) (b:kind≠5):Zg kind l↔l.length<=64∧(kind<=1->l.length=1)∧Gh l:=by
 unfold Zg;rw[zaa a,zaa b]
theorem ZaL (l:List Int):Zg 4 l↔l.length<=128∧Qu (-1099511627776) (-1) l:=by
 unfold Zg;rw[zab rfl];exact ZhD _ _
theorem Zar (l:List Int):Zg 5 l↔l.length<=128∧Qu 0 (-1) l:=by
 unfold Zg;rw[zaa (by decide),zab rfl]
 exact ZhD _ _
theorem ZaM {s:St} (h:Ym s) {L:List Int} (a:Zg s.kind L):Ym ⟨s.kind,L,s.shut,s.eng⟩:=
 ⟨h.1,h.2.1,h.2.2.1,h.2.2.2.1,h.2.2.2.2.1,a⟩
theorem Zzc {s:St} (h:Ym s) (b:s.kind<=1) (o:Opn):Ym (ZdN s o).1:=by
 have c:=h.2.2.2.1;have one:∀ x:Int,Zg s.kind [Jp x]:=fun x=>(X9 (by omega) (by omega)).2 ⟨by simp,fun _=>rfl,(J9 _).2 (fun y a=>by rw[zaw.1 a];exact Zby x)⟩
 unfold ZdN;split
 ·exact ZaM h (one _)
 split
 ·exact ZaM h (one _)
 split
 ·exact h
 ·exact h
theorem ZwT {s:St} (h:Ym s) (c:¬ s.kind<=1) (d:s.kind<=3) (o:Opn):Ym (Zo s o).1:=by
 have a:=(X9 (by omega) (by omega)).1 h.2.2.2.2.2
 have b:=(J9 _).1 a.2.2;unfold Zo;split
 ·split
  ·exact h
  ·refine ZaM h ((X9 (by omega) (by omega)).2 ⟨?_,fun e=>absurd e c,(J9 _).2 fun x hx=>?_⟩)
   ·have:=a.1
    simp;omega
   ·rcases za2.1 hx with hx | hx
    ·exact b x hx
    ·rw[zaw.1 hx];exact Zby _
 split
 ·split
  ·exact h
  split
  ·refine ZaM h ((X9 (by omega) (by omega)).2 ⟨?_,fun e=>absurd e c,(J9 _).2 fun x hx=>b x (ze8 hx)⟩)
   have:=a.1;simp;omega
  ·refine ZaM h ((X9 (by omega) (by omega)).2 ⟨?_,fun e=>absurd e c,(J9 _).2 fun x hx=>b x (zbz hx)⟩)
   have:=a.1;simp;omega
 split
 ·exact h
 ·exact h
theorem Zuv (g:l.length<=128) (a:Qu least (-1) l) {key n:Int} (i:0<=key) (c:key<=255) (f:least<=n) (d:n<=1099511627776) (b:¬ (J5 key 0 l<0∧l.length=128)):
 (Xi key n false l).length<=128∧Qu least (-1) (Xi key n false l):=by
 refine⟨?_,Zbc key n least f d c l (-1) a (by omega)⟩
 rw[Zey key n least l (-1) a];have j:=ZbK a;rw[Zex] at b;split
 ·rename_i h
  have:l.length≠128:=fun e=>b ⟨h,e⟩
  omega
 ·exact g
theorem Zuw {s:St} (h:Ym s) (c:s.kind=4) (o:Opn):Ym (Zcr s o).1:=by
 have b:=h.2.2.2.2.2;rw[c,ZaL] at b;unfold Zcr;split
 ·exact h
 split
 ·exact h
 split
 ·refine ZaM h ?_
  rw[c,ZaL];refine⟨?_,Zdx _ _ _ _ b.2⟩;have:=Zcz o.a s.L;omega
 split
 ·split
  ·exact h
  ·refine ZaM h ?_
   rw[c,ZaL];exact Zuv b.1 b.2 (by omega) (by omega) (Zby _).1 (Zby _).2 (by assumption)
 ·exact h
theorem ZaW (a:Qu 0 (-1) l) (key:Int):0<=Y3 key l∧Y3 key l<=1099511627776:=by
 rw[ZhE]
 cases h:Yj key l with
 | none=>simp
 | some v=>
  have:=ZhF a h;exact⟨this.2.2.1,this.2.2.2⟩
theorem ZrQ (w:l.length<=128) (d:Qu 0 (-1) l) (a c b:Int) (B:0<=a) (u:a<=255) (D:0<=c) (n:c<=255) (C:0<=b) (k:¬ (J5 a 0 l<0∨Y3 a l<b)) (v:¬ a=c)
 (q:¬ ((J5 c 0 l<0∧l.length=128)∨1099511627776<Y3 c l+b)):
 (Xi c (Y3 c l+b) false (Xi a (Y3 a l-b) false l)).length<=128∧
 Qu 0 (-1) (Xi c (Y3 c l+b) false (Xi a (Y3 a l-b) false l))∧
 Zui (Xi c (Y3 c l+b) false (Xi a (Y3 a l-b) false l))=Zui l:=by
 have x:=ZaW d a;have z:=ZaW d c;have t:Yj a l≠none:=fun e=>k (.inl ((Zex _ _).2 e))
 have y:¬ Y3 a l<b:=fun e=>k (.inr e)
 have f:Qu 0 (-1) (Xi a (Y3 a l-b) false l):=Zbc _ _ _ (by omega) (by omega) u _ _ d (by omega)
 have m:(Xi a (Y3 a l-b) false l).length=l.length:=by rw[Zey _ _ _ _ _ d,zaa t]
 have p:=ZhG a (Y3 a l-b) 0 l (-1) d;have j:Yj c (Xi a (Y3 a l-b) false l)=Yj c l:=by rw[ZmN _ _ _ _ _ d,zaa (fun e=>v e.symm)]
 have i:=Zey c (Y3 c l+b) 0 _ (-1) f;have g:=ZhG c (Y3 c l+b) 0 _ (-1) f;rw[j,m] at i;rw[j,p,<-ZhE,<-ZhE] at g;refine⟨?_,Zbc _ _ _ (by omega) (by omega) n _ _ f (by omega),by rw[g];omega⟩
 rw[i];have A:=ZbK d;split
 ·rename_i h
  have:l.length≠128:=fun e=>q (.inl ⟨(Zex _ _).2 h,e⟩)
  omega
 ·exact w
theorem ZwU {s:St} (h:Ym s) (d:s.kind=5) (o:Opn):Ym (De s o).1∧Zui (De s o).1.L=Zui s.L∧((De s o).2≠1->(De s o).1=s)∧(De s o).1.kind=s.kind∧(De s o).1.shut=s.shut:=by
 have c:=h.2.2.2.2.2;rw[d,Zar] at c;unfold De;split
 ·exact⟨h,rfl,fun _=>rfl,rfl,rfl⟩
 split
 ·exact⟨h,rfl,fun _=>rfl,rfl,rfl⟩
 split
 ·exact⟨h,rfl,fun _=>rfl,rfl,rfl⟩
 split
 ·exact⟨h,rfl,fun _=>rfl,rfl,rfl⟩
 ·have:=ZrQ c.1 c.2 (o.a / 256) (o.a % 256) o.b (by omega) (by omega) (by omega) (by omega) (by omega) (by assumption) (by assumption) (by assumption)
  refine⟨ZaM h ?_,this.2.2,fun e=>absurd rfl e,rfl,rfl⟩
  rw[d,Zar];exact⟨this.1,this.2.1⟩
theorem ZrR {s:St} (h:Ym s) (d:s.kind=5) (o:Opn):Ym (Yh s o).1:=by
 have c:=h.2.2.2.2.2;rw[d,Zar] at c;unfold Yh;split
 ·exact(ZwU h d o).1
 split
 ·exact h
 split
 ·exact h
 split
 ·exact h
 split
 ·exact h
 split
 ·exact h
 ·refine ZaM h ?_
  rw[d,Zar];have i:=ZaW c.2 o.a;have g:=Zby o.b
  have e:0<=Jp o.b:=by
   unfold Jp;split
   ·omega
   ·split <;> omega
  have f:0<=Jp (Y3 o.a s.L+Jp o.b):=by
   unfold Jp;split
   ·have:=e;unfold Jp at this;omega
   ·split
    ·omega
    ·have:=e;unfold Jp at this;omega
  exact Zuv c.1 c.2 (by omega) (by omega) f (Zby _).2 (by assumption)
theorem Zlz (s:St) (o:Opn):(ZdN s o).1.kind=s.kind∧(ZdN s o).1.shut=s.shut∧(ZdN s o).1.eng=s.eng:=by
 unfold ZdN
 repeat' split
 all_goals exact⟨rfl,rfl,rfl⟩
theorem ZhH (s:St) (o:Opn):(Zo s o).1.kind=s.kind∧(Zo s o).1.shut=s.shut∧(Zo s o).1.eng=s.eng:=by
 unfold Zo
 repeat' split
 all_goals exact⟨rfl,rfl,rfl⟩
theorem ZfA (s:St) (o:Opn):(Zcr s o).1.kind=s.kind∧(Zcr s o).1.shut=s.shut∧(Zcr s o).1.eng=s.eng:=by
 unfold Zcr
 repeat' split
 all_goals exact⟨rfl,rfl,rfl⟩
theorem ZdO (s:St) (o:Opn):(Yh s o).1.kind=s.kind∧(Yh s o).1.shut=s.shut∧(Yh s o).1.eng=s.eng:=by
 unfold Yh De
 repeat' split
 all_goals exact⟨rfl,rfl,rfl⟩
theorem ZhI {s:St} (h:Ym s) (a:s.shut=true) (o:Opn):Zcy s o=(s,-1125899906842624):=by
 unfold Zcy;rw[zaa (fun e=>e h),zab a]
theorem ZhJ {s:St} (h:Ym s) (b:s.shut=false) (o:Opn) (c:o.code=10):Zcy s o=(⟨s.kind,s.L,true,if 0<=o.a∧o.a<=2 then o.a else s.eng⟩,0):=by
 unfold Zcy;rw[zaa (fun e=>e h),zaa (by simp[b]),zab c]
theorem ZwV {s:St} (h:¬ Ym s) (o:Opn):Zcy s o=(s,0):=by
 unfold Zcy;rw[zab h]
theorem ZhK {s:St} (h:Ym s) (a:s.shut=false) (o:Opn) (b:o.code≠10):Zcy s o=if s.kind<=1 then ZdN s o else if s.kind<=3 then Zo s o else if s.kind=4 then Zcr s o else Yh s o:=by
 unfold Zcy;rw[zaa (fun e=>e h),zaa (by simp[a]),zaa b]
theorem Zux (s:St) (o:Opn):(Zcy s o).1.kind=s.kind:=by
 unfold Zcy;split
 ·rfl
 split
 ·rfl
 split
 ·rfl
 split
 ·exact(Zlz s o).1
 split
 ·exact(ZhH s o).1
 split
 ·exact(ZfA s o).1
 ·exact(ZdO s o).1
theorem ZrS {s:St} (h:Ym s) (o:Opn):(Zcy s o).1.shut=(s.shut || decide (o.code=10)):=by
 by_cases c:s.shut=true
 ·rw[ZhI h c,c]
  rfl
 ·have a:s.shut=false:=by simpa using c
  by_cases b:o.code=10
  ·rw[ZhJ h a o b,zan b]
   simp
  ·rw[ZhK h a o b,zai b,a]
   split
   ·rw[(Zlz s o).2.1,a];rfl
   split
   ·rw[(ZhH s o).2.1,a];rfl
   split
   ·rw[(ZfA s o).2.1,a];rfl
   ·rw[(ZdO s o).2.1,a];rfl
theorem ZwW {s:St} (h:Ym s) (o:Opn):Ym (Zcy s o).1:=by
 by_cases b:s.shut=true
 ·rw[ZhI h b]
  exact h
 ·have d:s.shut=false:=by simpa using b
  by_cases c:o.code=10
  ·rw[ZhJ h d o c]
   refine⟨?_,?_,(fun e=>by cases e),h.2.2.2.1,h.2.2.2.2.1,h.2.2.2.2.2⟩
   ·show 0<=(if 0<=o.a∧o.a<=2 then o.a else s.eng)
    have:=h.1;split <;> omega
   ·show(if 0<=o.a∧o.a<=2 then o.a else s.eng)<=2
    have:=h.2.1;split <;> omega
  ·rw[ZhK h d o c]
   have f:=h.2.2.2.1;have g:=h.2.2.2.2.1;split
   ·exact Zzc h (by assumption) o
   split
   ·exact ZwT h (by assumption) (by assumption) o
   split
   ·exact Zuw h (by assumption) o
   ·exact ZrR h (by omega) o
theorem Zzd {k:IntKind} {a b:Int} (h:a=b):Ending.returned (.int k a)=.returned (.int k b):=by rw[h]
theorem Y9 {b:Bool} (h:a=b):Ending.returned (.bool a)=.returned (.bool b):=by rw[h]
def StV (w:World) (v:Value) (s:St):Prop:=∃ vl,v=.agg #[.int .i64 s.kind,vl,.bool s.shut,.int .i64 s.eng]∧RdI w vl s.L∧I64 s.kind∧I64 s.eng
def opV (o:Opn):Value:=.agg #[.int .i64 o.code,.int .i64 o.a,.int .i64 o.b]
def ZyL (o:Opn):Prop:=I64 o.code∧I64 o.a∧I64 o.b
def ZmO (a b:St):Prop:=a.kind=b.kind∧a.shut=b.shut∧a.eng=b.eng∧a.L=b.L
instance (a b:St):Decidable (ZmO a b):=by unfold ZmO;infer_instance
def ZfB (w:World) (vl:Value) (L:List Int) (r:St × Int) (e:Ending) (w':World):Prop:=
 ∃ vl',e=.returned (.tuple #[.agg #[.int .i64 r.1.kind,vl',.bool r.1.shut,.int .i64 r.1.eng],.int .i64 r.2])∧RdI w' vl' r.1.L∧I64 r.1.kind∧I64 r.1.eng∧((vl'=vl∧r.1.L=L)∨∀ b,vl'.ownBlock=some b->w.heap.size<=b)∧Below w.heap.size w w'
def lval:Value->Value
 | .agg ⟨[_,x,_,_]⟩=>x
 | v=>v
theorem ZqV (a x c d:Value):lval (.agg #[a,x,c,d])=x:=rfl
theorem Zpa {g a:Nat} (h:(Value.slice (some ⟨g,a,none⟩) n c).ownBlock=some b):b=g:=by
 injection h with h
 exact h.symm
theorem ZfB.fresh {d vl':Value} {L L':List Int} (f:RdI w' vl' L') (i:I64 kind) (c:I64 g) (n:Int) (j:∀ b,vl'.ownBlock=some b->w.heap.size<=b) (e:Below w.heap.size w w'):
 ZfB w d L (⟨kind,L',a,g⟩,n) (.returned (.tuple #[.agg #[.int .i64 kind,vl',.bool a,.int .i64 g],.int .i64 n])) w':=
 ⟨_,rfl,f,i,c,.inr j,e⟩
theorem Zze (n:Int):I64 (Jp n):=by
 have:=Zby n;unfold I64;omega
theorem RdI.one (w:World) (x:Int) (h:I64 x):RdI (w.alloc (.cells #[.int .i64 x] 3)) (.slice (some ⟨w.heap.size,0,none⟩) 1 1) [x]:=by
 refine⟨some ⟨w.heap.size,0,none⟩,1,rfl,za0 _,by decide,(fun e=>by cases e),?_,.inr ⟨w.heap.size,0,rfl,fun j b=>?_⟩⟩
 ·intro n a
  simp at a;rw[a];exact h
 ·have e:j=0:=by simpa using b
  subst e;rw[za9,zas _ w.heap.size 0 #[.int .i64 x] 3 (0,0) (zak w _)];rfl
theorem ZAK (w:World) (x y z:Obj):(((w.alloc x).alloc y).alloc z).heap.size=w.heap.size+1+1+1:=by simp
def Df (w:World) (B:Nat) (s o r:Array Value):Prop:=
 w.heap[B]?=some (.cells s 38 (0,0))∧w.heap[B+1]?=some (.cells o 52 (0,0))∧w.heap[B+1+1]?=some (.cells r 38 (0,0))
theorem Df.made (w:World) (s o r:Array Value):Df (((w.alloc (.cells s 38)).alloc (.cells o 52)).alloc (.cells r 38)) w.heap.size s o r:=by
 refine⟨?_,?_,?_⟩
 ·rw[zav _ _ _ (by simp;omega),zav _ _ _ (by simp)]
  exact zak w _
 ·rw[zav _ _ _ (by simp)]
  have h:=zak (w.alloc (.cells s 38)) (.cells o 52);have e:(w.alloc (.cells s 38)).heap.size=w.heap.size+1:=by simp
  rwa [e] at h
 ·have h:=zak ((w.alloc (.cells s 38)).alloc (.cells o 52)) (.cells r 38)
  have e:((w.alloc (.cells s 38)).alloc (.cells o 52)).heap.size=w.heap.size+1+1:=by simp
  rwa [e] at h
theorem Df.below {s o r:Array Value} (h:Df w B s o r) (a:Below C w w') (e:B+3<=C):Df w' B s o r:=by
 obtain⟨b,d,c⟩:=h
 exact⟨by rw[a.block _ (by omega)];exact b,by rw[a.block _ (by omega)];exact d,by rw[a.block _ (by omega)];exact c⟩
-- 38
theorem Df.s {w:World} {B:Nat} {s o r:Array Value} (h:Df w B s o r) (j:Nat):w.cell? ⟨B,j,none⟩=s[j]?∧w.frozen? ⟨B,j,none⟩=false:=
 ⟨zas w B j _ _ _ h.1,zbc w B j _ _ h.1⟩
-- 38
theorem Df.o {w:World} {B:Nat} {s o r:Array Value} (h:Df w B s o r) (j:Nat):w.cell? ⟨B+1,j,none⟩=o[j]?∧w.frozen? ⟨B+1,j,none⟩=false:=
 ⟨zas w (B+1) j _ _ _ h.2.1,zbc w (B+1) j _ _ h.2.1⟩
-- 38
theorem Df.r {w:World} {B:Nat} {s o r:Array Value} (h:Df w B s o r) (j:Nat):w.cell? ⟨B+1+1,j,none⟩=r[j]?∧w.frozen? ⟨B+1+1,j,none⟩=false:=
 ⟨zas w (B+1+1) j _ _ _ h.2.2,zbc w (B+1+1) j _ _ h.2.2⟩
-- 38
theorem Qt.shape (h:Qt w B v l):∃ ao cap,v=.slice ao l.length cap:=by
 rcases h.2 with ⟨a,b⟩ | ⟨g,cap,cur,a,_⟩
 ·exact⟨none,0,by rw[a,b]⟩
 ·exact⟨_,_,a⟩
def ZqW (w:World) (B R:Nat) (x0 x1 x2 x3 x4:Value):World:=
 ((((w.setCell ⟨B,1,none⟩ x0).setCell ⟨R,0,none⟩ x1).setCell ⟨R,1,none⟩ x2).setCell ⟨R,2,none⟩ x3).setCell ⟨R,3,none⟩ x4
theorem Qt.five (h:Qt w C v l) (B R:Nat) (b:B<C) (a:R<C) (d e g c f:Value):Qt (ZqW w B R d e g c f) C v l:=
 zb8 (zb8 (zb8 (zb8 (zb8 h b _) a _) a _) a _) a _
theorem Zuy {b:World} (h:Below C b w) (B R:Nat) (c:C<=B) (a:C<=R) (e f i d g:Value):Below C b (ZqW w B R e f i d g):=
 ((((h.setCell c _).setCell a _).setCell a _).setCell a _).setCell a _
theorem Zae {b:World} (h:Below C b w) (R:Nat) (a:C<=R) (d f c e:Value):Below C b ((((w.setCell ⟨R,0,none⟩ d).setCell ⟨R,1,none⟩ f).setCell ⟨R,2,none⟩ c).setCell ⟨R,3,none⟩ e):=
 (((h.setCell a _).setCell a _).setCell a _).setCell a _
theorem Qo {n:Int} (a:-2251799813685248<=n) (b:n<=2251799813685248):I64 n:=⟨by omega,by omega⟩
structure But (R T:Nat) (w w':World):Prop where
 os:w'.os=w.os
 tape:w'.tape=w.tape
 output:w'.output=w.output
 size:w.heap.size<=w'.heap.size
 block:∀ k,k<w.heap.size->k≠R->k≠T->w'.heap[k]?=w.heap[k]?
theorem But.refl (R T:Nat) (w:World):But R T w w:=⟨rfl,rfl,rfl,za0 _,fun _ _ _ _=>rfl⟩
theorem But.set (h:But R T w w') (b i:Nat) (c:b=R∨b=T) (x:Value):But R T w (w'.setCell ⟨b,i,none⟩ x):=by
 have a:=(zac 0 w').setCell (p:=⟨b,i,none⟩) (zap _) x;refine⟨a.os.trans h.os,a.tape.trans h.tape,a.output.trans h.output,zau h.size a.size,fun k d f e=>?_⟩
 rw[zat _ _ _ _ (by rcases c with rfl | rfl <;> assumption)]
 exact h.block k d f e
theorem Zaf {N:Nat} {wr:World} (h:Below N w wr) (a:But R T wr w') (d:N<=wr.heap.size) (e:N<=R) (c:N<=T):Below N w w':=
 ⟨a.os.trans h.os,a.tape.trans h.tape,a.output.trans h.output,zau h.size a.size,fun k b=>(a.block k (by omega) (by omega) (by omega)).trans (h.block k b)⟩
theorem But.four (h:But R T w w') (b:Nat) (a:b=R∨b=T) (d f c e:Value):But R T w ((((w'.setCell ⟨b,0,none⟩ d).setCell ⟨b,1,none⟩ f).setCell ⟨b,2,none⟩ c).setCell ⟨b,3,none⟩ e):=
 (((h.set b 0 a d).set b 1 a f).set b 2 a c).set b 3 a e
theorem RdI.block (h:RdI w v l):l=[]∨(l≠[]∧∃ b,v.ownBlock=some b∧b<w.heap.size):=by
 obtain⟨ao,cap,i,n,k,m,j,a⟩:=h;rcases a with a | ⟨b,f,d,e⟩
 ·exact .inl a
 ·by_cases c:l=[]
  ·exact .inl c
  ·right
   have g:0<l.length:=zes.2 c;exact⟨c,b,by rw[i,d];rfl,za1 w ⟨b,f+0,none⟩ (e 0 g)⟩
theorem RdI.but (h:RdI w v l) {R T:Nat} (q:But R T w w') (hn:l=[]∨∀ b,v.ownBlock=some b->b≠R∧b≠T):RdI w' v l:=by
 obtain⟨ao,cap,g,x,n,k,p,c⟩:=h;refine⟨ao,cap,g,x,n,k,p,?_⟩;rcases c with c | ⟨b,d,f,i⟩
 ·exact .inl c
 ·rcases hn with hn | hn
  ·exact .inl hn
  ·refine .inr ⟨b,d,f,fun j e=>?_⟩
   obtain⟨u,m⟩:=hn b (by rw[g,f];rfl)
   have t:=za1 w ⟨b,d+j,none⟩ (i j e);rw[<-i j e];exact zb4 (a:=⟨b,d+j,none⟩) (q.block b t u m)
theorem ZAL {c:Bool} (h:Ym ⟨kind,l,c,g⟩) (b:kind<=1):l.length=1∧-1099511627776<=l.getD 0 0∧l.getD 0 0<=1099511627776:=by
 have a:=(X9 (kind:=kind) (l:=l) (by omega) (by omega)).1 h.2.2.2.2.2
 have d:=a.2.1 b;exact⟨d,a.2.2 0 (by show 0<l.length;omega)⟩
theorem ZAM (h:Ym ⟨kind,l,a,g⟩) (b:kind<=3):l.length<=64:=
 ((X9 (kind:=kind) (l:=l) (by omega) (by omega)).1 h.2.2.2.2.2).1
theorem ZmP:∀ {l:List Int} {lo:Int},-1<=lo->Qu 0 lo l->∀ x ∈ l,0<=x∧x<=1099511627776
 | [],_,_,_,x,hx=>by simp at hx
 | [_],_,_,h,_,_=>by simp[Qu] at h
 | a::b::r,lo,hlo,h,x,hx=>by
  unfold Qu at h;have c:=ZmP (l:=r) (lo:=a) (by omega) h.2.2.2.2 x
  simp at hx;rcases hx with rfl | rfl | hx
  ·omega
  ·omega
  ·exact c hx
theorem Zuz (b:-1099511627776<=least) (a:Qu least lo l) (key:Int):I64 (ZqU key l):=by
 rw[Zly]
 cases h:Yj key l with
 | none=>exact Qo (by decide) (by decide)
 | some v=>
  have:=ZhF a h;show I64 v;exact Qo (by omega) (by omega)
theorem ZyM (h:Gh l) (j:Nat):I64 (l.getD j 0):=by
 by_cases a:j<l.length
 ·have:=h j a
  exact Qo (by omega) (by omega)
 ·have e:l.getD j 0=0:=by simp[List.getD,a]
  rw[e];exact Qo (by decide) (by decide)
theorem ZuA (s:St) (o:Opn):I64 (Zcy s o).2:=by
 have c:I64 0:=Qo (by decide) (by decide)
 have p:I64 1:=Qo (by decide) (by decide)
 have e:I64 (-1):=Qo (by decide) (by decide)
 have m:I64 (-2):=Qo (by decide) (by decide)
 by_cases b:Ym s
 ·by_cases k:s.shut=true
  ·rw[ZhI b k]
   exact(Qo (by decide) (by decide):I64 (-1125899906842624))
  ·have n:s.shut=false:=by simpa using k
   by_cases l:o.code=10
   ·rw[ZhJ b n o l]
    exact c
   ·rw[ZhK b n o l]
    have v:=b.2.2.2.1;have u:=b.2.2.2.2.1;have d:=b.2.2.2.2.2;split
    ·have i:=((X9 (by omega) (by omega)).1 d).2.2
     unfold ZdN
     repeat' split
     all_goals first | exact ZyM i 0 | exact c
    split
    ·have j:=(X9 (by omega) (by omega)).1 d
     have i:=j.2.2;have t:I64 ((s.L.length:Int)):=Qo (by omega) (by have:=j.1;omega)
     have q:I64 ((s.L.length:Int)+1):=Qo (by omega) (by have:=j.1;omega)
     unfold Zo
     repeat' split
     all_goals first | exact ZyM i _ | exact c | exact e | exact t | exact q
    split
    ·rename_i f
     rw[f,ZaL] at d;have g:=Zuz (by decide) d.2 o.a
     unfold Zcr
     repeat' split
     all_goals first | exact c | exact e | exact m | exact g
    ·have f:s.kind=5:=by omega
     rw[f,Zar] at d;have g:=Zuz (by decide) d.2 o.a
     unfold Yh De
     repeat' split
     all_goals first | exact c | exact p | exact e | exact m | exact g | exact Zze _
 ·rw[ZwV b]
  exact c
theorem Qt.but (h:Qt w B v l) {R T:Nat} (k:But R T w w') (e:∀ b,v.ownBlock=some b->b≠R∧b≠T):Qt w' B v l:=by
 obtain⟨i,a⟩:=h;refine⟨i,?_⟩;rcases a with a | ⟨g,cap,cur,d,f,c,r⟩
 ·exact .inl a
 ·have m:g<w.heap.size:=(zar.1 c).1
  obtain⟨n,j⟩:=e g (by rw[d];rfl)
  exact .inr ⟨g,cap,cur,d,f,by rw[k.block g m n j];exact c,r⟩
def Zpb (w:World) (B:Nat) (s r:Array Value):Prop:=
 w.heap[B]?=some (.cells s 38 (0,0))∧w.heap[B+1]?=some (.cells r 38 (0,0))
theorem Zpb.made (w:World) (s r:Array Value):Zpb ((w.alloc (.cells s 38)).alloc (.cells r 38)) w.heap.size s r:=by
 refine⟨?_,?_⟩
 ·rw[zav _ _ _ (by simp)]
  exact zak w _
 ·have h:=zak (w.alloc (.cells s 38)) (.cells r 38)
  have e:(w.alloc (.cells s 38)).heap.size=w.heap.size+1:=by simp
  rwa [e] at h
theorem Zpb.below {s r:Array Value} (h:Zpb w B s r) (a:Below C w w') (d:B+2<=C):Zpb w' B s r:=by
 obtain⟨b,c⟩:=h
 exact⟨by rw[a.block _ (by omega)];exact b,by rw[a.block _ (by omega)];exact c⟩
-- 38
theorem Zpb.s {w:World} {B:Nat} {s r:Array Value} (h:Zpb w B s r) (j:Nat):w.cell? ⟨B,j,none⟩=s[j]?∧w.frozen? ⟨B,j,none⟩=false:=
 ⟨zas w B j _ _ _ h.1,zbc w B j _ _ h.1⟩
-- 38
theorem Zpb.r {w:World} {B:Nat} {s r:Array Value} (h:Zpb w B s r) (j:Nat):w.cell? ⟨B+1,j,none⟩=r[j]?∧w.frozen? ⟨B+1,j,none⟩=false:=
 ⟨zas w (B+1) j _ _ _ h.2,zbc w (B+1) j _ _ h.2⟩
-- 38
theorem Zez (w:World) {d:Array Oper} {rest:List Oper} {o:Oper} {a:Act} {Q:Exit->Act->World->Prop} (z:o.guard=none) (s x:Operand)
 (D:o.op=.call { callee:=.builtin .append,args:=#[s,x],argTypes:=#[23,23] })
 (B:Nat) (v:Value) (l:List Int) (f:a.eval s=v) (F:Qt w B v l) (n:Int) (N:Nat) (L:N=w.heap.size) (M:a.eval x=.slice (some ⟨N,0,none⟩) 1 1)
 (R:l.length<=1000000) (S:B<=w.heap.size)
 (h:∀ v' w',Qt w' B v' (l++[n])->w.grownBy w' v.ownBlock->(v'.ownBlock=v.ownBlock∨∃ g,v'.ownBlock=some g∧w.heap.size<=g)->wpList prog d Q rest (a.put o.dst v') w'):wpList prog d Q (o::rest) a (w.alloc (.cells #[.int .i64 n] 3)):=
 zb0 z fun _ q=>by
  subst L;obtain⟨E,J,p,m,G⟩:=zbx Zlx
  obtain⟨v',w',t,K,b,_,hat⟩:=zdf (P:=prog) (w.alloc (.cells #[.int .i64 n] 3)) B 23 o.type 3 E (.int .i64 0) 1 8 underlying23 J p m G rfl (by decide) v l.length (Qr l) (zb3 F _)
   ⟨w.heap.size,0,none⟩ 1 1 [.int .i64 n] rfl (fun j u c=>by
    match j,c with
    | 0,c=>simp at c;subst c;simp[Addr.add]) (fun u e=>by simp at e;subst e;rfl) (by unfold maxLen;omega) (by omega) (by simp;omega)
  have O:Qt w' B v' (l++[n]):=by
   unfold Qt;have H:(l++[n]).length=l.length+1:=by simp
   have y:Qr (l++[n])=Qr l++[.int .i64 n]:=by simp[Qr]
   rw[H,y];exact K
  have I:w.grownBy w' v.ownBlock:=⟨b.os,b.tape,b.output,by have:=b.size;simp at this;omega,fun k C i=>by
   rw[b.block k (by simp;omega) i]
   exact zav _ _ _ C⟩
  have A:v'.ownBlock=v.ownBlock∨∃ g,v'.ownBlock=some g∧w.heap.size<=g:=by
   rcases hat with hat | hat
   ·exact .inl hat
   ·exact .inr ⟨_,hat,by simp⟩
  unfold Oper.wp execOp;simp only [D,resolve,invoke,builtin,zbt,zbv,zbe,zch,map_cons,map_nil,f,M,t];exact q _ _ (h v' w' O I A)
theorem ZqX (w:World) (b i:Nat) (x:Value):(w.setCell ⟨b,i,none⟩ x).heap.size=w.heap.size:=by simp[World.setCell]
def Bx (w:World) (b:Nat) (cs:Array Value):Prop:=w.heap[b]?=some (.cells cs 38 (0,0))
def Bo (w:World) (b:Nat) (cs:Array Value):Prop:=w.heap[b]?=some (.cells cs 52 (0,0))
theorem Bx.lt (h:Bx w b cs):b<w.heap.size:=(zar.1 h).1
-- 38
theorem Bx.below (h:Bx w b cs) (a:Below B w w') (c:w.heap.size<=B):Bx w' b cs:=(a.block b (by have:=h.lt;omega)).trans h
-- 38
theorem Bx.cell (h:Bx w b cs) (j:Nat):w.cell? ⟨b,j,none⟩=cs[j]?∧w.frozen? ⟨b,j,none⟩=false:=⟨zas w b j _ _ _ h,zbc w b j _ _ h⟩
-- 38
theorem Bo.lt (h:Bo w b cs):b<w.heap.size:=(zar.1 h).1
theorem Bo.below (h:Bo w b cs) (a:Below B w w') (c:w.heap.size<=B):Bo w' b cs:=(a.block b (by have:=h.lt;omega)).trans h
theorem Bo.cell (h:Bo w b cs) (j:Nat):w.cell? ⟨b,j,none⟩=cs[j]?∧w.frozen? ⟨b,j,none⟩=false:=⟨zas w b j _ _ _ h,zbc w b j _ _ h⟩
theorem Qt.four (h:Qt w C v l) (R:Nat) (a:R<C) (c e b d:Value):Qt ((((w.setCell ⟨R,0,none⟩ c).setCell ⟨R,1,none⟩ e).setCell ⟨R,2,none⟩ b).setCell ⟨R,3,none⟩ d) C v l:=
 zb8 (zb8 (zb8 (zb8 h a _) a _) a _) a _
theorem Qt.fresh (h:Qt w B v l):∀ b,v.ownBlock=some b->B<=b:=fun b a=>(zaz h b a).1
end Go.Proofs.YtnahjngbneicaaaGreatDoor
