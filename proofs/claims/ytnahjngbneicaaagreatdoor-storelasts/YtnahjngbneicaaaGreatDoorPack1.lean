import Derived.Test.YtnahjngbneicaaaGreatDoorRows
import Derived.WalkKit
import Derived.ProofKit
import Derived.Lib.VarintMem
import Derived.Lib.Zigzag
import Derived.Lib.Endian
import Derived.Lib.VarintBits
import Derived.BigQuiet
import Derived.Deep.DeepCutAuto
import Derived.Deep.RegionHeld
import Derived.Maps.AppendAt
namespace Go.Proofs.YtnahjngbneicaaaGreatDoor
open _root_.Go.Proofs.Tryz
open List (cons_append foldl_append getElem_mem length_append length_cons length_take map_cons map_nil mem_cons_of_mem mem_cons_self pairwise_cons)
set_option maxRecDepth 100000
variable {p:Prop} {B B' C R T b c cap f m m' n:Nat} {a:Bool} {w w':World} {g key kind least lo:Int} {v:Value} {l:List Int} {x:Addr} {cs:Array Value}
theorem _root_.Go.RowKit.Hid.o (h:Go.RowKit.Hid p):p:=h
theorem zL:n<=n:=Nat.le_refl n
open Go.RowKit
theorem Xo {a:World} (h:Below B a w) (n:Nat):Below B a (w.drewN n):=⟨h.os,h.tape,h.output,h.size,h.block⟩
theorem ZZ (h:p):Hid p:=h
theorem Zeg {b:Bool} (h:a=b):Ending.returned (.bool a)=.returned (.bool b):=by rw[h]
structure Fl where
 b:List UInt8
 k:Nat
inductive Ch where
 | give (n:Int) (f:Nat)
 | move (n tz:Int) (f:Nat)
 | take (n:Int)
abbrev Dir:=List (Int × Nat)
def Xa (l:Dir):Prop:=l.Pairwise (fun p q=>p.1<q.1)
def G9 (l:Dir):Prop:=l.Pairwise (fun p q=>p.2≠q.2)
def look:Dir->Int->Option Nat
 | [],_=>none
 | p::l,n=>if p.1=n then some p.2 else look l n
def Zjz (n:Int) (f:Nat):Bool->Dir->Dir
 | done,[]=>if done then[] else[(n,f)]
 | done,p::l=>(if !done && decide (p.1>n) then[(n,f)] else[])++((if p.1≠n then[p] else[])++Zjz n f (done || decide (p.1>n)) l)
def Yt (l:Dir) (n:Int):Option Nat->Dir
 | some f=>Zjz n f false l
 | none=>Zjz n 0 true l
theorem Zhf {α:Type} (c:Prop) [Decidable c] (x p:α):p ∈ (if c then[x] else[])↔c∧p=x:=by
 split <;> simp_all
theorem Zbo (n:Int) (f:Nat) (p:Int × Nat):∀ (l:Dir) (done:Bool),p ∈ Zjz n f done l↔(p ∈ l∧p.1≠n)∨(done=false∧p=(n,f))
 | [],done=>by cases done <;> simp[Zjz]
 | q::l,done=>by
  rw[Zjz,List.mem_append,List.mem_append,Zbo n f p l,Zhf,Zhf,List.mem_cons]
  cases done <;> grind
theorem Zo (l:Dir) (n:Int) (o:Option Nat) (p:Int × Nat):p ∈ Yt l n o↔(p ∈ l∧p.1≠n)∨(p.1=n∧o=some p.2):=by
 cases o with
 | none=>rw[Yt,Zbo];simp
 | some f=>
  rw[Yt,Zbo];constructor
  ·rintro(h | ⟨_,h⟩)
   ·exact .inl h
   ·exact .inr (by rw[h];exact⟨rfl,rfl⟩)
  ·rintro(h | ⟨h1,h2⟩)
   ·exact .inl h
   ·refine .inr ⟨rfl,?_⟩
    obtain⟨a,b⟩:=p;simp only [Option.some.injEq] at h2;simp only at h1;rw[h1,h2]
theorem ZdB (n:Int) (f:Nat):∀ (l:Dir) (done:Bool),Xa l->(done=true->∀ p ∈ l,p.1>n)->Xa (Zjz n f done l)
 | [],done,_,_=>by cases done <;> simp[Zjz,Xa]
 | q::l,done,h,hd=>by
  unfold Xa at h;rw[pairwise_cons] at h;rw[Zjz];unfold Xa;by_cases a:q.1>n
  ·have b:q.1≠n:=by omega
   have c:=ZdB n f l true h.2 (fun _ p hp=>by have:=h.1 p hp;omega)
   have e:(done || decide (q.1>n))=true:=by rw[decide_eq_true a,Bool.or_true]
   rw[e,if_pos b]
   have d:(q::Zjz n f true l).Pairwise (fun p q=>p.1<q.1):=by
    refine List.pairwise_cons.2 ⟨fun p hp=>?_,c⟩
    rcases(Zbo n f p l true).1 hp with ⟨hp,_⟩ | ⟨hp,_⟩
    ·exact h.1 p hp
    ·cases hp
   cases done
   ·rw[if_pos (by simp[a])]
    refine List.pairwise_cons.2 ⟨fun p hp=>?_,d⟩
    rcases List.mem_cons.1 hp with rfl | hp
    ·exact a
    ·rcases(Zbo n f p l true).1 hp with ⟨hp,_⟩ | ⟨hp,_⟩
     ·have:=h.1 p hp;simp only;omega
     ·cases hp
   ·rw[if_neg (by simp)]
    exact d
  ·have e:(done || decide (q.1>n))=done:=by rw[decide_eq_false a,Bool.or_false]
   have g:done=false:=by
    cases done
    ·rfl
    ·exact absurd (hd rfl q (mem_cons_self ..)) a
   subst g;rw[e,if_neg (by simp[a])]
   have c:=ZdB n f l false h.2 (fun i=>by cases i)
   by_cases b:q.1=n
   ·rw[if_neg (by simp[b])]
    exact c
   ·rw[if_pos b]
    refine List.pairwise_cons.2 ⟨fun p hp=>?_,c⟩
    rcases(Zbo n f p l false).1 hp with ⟨hp,_⟩ | ⟨_,hp⟩
    ·exact h.1 p hp
    ·rw[hp];simp only;omega
theorem Zeh (n:Int) (f:Nat):∀ l:Dir,Zjz n f true l=l.filter (fun p=>decide (p.1≠n))
 | []=>rfl
 | q::l=>by
  rw[Zjz,Bool.true_or,Zeh n f l,List.filter_cons];by_cases h:q.1=n <;> simp[h]
theorem Yo {l:Dir} (h:Xa l) (n:Int) (o:Option Nat):Xa (Yt l n o):=by
 cases o with
 | none=>
  rw[Yt,Zeh];exact h.sublist List.filter_sublist
 | some f=>exact ZdB n f l false h (fun a=>by cases a)
theorem ZdC (n:Int) (f:Nat):∀ (l:Dir) (done:Bool),(Zjz n f done l).length<=l.length+(if done then 0 else 1)
 | [],done=>by cases done <;> simp[Zjz]
 | q::l,done=>by
  have a:=ZdC n f l (done || decide (q.1>n));rw[Zjz,length_append,length_append,length_cons]
  cases done <;> grind
theorem ZdD (l:Dir) (n:Int) (o:Option Nat):(Yt l n o).length<=l.length+1:=by
 cases o with
 | none=>have:=ZdC n 0 l true;simp at this;rw[Yt];omega
 | some f=>have:=ZdC n f l false;simpa[Yt] using this
theorem Zb {l:Dir} (h:Xa l) (n:Int) (f:Nat):look l n=some f↔(n,f) ∈ l:=by
 induction l with
 | nil=>simp[look]
 | cons p l d=>
  unfold Xa at h;rw[pairwise_cons] at h;rw[look];by_cases e:p.1=n
  ·rw[if_pos e]
   constructor
   ·intro c
    have:p=(n,f):=by
     obtain⟨a,b⟩:=p;simp only [Option.some.injEq] at c;simp only at e;rw[e,c]
    rw[this];exact mem_cons_self ..
   ·intro hm
    rcases List.mem_cons.1 hm with hm | hm
    ·rw[<-hm]
    ·have:=h.1 _ hm
     simp only at this;omega
  ·rw[if_neg e,d h.2]
   constructor
   ·exact fun hm=>mem_cons_of_mem _ hm
   ·intro hm
    rcases List.mem_cons.1 hm with hm | hm
    ·exact absurd (by rw[<-hm]) e
    ·exact hm
theorem ZtS {l:Dir} (n:Int):look l n=none↔∀ p ∈ l,p.1≠n:=by
 induction l with
 | nil=>simp[look]
 | cons p l a=>
  rw[look];by_cases e:p.1=n
  ·rw[if_pos e]
   constructor
   ·intro h;cases h
   ·intro h;exact absurd e (h p (mem_cons_self ..))
  ·rw[if_neg e,a]
   constructor
   ·intro h q hq
    rcases List.mem_cons.1 hq with rfl | hq
    ·exact e
    ·exact h q hq
   ·exact fun h q hq=>h q (mem_cons_of_mem _ hq)
theorem Zaw {l:Dir} (h:Xa l) (n:Int) (o:Option Nat) (m:Int):look (Yt l n o) m=if m=n then o else look l m:=by
 have c:=Yo h n o;apply Option.ext;intro f;rw[Zb c,Zo];by_cases e:m=n
 ·rw[if_pos e]
  constructor
  ·rintro(⟨_,b⟩ | ⟨_,b⟩)
   ·exact absurd e b
   ·exact b
  ·exact fun b=>.inr ⟨e,b⟩
 ·rw[if_neg e,Zb h]
  constructor
  ·rintro(⟨a,_⟩ | ⟨a,_⟩)
   ·exact a
   ·exact absurd a e
  ·exact fun a=>.inl ⟨a,e⟩
theorem Zga {l:Dir} (h:Xa l):(l.map Prod.fst).Pairwise (·<·):=by
 rw[List.pairwise_map];exact h
theorem Zgb:∀ {a b:List Int},a.Pairwise (·<·)->b.Pairwise (·<·)->(∀ x,x ∈ a↔x ∈ b)->a=b
 | [],[],_,_,_=>rfl
 | [],y::b,_,_,h=>by have:=(h y).2 (mem_cons_self ..);cases this
 | x::a,[],_,_,h=>by have:=(h x).1 (mem_cons_self ..);cases this
 | x::a,y::b,ha,hb,h=>by
  rw[pairwise_cons] at ha hb
  have d:x=y:=by
   rcases List.mem_cons.1 ((h x).1 (mem_cons_self ..)) with e | hx
   ·exact e
   ·rcases List.mem_cons.1 ((h y).2 (mem_cons_self ..)) with e | hy
    ·exact e.symm
    ·have:=ha.1 y hy
     have:=hb.1 x hx;omega
  subst d;rw[Zgb ha.2 hb.2 fun z=>?_]
  constructor
  ·intro c
   rcases List.mem_cons.1 ((h z).1 (mem_cons_of_mem _ c)) with e | hz'
   ·have:=ha.1 z c;omega
   ·exact hz'
  ·intro c
   rcases List.mem_cons.1 ((h z).2 (mem_cons_of_mem _ c)) with e | hz'
   ·have:=hb.1 z c;omega
   ·exact hz'
theorem Zka (n:Int) (f:Nat):∀ (l:Dir) (done:Bool),G9 l->(done=false->∀ p ∈ l,p.1≠n->p.2≠f)->G9 (Zjz n f done l)
 | [],done,_,_=>by cases done <;> simp[Zjz,G9]
 | q::l,done,h,hd=>by
  unfold G9 at h;rw[pairwise_cons] at h;rw[Zjz];have c:=Zka n f l (done || decide (q.1>n)) h.2 (fun e p hp i=>hd (by cases done <;> simp_all) p (mem_cons_of_mem _ hp) i)
  have d:∀ a:q.1≠n,(q::Zjz n f (done || decide (q.1>n)) l).Pairwise (fun p q=>p.2≠q.2):=by
   intro a;refine List.pairwise_cons.2 ⟨fun p hp=>?_,c⟩
   rcases(Zbo n f p l _).1 hp with ⟨hp,_⟩ | ⟨hdn,hp⟩
   ·exact h.1 p hp
   ·rw[hp]
    exact hd (by cases done <;> simp_all) q (mem_cons_self ..) a
  unfold G9;by_cases a:q.1=n
  ·rw[if_neg (by simp[a]),if_neg (by simp[a])]
   exact c
  ·rw[if_pos a]
   by_cases b:(!done && decide (q.1>n))=true
   ·rw[if_pos b]
    simp only [Bool.and_eq_true,Bool.not_eq_true',decide_eq_true_eq] at b;refine List.pairwise_cons.2 ⟨fun p hp=>?_,d a⟩
    rcases List.mem_cons.1 hp with rfl | hp
    ·exact fun e=>hd b.1 p (mem_cons_self ..) a e.symm
    ·rcases(Zbo n f p l _).1 hp with ⟨hp,g⟩ | ⟨hdn,_⟩
     ·exact fun e=>hd b.1 p (mem_cons_of_mem _ hp) g e.symm
     ·rw[decide_eq_true b.2] at hdn
      simp at hdn
   ·rw[if_neg b]
    exact d a
theorem Zkb {l:Dir} (h:G9 l) (n:Int) (f:Nat) (a:∀ p ∈ l,p.1≠n->p.2≠f):G9 (Yt l n (some f)):=
 Zka n f l false h fun _=>a
theorem Zkc {l:Dir} (h:G9 l) (n:Int):G9 (Yt l n none):=by
 rw[Yt,Zeh];exact h.sublist List.filter_sublist
def chD (l:Dir):Ch->Dir
 | .give n f=>Yt l n (some f)
 | .move n tz f=>Yt (Yt l n none) tz (some f)
 | .take n=>Yt l n none
theorem Zfo {l:Dir} (h:Xa l) (c:Ch):Xa (chD l c):=by
 cases c with
 | give n f=>rw[chD];exact Yo h _ _
 | move n tz f=>rw[chD];exact Yo (Yo h _ _) _ _
 | take n=>rw[chD];exact Yo h _ _
theorem Zrt (l:Dir) (c:Ch):(chD l c).length<=l.length+1:=by
 cases c with
 | give n f=>rw[chD];exact ZdD _ _ _
 | move n tz f=>
  have a:=ZdD (Yt l n none) tz (some f);have b:(Yt l n none).length<=l.length:=by rw[Yt,Zeh];exact List.length_filter_le _ _
  rw[chD];omega
 | take n=>rw[chD];exact ZdD _ _ _
def chF (f:Int->Option Nat):Ch->Int->Option Nat
 | .give n x=>fun m=>if m=n then some x else f m
 | .move n tz x=>fun m=>if m=n then none else if m=tz then some x else f m
 | .take n=>fun m=>if m=n then none else f m
theorem Zdb {l:Dir} (h:Xa l) (c:Ch) (b:∀ n a f,c=.move n a f->n≠a) (m:Int):look (chD l c) m=chF (look l) c m:=by
 cases c with
 | give n f=>rw[chD];exact Zaw h _ _ _
 | move n a f=>
  have d:=b n a f rfl;rw[chD,Zaw (Yo h _ _),Zaw h];show _=(if m=n then none else if m=a then some f else look l m)
  grind
 | take n=>rw[chD];exact Zaw h _ _ _
def Z4 (a:Int) (all:Nat):Nat:=if a<0 then 0 else(a % ((all:Int)+1)).toNat
theorem Zcy (a:Int) (all:Nat):Z4 a all<=all:=by
 unfold Z4;split
 ·omega
 ·have:=Int.emod_lt_of_pos a (show(0:Int)<(all:Int)+1 by omega)
  omega
def Zhg (keep:List Int) (i:Nat):Int:=if keep.length=0 then 0 else keep.getD (i % keep.length) 0
def Zlc (x:Fl) (a:Int):Fl:=⟨x.b.take (x.k+Z4 a (x.b.length-x.k)),x.k+Z4 a (x.b.length-x.k)⟩
def fl (fs:List Fl) (f:Nat):Fl:=fs.getD f ⟨[],0⟩
def Xb (keep:List Int):Dir->Nat->List Fl->List Fl
 | [],_,fs=>fs
 | p::l,i,fs=>Xb keep l (i+1) (fs.set p.2 (Zlc (fl fs p.2) (Zhg keep i)))
theorem Gi (keep:List Int):∀ (l:Dir) (i:Nat) (fs:List Fl),(Xb keep l i fs).length=fs.length
 | [],_,_=>rfl
 | p::l,i,fs=>by rw[Xb,Gi keep l,List.length_set]
theorem Zhh (keep:List Int):∀ (l:Dir) (p:Int × Nat) (i:Nat) (fs:List Fl),Xb keep (l++[p]) i fs=(Xb keep l i fs).set p.2 (Zlc (fl (Xb keep l i fs) p.2) (Zhg keep (i+l.length)))
 | [],p,i,fs=>by simp[Xb]
 | q::l,p,i,fs=>by
  rw[cons_append,Xb,Xb,Zhh keep l p (i+1)];rw[length_cons,show i+1+l.length=i+(l.length+1) by omega]
theorem Zao {fs:List Fl} (h:f<fs.length) (x:Fl):fl (fs.set f x) f=x:=by
 unfold fl;simp[List.getD,h]
theorem Jf {fs:List Fl} {g:Nat} (h:f≠g) (x:Fl):fl (fs.set f x) g=fl fs g:=by
 unfold fl;simp[List.getD,h]
theorem Zbp (keep:List Int):∀ (l:Dir) (i:Nat) (fs:List Fl) (g:Nat),(∀ p ∈ l,p.2≠g)->fl (Xb keep l i fs) g=fl fs g
 | [],_,_,_,_=>rfl
 | p::l,i,fs,g,h=>by
  rw[Xb,Zbp keep l (i+1) _ g fun q a=>h q (mem_cons_of_mem _ a),Jf (h p (mem_cons_self ..))]
structure Dk where
 room:Int
 files:List Fl
 kept:Dir
 waits:List Ch
 power:Int
def Ym (d:Dk) (k:Nat):Dir:=(d.waits.take k).foldl chD d.kept
def Qm (d:Dk):Dir:=d.waits.foldl chD d.kept
def Zt (fs:List Fl) (l:Dir):Nat:=(l.map fun p=>(fl fs p.2).b.length).sum
def Jb (d:Dk):Nat:=Zt d.files (Qm d)
def totF (fs:List Fl):Nat:=(fs.map fun x=>x.b.length).sum
def Y5 (p:Int):Int:=if p>0 then p-1 else p
def ZdE (n:Int):Bool:=decide (0<=n) && decide (n<1048576)
def ZgP (room:Int):Dk:=⟨room,[],[],[],-1⟩
def Jd (d:Dk) (n:Int):Dk:={ d with files:=d.files++[⟨[],0⟩],waits:=d.waits++[.give n d.files.length] }
def Yr (fs:List Fl) (f:Nat) (b:List UInt8):List Fl:=fs.set f ⟨(fl fs f).b++b,(fl fs f).k⟩
def appendTo (d:Dk) (f:Nat) (b:List UInt8):Dk:={ d with files:=Yr d.files f b,power:=Y5 d.power }
def Qy (d:Dk) (n:Int) (b:List UInt8):Dk × Int:=
 if d.power=0 then(d,11) else if ZdE n=false then(d,1) else if(Jb d:Int)+b.length>d.room then(d,10) else
 match look (Qm d) n with
 | some f=>(appendTo d f b,0)
 | none=>(appendTo (Jd d n) d.files.length b,0)
def Zp (d:Dk) (n:Int):List UInt8 × Int:=
 if d.power=0 then([],11) else
 match look (Qm d) n with
 | some f=>((fl d.files f).b,0)
 | none=>([],8)
def Gd (fs:List Fl) (f:Nat):List Fl:=fs.set f ⟨(fl fs f).b,(fl fs f).b.length⟩
def X3 (d:Dk) (n:Int):Dk × Int:=
 if d.power=0 then(d,11) else
 match look (Qm d) n with
 | some f=>({ d with files:=Gd d.files f,power:=Y5 d.power },0)
 | none=>(d,8)
def Ji (d:Dk) (n tz:Int):Dk × Int:=
 if d.power=0 then(d,11) else
 match look (Qm d) n with
 | some f=>if ZdE tz=false then(d,1) else if n=tz then({ d with power:=Y5 d.power },0) else
  ({ d with waits:=d.waits++[.move n tz f],power:=Y5 d.power },0)
 | none=>(d,8)
def Qj (d:Dk) (n:Int):Dk × Int:=
 if d.power=0 then(d,11) else
 match look (Qm d) n with
 | some _=>({ d with waits:=d.waits++[.take n],power:=Y5 d.power },0)
 | none=>(d,8)
def Qn (d:Dk):Dk × Int:=
 if d.power=0 then(d,11) else({ d with kept:=Qm d,waits:=[],power:=Y5 d.power },0)
def Zqz (d:Dk) (n:Int):Dk:={ d with power:=if d.power=0 then 0 else max n 0 }
def G7 (d:Dk) (names:Int) (keep:List Int):Dk:=
 let l:=Ym d (Z4 names d.waits.length)
 { d with files:=Xb keep l 0 d.files,kept:=l,waits:=[],power:=-1 }
def ZtN (m:Nat):Ch->Prop
 | .give n f=>ZdE n=true∧f<m
 | .move n tz f=>ZdE n=true∧ZdE tz=true∧n≠tz∧f<m
 | .take n=>ZdE n=true
structure OkL (m:Nat) (l:Dir):Prop where
 rise:Xa l
 apart:G9 l
 may:∀ p ∈ l,ZdE p.1=true∧p.2<m
structure OkD (d:Dk):Prop where
 dirs:∀ k,OkL d.files.length (Ym d k)
 chs:∀ c ∈ d.waits,ZtN d.files.length c
 keep:∀ x ∈ d.files,x.k<=x.b.length
theorem Zdc (d:Dk):Ym d d.waits.length=Qm d:=by rw[Ym,Qm,List.take_length]
theorem Zei (d:Dk):Ym d 0=d.kept:=by rw[Ym];rfl
theorem Zyq (d:Dk) {k:Nat} (h:d.waits.length<=k):Ym d k=Qm d:=by rw[Ym,Qm,List.take_of_length_le h]
theorem ZtT (d:Dk) {k:Nat} (h:k<d.waits.length):Ym d (k+1)=chD (Ym d k) d.waits[k]:=by
 rw[Ym,Ym,List.take_succ_eq_append_getElem h,foldl_append];rfl
theorem OkD.dir {d:Dk} (h:OkD d):OkL d.files.length (Qm d):=by rw[<-Zdc];exact h.dirs _
theorem OkD.kept {d:Dk} (h:OkD d):OkL d.files.length d.kept:=by rw[<-Zei];exact h.dirs _
theorem OkL.more {l:Dir} (h:OkL m l) (b:m<=m'):OkL m' l:=
 ⟨h.rise,h.apart,fun p a=>⟨(h.may p a).1,by have:=(h.may p a).2;omega⟩⟩
theorem ZtN.more {c:Ch} (h:ZtN m c) (a:m<=m'):ZtN m' c:=by
 cases c with
 | give n f=>exact⟨h.1,by have:=h.2;omega⟩
 | move n tz f=>exact⟨h.1,h.2.1,h.2.2.1,by have:=h.2.2.2;omega⟩
 | take n=>exact h
theorem Zyr (m:Nat):OkL m []:=⟨List.Pairwise.nil,List.Pairwise.nil,fun p a=>by cases a⟩
theorem ZtU (room:Int):OkD (ZgP room):=by
 refine⟨fun k=>?_,(fun c a=>by cases a),(fun x b=>by cases b)⟩
 rw[Ym];show OkL 0 ((([]:List Ch).take k).foldl chD []);rw[List.take_nil];exact Zyr _
theorem OkD.wait {d:Dk} (h:OkD d) {c:Ch} {fs:List Fl} {p:Int} (a:d.files.length<=fs.length) (g:∀ x ∈ fs,x.k<=x.b.length) (i:ZtN fs.length c) (e:OkL fs.length (chD (Qm d) c)):
 OkD { d with files:=fs,waits:=d.waits++[c],power:=p }:=by
 refine⟨fun k=>?_,fun c' hc'=>?_,g⟩
 ·show OkL fs.length (((d.waits++[c]).take k).foldl chD d.kept)
  by_cases f:k<=d.waits.length
  ·rw[List.take_append_of_le_length f]
   exact(h.dirs k).more a
  ·rw[List.take_of_length_le (by simp;omega),foldl_append]
   exact e
 ·rcases List.mem_append.1 hc' with hc' | hc'
  ·exact(h.chs c' hc').more a
  ·rw[List.mem_singleton.1 hc']
   exact i
theorem OkD.bytes {d:Dk} (h:OkD d) {fs:List Fl} {p:Int} (a:d.files.length=fs.length) (e:∀ x ∈ fs,x.k<=x.b.length):OkD { d with files:=fs,power:=p }:=by
 refine⟨fun k=>?_,fun c f=>?_,e⟩
 ·show OkL fs.length (Ym d k)
  rw[<-a];exact h.dirs k
 ·show ZtN fs.length c
  rw[<-a];exact h.chs c f
theorem OkD.power {d:Dk} (h:OkD d) (p:Int):OkD { d with power:=p }:=h.bytes (fs:=d.files) rfl h.keep
theorem ZgQ {d:Dk} {fs:List Fl} {l:Dir} {p:Int} (a:OkL fs.length l) (e:∀ x ∈ fs,x.k<=x.b.length):OkD { d with files:=fs,kept:=l,waits:=[],power:=p }:=by
 refine⟨fun k=>?_,(fun c f=>by cases f),e⟩
 show OkL fs.length ((([]:List Ch).take k).foldl chD l);rw[List.take_nil];exact a
theorem OkD.fresh {d:Dk} (h:OkD d) {n:Int} (c:ZdE n=true):OkD (Jd d n):=by
 have b:=h.dir;refine OkD.wait (p:=d.power) h (by simp) (fun x hx=>?_) ⟨c,by simp⟩ ⟨?_,?_,?_⟩
 ·rcases List.mem_append.1 hx with hx | hx
  ·exact h.keep x hx
  ·rw[List.mem_singleton.1 hx];exact Nat.le_refl _
 ·exact Zfo b.rise _
 ·rw[chD]
  exact Zkb b.apart n _ fun p a _=>by have:=(b.may p a).2;omega
 ·intro p a
  rw[chD,Zo] at a;simp only [length_append,List.length_singleton];rcases a with ⟨a,_⟩ | ⟨a,e⟩
  ·exact⟨(b.may p a).1,by have:=(b.may p a).2;omega⟩
  ·rw[a]
   have:=Option.some.inj e;exact⟨c,by omega⟩
theorem Zru {d:Dk} (h:OkD d) (n:Int):look (Qm (Jd d n)) n=some d.files.length:=by
 have e:Qm (Jd d n)=chD (Qm d) (.give n d.files.length):=by
  show(d.waits++[_]).foldl chD d.kept=_;rw[foldl_append];rfl
 rw[e,Zdb h.dir.rise _ (fun _ _ _ a=>by cases a)]
 show(if n=n then _ else _)=_
 rw[if_pos rfl]
theorem Zkd (d:Dk) (n:Int):Qm (Jd d n)=chD (Qm d) (.give n d.files.length):=by
 show(d.waits++[_]).foldl chD d.kept=_;rw[foldl_append];rfl
theorem ZbH {fs:List Fl} (h:f<fs.length):fl fs f ∈ fs:=by
 unfold fl;rw[List.getD,List.getElem?_eq_getElem h];exact getElem_mem h
theorem ZgR {fs:List Fl} (h:∀ x ∈ fs,x.k<=x.b.length) (f:Nat) {y:Fl} (c:y.k<=y.b.length):∀ x ∈ fs.set f y,x.k<=x.b.length:=by
 intro x a;rcases List.mem_or_eq_of_mem_set a with a | rfl
 ·exact h x a
 ·exact c
theorem Zhi {fs:List Fl} (h:∀ x ∈ fs,x.k<=x.b.length) (f:Nat):(fl fs f).k<=(fl fs f).b.length:=by
 by_cases a:f<fs.length
 ·exact h _ (ZbH a)
 ·unfold fl
  rw[List.getD,List.getElem?_eq_none (by omega)]
  exact Nat.le_refl _
theorem OkD.appendTo {d:Dk} (h:OkD d) (f:Nat) (b:List UInt8):OkD (appendTo d f b):=by
 refine h.bytes (by simp[Yr]) (ZgR h.keep f ?_)
 have:=Zhi h.keep f;simp only [length_append];omega
theorem OkD.append {d:Dk} (h:OkD d) (n:Int) (b:List UInt8):OkD (Qy d n b).1:=by
 unfold Qy;split
 ·exact h
 ·split
  ·exact h
  ·rename_i a
   split
   ·exact h
   ·split
    ·exact h.appendTo _ b
    ·exact(h.fresh (by simpa using a)).appendTo _ b
theorem OkD.sync {d:Dk} (h:OkD d) (n:Int):OkD (X3 d n).1:=by
 unfold X3;split
 ·exact h
 ·split
  ·exact h.bytes (by simp[Gd]) (ZgR h.keep _ zL)
  ·exact h
theorem OkL.mayOf {l:Dir} (h:OkL m l) {n:Int} {f:Nat} (e:look l n=some f):ZdE n=true∧f<m:=h.may (n,f) ((Zb h.rise n f).1 e)
theorem ZgS:∀ {l:Dir},G9 l->∀ {p q:Int × Nat},p ∈ l->q ∈ l->p≠q->p.2≠q.2
 | [],_,_,_,hp,_,_=>by cases hp
 | a::l,h,p,q,hp,hq,hne=>by
  unfold G9 at h;rw[pairwise_cons] at h;rcases List.mem_cons.1 hp with c | hp1
  ·rcases List.mem_cons.1 hq with b | hq1
   ·exact absurd (c.trans b.symm) hne
   ·rw[c];exact h.1 q hq1
  ·rcases List.mem_cons.1 hq with b | hq1
   ·rw[b];exact fun e=>h.1 p hp1 e.symm
   ·exact ZgS (l:=l) h.2 hp1 hq1 hne
theorem OkD.moved {d:Dk} (h:OkD d) {n m:Int} {f:Nat} (j:look (Qm d) n=some f) (i:ZdE m=true) (l:n≠m) (q:Int):OkD { d with waits:=d.waits++[.move n m f],power:=q }:=by
 have b:=h.dir;have c:=b.mayOf j;refine OkD.wait (fs:=d.files) h zL h.keep ⟨c.1,i,l,c.2⟩ ⟨Zfo b.rise _,?_,?_⟩
 ·rw[chD]
  refine Zkb (Zkc b.apart n) m f fun p a _=>?_
  rw[Zo] at a;rcases a with ⟨a,g⟩ | ⟨_,a⟩
  ·intro e
   have k:=(Zb b.rise n f).1 j;have:=ZgS b.apart a k (by intro e;rw[e] at g;exact g rfl)
   exact this e
  ·cases a
 ·intro p a
  rw[chD,Zo,Zo] at a;rcases a with ⟨⟨a,_⟩ | ⟨_,a⟩,_⟩ | ⟨a,e⟩
  ·exact b.may p a
  ·cases a
  ·rw[a]
   exact⟨i,by rw[<-Option.some.inj e];exact c.2⟩
theorem OkD.rename {d:Dk} (h:OkD d) (n m:Int):OkD (Ji d n m).1:=by
 unfold Ji;split
 ·exact h
 ·split
  ·rename_i f c
   split
   ·exact h
   ·rename_i a
    split
    ·exact h.power _
    ·rename_i b
     exact h.moved c (by simpa using a) b _
  ·exact h
theorem OkD.taken {d:Dk} (h:OkD d) {n:Int} {f:Nat} (e:look (Qm d) n=some f) (q:Int):OkD { d with waits:=d.waits++[.take n],power:=q }:=by
 have b:=h.dir;have c:=b.mayOf e;refine OkD.wait (fs:=d.files) h zL h.keep c.1 ⟨Zfo b.rise _,?_,?_⟩
 ·rw[chD];exact Zkc b.apart n
 ·intro p a
  rw[chD,Zo] at a;rcases a with ⟨a,_⟩ | ⟨_,a⟩
  ·exact b.may p a
  ·cases a
theorem OkD.remove {d:Dk} (h:OkD d) (n:Int):OkD (Qj d n).1:=by
 unfold Qj;split
 ·exact h
 ·split
  ·rename_i f a
   exact h.taken a _
  ·exact h
theorem OkD.syncDir {d:Dk} (h:OkD d):OkD (Qn d).1:=by
 unfold Qn;split
 ·exact h
 ·exact ZgQ (fs:=d.files) h.dir h.keep
theorem OkD.cut {d:Dk} (h:OkD d) (n:Int):OkD (Zqz d n):=h.power _
theorem ZtV {x:Fl} (h:x.k<=x.b.length) (a:Int):(Zlc x a).k<=(Zlc x a).b.length:=by
 have:=Zcy a (x.b.length-x.k);unfold Zlc;simp only [length_take];omega
theorem Zww {x:Fl} (h:x.k<=x.b.length) (a:Int):(Zlc x a).b.length=(Zlc x a).k:=by
 have:=Zcy a (x.b.length-x.k);unfold Zlc;simp only [length_take];omega
theorem Zhj (keep:List Int):∀ (l:Dir) (i:Nat) (fs:List Fl),(∀ x ∈ fs,x.k<=x.b.length)->∀ x ∈ Xb keep l i fs,x.k<=x.b.length
 | [],_,_,h=>h
 | p::l,i,fs,h=>by
  rw[Xb];exact Zhj keep l (i+1) _ (ZgR h _ (ZtV (Zhi h _) _))
theorem OkD.crash {d:Dk} (h:OkD d) (names:Int) (keep:List Int):OkD (G7 d names keep):=
 ZgQ (fs:=Xb keep (Ym d (Z4 names d.waits.length)) 0 d.files) (by rw[Gi];exact h.dirs _) (Zhj keep _ 0 _ h.keep)
def val:List UInt8->Nat
 | []=>0
 | c::r=>c.toNat % 128+128*val r
def dec:Nat->List UInt8->Option (Nat × Nat)
 | 0,_=>none
 | _+1,[]=>none
 | n+1,c::r=>if c.toNat<128 then some (c.toNat,1) else
  match dec n r with
  | some (v+1,k)=>some (c.toNat % 128+128*(v+1),k+1)
  | _=>none
def Qe (l:List UInt8):Nat × Nat:=
 match dec 10 l with
 | some (v,k)=>if v<18446744073709551616 then(v,k) else(0,0)
 | none=>(0,0)
def Qb (l:List UInt8):Nat × Nat:=if(Qe l).1<4611686018427387904 then Qe l else(0,0)
theorem Zye:∀ l:List UInt8,val l<128 ^ l.length
 | []=>by simp[val]
 | c::r=>by
  have h:=Zye r;simp only [val,length_cons,Nat.pow_succ];omega
theorem ZqA:∀ (l:List UInt8) (c:UInt8),val (l++[c])=val l+c.toNat % 128*128 ^ l.length
 | [],c=>by simp[val]
 | d::r,c=>by
  have h:=ZqA r c;simp only [cons_append,val,length_cons,Nat.pow_succ,h];rw[Nat.mul_add,<-Nat.mul_assoc,Nat.mul_comm 128 (c.toNat % 128),Nat.mul_assoc,Nat.mul_comm 128 (128 ^ r.length)];omega
theorem Zhk (l:List UInt8) (k:Nat) (h:k<l.length):l.take (k+1)=l.take k++[l.getD k 0]:=by
 rw[List.take_succ_eq_append_getElem h];simp[List.getD,h]
theorem Zej (l:List UInt8) (k:Nat) (h:k<l.length):val (l.take (k+1))=val (l.take k)+(l.getD k 0).toNat % 128*128 ^ k:=by
 rw[Zhk l k h,ZqA,length_take,Nat.min_eq_left (by omega)]
theorem ZtW:∀ (k n:Nat) (l:List UInt8),k<n->k<l.length->(∀ j,j<k->128<=(l.getD j 0).toNat)->(l.getD k 0).toNat<128->
 dec n l=if 0<k∧(l.getD k 0).toNat=0 then none else some (val (l.take (k+1)),k+1)
 | 0,n+1,c::r,_,_,_,h=>by
  have p:c.toNat<128:=by simpa using h
  simp only [dec,p,if_true];simp[val];omega
 | k+1,n+1,c::r,hn,hl,hj,h=>by
  have x:128<=c.toNat:=by simpa using hj 0 (by omega)
  have b:=ZtW k n r (by omega) (by simpa using hl) (fun j y=>by simpa using hj (j+1) (by omega)) (by simpa using h)
  have t:((c::r).getD (k+1) 0)=r.getD k 0:=by simp
  simp only [dec];rw[if_neg (show ¬ c.toNat<128 by omega),t]
  have g:k<r.length:=by simpa using hl
  have q:(r.getD k 0).toNat % 128=(r.getD k 0).toNat:=Nat.mod_eq_of_lt (by simpa using h)
  by_cases a:(r.getD k 0).toNat=0
  ·rw[if_pos ⟨Nat.succ_pos k,a⟩]
   have u:dec n r=none∨dec n r=some (0,1):=by
    by_cases f:0<k
    ·exact .inl (by rw[b,if_pos ⟨f,a⟩])
    ·obtain rfl:k=0:=by omega
     have d:val (r.take (0+1))=0:=by
      rw[Zej r 0 g,a];simp[val]
     exact .inr (by rw[b,if_neg (fun e=>f e.1),d])
   rcases u with e | e <;> rw[e]
  ·have d:0<val (r.take (k+1)):=by
    rw[Zej r k g,q];have v:0<128 ^ k:=Nat.pow_pos (by decide)
    have w:0<(r.getD k 0).toNat*128 ^ k:=Nat.mul_pos (by omega) v
    omega
   obtain⟨m,i⟩:∃ m,val (r.take (k+1))=m+1:=⟨val (r.take (k+1))-1,by omega⟩
   have e:dec n r=some (m+1,k+1):=by rw[b,if_neg (fun e=>a e.2),i]
   rw[e,if_neg (fun e=>a e.2)]
   simp only [List.take_succ_cons,val,i]
theorem Zld:∀ (n:Nat) (l:List UInt8),(∀ j,j<n->j<l.length->128<=(l.getD j 0).toNat)->dec n l=none
 | 0,_,_=>rfl
 | n+1,[],_=>rfl
 | n+1,c::r,h=>by
  have e:128<=c.toNat:=by simpa using h 0 (by omega) (by simp)
  have b:=Zld n r (fun j d a=>by simpa using h (j+1) (by omega) (by simpa using a))
  simp only [dec];rw[if_neg (by omega),b]
theorem Zhl:∀ (n u:Nat) (t:List UInt8),(Lib.uvarint u).length<=n->dec n (Lib.uvarint u++t)=some (u,(Lib.uvarint u).length)
 | 0,u,_,h=>by have:=Lib.uvarint_pos u;omega
 | n+1,u,t,h=>by
  by_cases b:u<128
  ·rw[Lib.uvarint_small b]
   have e:(u.toUInt8).toNat=u:=Lib.toUInt8_toNat (by omega)
   simp only [cons_append,dec,e,b,if_true];simp
  ·rw[Lib.uvarint_big (by omega)] at h ⊢
   have e:((u % 128+128).toUInt8).toNat=u % 128+128:=Lib.toUInt8_toNat (by omega)
   have a:=Zhl n (u / 128) t (by simpa using h)
   obtain⟨m,c⟩:∃ m,u / 128=m+1:=⟨u / 128-1,by omega⟩
   rw[c] at a ⊢;simp only [cons_append,dec,e];rw[if_neg (by omega),a]
   simp only [length_cons,Option.some.injEq,Prod.mk.injEq,and_true];omega
theorem Zmr:∀ (n:Nat) (l:List UInt8) (v k:Nat),dec n l=some (v,k)->k<=l.length∧1<=k∧l.take k=Lib.uvarint v
 | 0,_,_,_,h=>by simp[dec] at h
 | n+1,[],_,_,h=>by simp[dec] at h
 | n+1,c::r,v,k,h=>by
  simp only [dec] at h;by_cases a:c.toNat<128
  ·rw[if_pos a] at h
   simp only [Option.some.injEq,Prod.mk.injEq] at h;obtain⟨rfl,rfl⟩:=h;refine⟨by simp,by omega,?_⟩
   rw[Lib.uvarint_small a];simp
  ·rw[if_neg a] at h
   cases hd:dec n r with
   | none=>rw[hd] at h;simp at h
   | some p=>
    obtain⟨v',f⟩:=p;rw[hd] at h
    cases v' with
    | zero=>simp at h
    | succ m=>
     simp only [Option.some.injEq,Prod.mk.injEq] at h;obtain⟨rfl,rfl⟩:=h;have b:=Zmr n r (m+1) f hd;have g:=c.toNat_lt;refine⟨by simpa using b.1,by omega,?_⟩
     rw[Lib.uvarint_big (by omega),List.take_succ_cons,b.2.2]
     have e:(c.toNat % 128+128*(m+1)) % 128+128=c.toNat:=by omega
     have d:(c.toNat % 128+128*(m+1)) / 128=m+1:=by omega
     rw[e,d];simp
theorem Y8 (u:Nat) (t:List UInt8) (h:u<18446744073709551616):Qe (Lib.uvarint u++t)=(u,(Lib.uvarint u).length):=by
 unfold Qe;rw[Zhl 10 u t (Lib.uvarint_length64 h)];simp[h]
theorem Q4 (u:Nat) (t:List UInt8) (h:u<4611686018427387904):Qb (Lib.uvarint u++t)=(u,(Lib.uvarint u).length):=by
 unfold Qb;rw[Y8 u t (by omega)]
 simp[h]
theorem Jg (l:List UInt8):Qe l=(0,0)∨((Qe l).1<18446744073709551616∧1<=(Qe l).2∧(Qe l).2<=l.length∧l.take (Qe l).2=Lib.uvarint (Qe l).1):=by
 unfold Qe
 cases h:dec 10 l with
 | none=>exact .inl rfl
 | some p=>
  obtain⟨v,k⟩:=p;have a:=Zmr 10 l v k h;by_cases b:v<18446744073709551616
  ·simp only [b,if_true]
   exact .inr ⟨trivial,a.2.1,a.1,a.2.2⟩
  ·simp only [b,if_false]
   exact .inl trivial
theorem Zle (l:List UInt8):(Qe l).1<18446744073709551616:=by
 rcases Jg l with h | h
 ·rw[h];decide
 ·exact h.1
theorem G0 (l:List UInt8):(Qe l).2<=l.length:=by
 rcases Jg l with h | h
 ·rw[h];exact Nat.zero_le _
 ·exact h.2.2.1
theorem Xf (l:List UInt8):Qb l=(0,0)∨((Qb l).1<4611686018427387904∧1<=(Qb l).2∧(Qb l).2<=l.length∧l.take (Qb l).2=Lib.uvarint (Qb l).1):=by
 unfold Qb;by_cases h:(Qe l).1<4611686018427387904
 ·rw[if_pos h]
  rcases Jg l with e | e
  ·exact .inl e
  ·exact .inr ⟨h,e.2⟩
 ·rw[if_neg h]
  exact .inl rfl
theorem pow7 (k:Nat):2 ^ (7*k)=128 ^ k:=by rw[Nat.pow_mul]
theorem Zgc:∀ (n u j:Nat),(Lib.uvarint u).length<=n->j+1<(Lib.uvarint u).length->128<=((Lib.uvarint u).getD j 0).toNat
 | 0,u,_,h,_=>by have:=Lib.uvarint_pos u;omega
 | n+1,u,j,h,hj=>by
  by_cases a:u<128
  ·rw[Lib.uvarint_small a] at hj
   simp at hj
  ·rw[Lib.uvarint_big (by omega)] at h hj ⊢
   cases j with
   | zero=>
    have e:((u % 128+128).toUInt8).toNat=u % 128+128:=Lib.toUInt8_toNat (by omega)
    simp only [List.getD_cons_zero,e];omega
   | succ j=>
    simp only [length_cons] at h hj;simp only [List.getD_cons_succ];exact Zgc n (u / 128) j (by omega) (by omega)
def Rd (w:World) (v:Value) (l:List UInt8):Prop:=
 ∃ ao cap,v=.slice ao l.length cap∧l.length<=cap∧cap<=maxLen∧(ao=none->cap=0)∧
  (l=[]∨∃ b off,ao=some ⟨b,off,none⟩∧∀ j,j<l.length->w.cell? ⟨b,off+j,none⟩=some (.int .u8 (l.getD j 0).toNat))
def Own (w:World) (B:Nat) (v:Value) (l:List UInt8):Prop:=w.ownsRow B 5 1 v l.length (Lib.byteCells l)
theorem Y0 (l:List UInt8):(Lib.byteCells l).length=l.length:=by simp[Lib.byteCells]
theorem ZbU (l:List UInt8) (j:Nat) (h:j<l.length):(Lib.byteCells l)[j]?=some (.int .u8 (l.getD j 0).toNat):=by
 simp[Lib.byteCells,List.getD,h]
theorem ZaJ (l:List UInt8):∀ u ∈ Lib.byteCells l,u.oneCell'=true:=by
 intro u a;obtain⟨_,_,rfl⟩:=List.mem_map.1 a;rfl
theorem Rd.nil (w:World):Rd w (.slice none 0 0) []:=⟨none,0,rfl,Nat.le_refl _,Nat.zero_le _,fun _=>rfl,.inl rfl⟩
theorem Rd.below {l:List UInt8} (h:Rd w v l) {B:Nat} (i:Below B w w') (n:w.heap.size<=B):Rd w' v l:=by
 obtain⟨ao,cap,q,f,g,u,a⟩:=h;refine⟨ao,cap,q,f,g,u,?_⟩;rcases a with a | ⟨b,c,t,k⟩
 ·exact .inl a
 ·refine .inr ⟨b,c,t,fun j e=>?_⟩
  have d:=k j e;have m:b<w.heap.size:=World.block_lt_of_cell? w ⟨b,c+j,none⟩ d;rw[i.cell (p:=⟨b,c+j,none⟩) (by exact Nat.lt_of_lt_of_le m n)]
  exact d
theorem Rd.at {w:World} {b c n cap:Nat} {l:List UInt8} (h:Rd w (.slice (some ⟨b,c,none⟩) n cap) l) (j:Nat) (d:j<l.length):w.cell? ⟨b,c+j,none⟩=some (.int .u8 (l.getD j 0).toNat):=by
 obtain⟨ao,i,e,_,_,_,a⟩:=h;simp only [Value.slice.injEq] at e;obtain⟨rfl,_,rfl⟩:=e;rcases a with a | ⟨b',k,f,g⟩
 ·subst a
  simp at d
 ·simp only [Option.some.injEq,Addr.mk.injEq,and_true] at f
  obtain⟨rfl,rfl⟩:=f;exact g j d
theorem Rd.ofRow {a:List Int} (C:c<=cap) (u:cap<=maxLen) (D:a.length=cap) (g:∀ i,i<a.length->w.cell? (x.add i)=some (.int .u8 (a.getD i 0))) (t:∀ n ∈ a,(Lit.int .u8 n).wf=true):
 Rd w (.slice (some x) c cap) ((a.take c).map fun n=>UInt8.ofNat n.toNat):=by
 have z:((a.take c).map fun n=>UInt8.ofNat n.toNat).length=c:=by simp;omega
 refine⟨some x,cap,by rw[z],by omega,u,(fun e=>by cases e),?_⟩
 by_cases m:c=0
 ·exact .inl (by rw[m];rfl)
 ·obtain⟨b,k,spot⟩:=x
  have q:=g 0 (by omega)
  have v:spot=none:=by simpa[Addr.add] using World.cell?_spot q
  subst v;refine .inr ⟨b,k,rfl,fun j A=>?_⟩
  have d:j<a.length:=by omega
  have f:=g j d;rw[Addr.add_lit] at f;rw[f];have p:a[j] ∈ a:=getElem_mem d;have y:=t _ p;have B:0<=a[j]∧a[j]<=255:=by simpa[Lit.wf,IntKind.min,IntKind.max,IntKind.signed,IntKind.bits] using y
  have e:(((a.take c).map fun n=>UInt8.ofNat n.toNat).getD j 0)=UInt8.ofNat (a[j]).toNat:=by
   simp[List.getD,d,show j<c by omega]
  rw[e];have l:a.getD j 0=a[j]:=by simp[List.getD,d]
  rw[l,UInt8.toNat_ofNat']
  congr 2
  omega
theorem Own.rd {l:List UInt8} (h:Own w B v l):Rd w v l:=by
 rcases h.2 with ⟨a,b⟩ | ⟨g,cap,cur,a,k,n,d,f,i,m⟩
 ·exact⟨none,0,by rw[a,b],by omega,Nat.zero_le _,fun _=>rfl,.inl (List.eq_nil_of_length_eq_zero b)⟩
 ·refine⟨some ⟨g,0,none⟩,cap,a,d,f,(fun e=>by cases e),.inr ⟨g,0,rfl,fun j c=>?_⟩⟩
  have:=World.ownsRow.cells h (g:=g) (by rw[a];rfl) j _ (ZbU l j c)
  rw[Addr.add_lit] at this;exact this
theorem Own.mono {l:List UInt8} (h:Own w B v l) (e:B'<=B):Own w B' v l:=by
 obtain⟨c,a⟩:=h;refine⟨c,?_⟩;rcases a with a | ⟨g,cap,cur,b,d,r⟩
 ·exact .inl a
 ·exact .inr ⟨g,cap,cur,b,by omega,r⟩
theorem Own.below {l:List UInt8} (h:Own w B v l) (d:Below B' w w') (j:w.heap.size<=B'):Own w' B v l:=by
 obtain⟨f,a⟩:=h;refine⟨f,?_⟩;rcases a with a | ⟨g,cap,cur,e,c,b,r⟩
 ·exact .inl a
 ·have i:g<w.heap.size:=(Array.getElem?_eq_some_iff.1 b).1
  exact .inr ⟨g,cap,cur,e,c,by rw[d.block g (by omega)];exact b,r⟩
theorem Rd.cells {ao:Option Addr} {l:List UInt8} (h:l=[]∨∃ b a,ao=some ⟨b,a,none⟩∧∀ j,j<l.length->w.cell? ⟨b,a+j,none⟩=some (.int .u8 (l.getD j 0).toNat)):
 ∀ c,ao=some c->∀ j u,(Lib.byteCells l)[j]?=some u->w.cell? (c.add j)=some u:=by
 intro c f j u e
 have d:j<l.length:=by
  have:=(List.getElem?_eq_some_iff.1 e).1;simpa[Lib.byteCells] using this
 rcases h with rfl | ⟨b,a,g,i⟩
 ·simp at d
 ·rw[g] at f
  obtain rfl:=Option.some.inj f;rw[Addr.add_lit,i j d,<-ZbU l j d,e]
theorem Own.mk' {xs:List Value} {l:List UInt8} (h:w.ownsRow B 5 1 v n xs) (a:n=l.length) (b:xs=Lib.byteCells l):Own w B v l:=by
 subst a b;exact h
theorem Zlf:(prog.info? 5).map (fun i=>(i.zero,i.size,i.bytes))=some (some (.int .u8 0),1,1):=by kernel_rfl
theorem ZbV {k:IntKind} {a b:Int} (h:a=b):Ending.returned (.int k a)=.returned (.int k b):=by rw[h]
theorem ZtX (n:Int) (d:-9223372036854775808<=n) (c:n<=9223372036854775807):
 bits .xor .u64 (IntKind.u64.wrap (IntKind.u64.wrap n*2)) (IntKind.u64.wrap (n / 9223372036854775808))=((Lib.zigzag n:Nat):Int):=by
 by_cases h:0<=n
 ·have b:IntKind.u64.wrap (IntKind.u64.wrap n*2)=(((2*n).toNat:Nat):Int):=by
   rw[IntKind.wrap_u64,IntKind.wrap_u64];omega
  have a:IntKind.u64.wrap (n / 9223372036854775808)=((0:Nat):Int):=by
   rw[IntKind.wrap_u64];omega
  rw[b,a,bits_xor_u64_nat _ _ (by omega) (by decide)]
  unfold Lib.zigzag;rw[if_pos h];simp
 ·have b:IntKind.u64.wrap (IntKind.u64.wrap n*2)=(((2*n+18446744073709551616).toNat:Nat):Int):=by
   rw[IntKind.wrap_u64,IntKind.wrap_u64];omega
  have a:IntKind.u64.wrap (n / 9223372036854775808)=((2 ^ 64-1:Nat):Int):=by
   rw[IntKind.wrap_u64];omega
  rw[b,a,bits_xor_u64_nat _ _ (by omega) (by decide),Nat.xor_comm,Lib.xor_ones64 _ (by omega)]
  unfold Lib.zigzag;rw[if_neg h];omega
def zag (u:Nat):Int:=if u % 2=0 then((u / 2:Nat):Int) else -((u / 2:Nat):Int)-1
theorem Zms (x:Nat) (c:x<9223372036854775808):bits .xor .i64 (x:Int) (-1)=-(x:Int)-1:=by
 show IntKind.i64.wrap ((BitVec.ofInt 64 (x:Int) ^^^ BitVec.ofInt 64 (-1)).toNat:Int)=_;have a:(BitVec.ofInt 64 (-1)).toNat=2 ^ 64-1:=by decide
 have b:(BitVec.ofInt 64 (x:Int)).toNat=x:=by
  rw[BitVec.ofInt_natCast,BitVec.toNat_ofNat];exact Nat.mod_eq_of_lt (by omega)
 rw[BitVec.toNat_xor,a,b,Nat.xor_comm,Lib.xor_ones64 x (by omega),IntKind.wrap_i64]
 omega
theorem Zmt (x:Nat) (c:x<9223372036854775808):bits .xor .i64 (x:Int) 0=(x:Int):=by
 show IntKind.i64.wrap ((BitVec.ofInt 64 (x:Int) ^^^ BitVec.ofInt 64 0).toNat:Int)=_;have a:(BitVec.ofInt 64 0).toNat=0:=by decide
 have b:(BitVec.ofInt 64 (x:Int)).toNat=x:=by
  rw[BitVec.ofInt_natCast,BitVec.toNat_ofNat];exact Nat.mod_eq_of_lt (by omega)
 rw[BitVec.toNat_xor,a,b,Nat.xor_zero,IntKind.wrap_i64];omega
theorem ZtY (u:Nat) (h:u<18446744073709551616):
 bits .xor .i64 ((u:Int) / 2) (wrap64 (-wrap64 (bits .and .u64 (u:Int) 1)))=zag u:=by
 rw[Lib.u64_and1 _ (by omega) (by omega)]
 have e:(u:Int) / 2=((u / 2:Nat):Int):=by omega
 rw[e];unfold zag;by_cases b:u % 2=0
 ·have a:wrap64 (-wrap64 ((u:Int) % 2))=0:=by
   have:(u:Int) % 2=0:=by omega
   rw[this];unfold wrap64;omega
  rw[a,if_pos b,Zmt _ (by omega)]
 ·have a:wrap64 (-wrap64 ((u:Int) % 2))=-1:=by
   have:(u:Int) % 2=1:=by omega
   rw[this];unfold wrap64;omega
  rw[a,if_neg b,Zms _ (by omega)]
theorem Gw (n:Int) (a:-9223372036854775808<=n) (b:n<=9223372036854775807):zag (Lib.zigzag n)=n:=by
 unfold zag Lib.zigzag;split <;> split <;> omega
theorem ZbI (u:Nat):Lib.zigzag (zag u)=u:=by
 unfold zag Lib.zigzag;split <;> split <;> omega
theorem ZtZ (u:Nat) (h:u<18446744073709551616):-9223372036854775808<=zag u∧zag u<=9223372036854775807:=by
 unfold zag;split <;> omega
theorem Zys (n:Int) (w:World) (b:-9223372036854775808<=n) (a:n<=9223372036854775807):
 Calls prog 191 #[.int .i64 n] w fun e w'=>e=.returned (.int .u64 (Lib.zigzag n:Nat))∧w'=w:=by
 have H:Hid (bits .xor .u64 (IntKind.u64.wrap (IntKind.u64.wrap n*2)) (IntKind.u64.wrap (n / 9223372036854775808))=((Lib.zigzag n:Nat):Int)):=ZtX n b a
 go_enter func191,ntmps191
 go_wp2;go_ret;exact⟨ZbV H.out,rfl⟩
theorem Zyt (u:Nat) (w:World) (h:u<18446744073709551616):
 Calls prog 220 #[.int .u64 (u:Int)] w fun e w'=>e=.returned (.int .i64 (zag u))∧w'=w:=by
 have H:Hid (bits .xor .i64 ((u:Int) / 2) (wrap64 (-wrap64 (bits .and .u64 (u:Int) 1)))=zag u):=ZtY u h
 go_enter func220,ntmps220
 go_wp2;go_ret;exact⟨ZbV H.out,rfl⟩
theorem Qc (h:p):Hid p:=h
def I64 (n:Int):Prop:=-9223372036854775808<=n∧n<=9223372036854775807
def RdI (w:World) (v:Value) (l:List Int):Prop:=
 ∃ ao cap,v=.slice ao l.length cap∧l.length<=cap∧cap<=maxLen∧(ao=none->cap=0)∧(∀ n ∈ l,I64 n)∧
  (l=[]∨∃ b off,ao=some ⟨b,off,none⟩∧∀ j,j<l.length->w.cell? ⟨b,off+j,none⟩=some (.int .i64 (l.getD j 0)))
def Qr (l:List Int):List Value:=l.map (Value.int .i64)
def Qs (w:World) (B:Nat) (v:Value) (l:List Int):Prop:=w.ownsRow B 3 1 v l.length (Qr l)
theorem Zk (l:List Int):(Qr l).length=l.length:=by simp[Qr]
theorem Zu (l:List Int) (j:Nat) (h:j<l.length):(Qr l)[j]?=some (.int .i64 (l.getD j 0)):=by
 simp[Qr,List.getD,h]
theorem Zmu (l:List Int):∀ u ∈ Qr l,u.oneCell'=true:=by
 intro u a;obtain⟨_,_,rfl⟩:=List.mem_map.1 a;rfl
theorem RdI.nil (w:World):RdI w (.slice none 0 0) []:=⟨none,0,rfl,Nat.le_refl _,Nat.zero_le _,fun _=>rfl,(fun n h=>by simp at h),.inl rfl⟩
theorem Qs.nil (w:World) (B:Nat):Qs w B (.slice none 0 0) []:=World.ownsRow_nil w B 3 1
theorem RdI.i64 (h:RdI w v l):∀ n ∈ l,I64 n:=by
 obtain⟨_,_,_,_,_,_,h,_⟩:=h;exact h
theorem Zwx (h:∀ n ∈ l,I64 n) (j:Nat):I64 (l.getD j 0):=by
 by_cases a:j<l.length
 ·have e:l.getD j 0=l[j]:=by simp[List.getD,a]
  rw[e];exact h _ (getElem_mem a)
 ·have e:l.getD j 0=0:=by simp[List.getD,a]
  rw[e];exact⟨by decide,by decide⟩
theorem RdI.below (h:RdI w v l) {B:Nat} (i:Below B w w') (n:w.heap.size<=B):RdI w' v l:=by
 obtain⟨ao,cap,t,f,g,x,q,a⟩:=h;refine⟨ao,cap,t,f,g,x,q,?_⟩;rcases a with a | ⟨b,c,u,k⟩
 ·exact .inl a
 ·refine .inr ⟨b,c,u,fun j e=>?_⟩
  have d:=k j e;have m:b<w.heap.size:=World.block_lt_of_cell? w ⟨b,c+j,none⟩ d;rw[i.cell (p:=⟨b,c+j,none⟩) (by exact Nat.lt_of_lt_of_le m n)]
  exact d
theorem RdI.ofRow {a:Nat} {c:List Int} (z:a<=cap) (p:cap<=maxLen) (A:c.length=cap) (f:∀ i,i<c.length->w.cell? (x.add i)=some (.int .i64 (c.getD i 0))) (m:∀ n ∈ c,(Lit.int .i64 n).wf=true):
 RdI w (.slice (some x) a cap) (c.take a):=by
 have u:(c.take a).length=a:=by simp;omega
 refine⟨some x,cap,by rw[u],by omega,p,(fun e=>by cases e),fun n v=>?_,?_⟩
 ·have:=m n (List.mem_of_mem_take v)
  simpa[I64,Lit.wf,IntKind.min,IntKind.max,IntKind.signed,IntKind.bits] using this
 ·by_cases k:a=0
  ·exact .inl (by rw[k];rfl)
  ·obtain⟨b,g,spot⟩:=x
   have l:=f 0 (by omega)
   have t:spot=none:=by simpa[Addr.add] using World.cell?_spot l
   subst t;refine .inr ⟨b,g,rfl,fun j y=>?_⟩
   have d:=f j (by omega)
   rw[Addr.add_lit] at d;rw[d];have q:j<a:=by omega
   simp[List.getD,q]
theorem Qs.rd (h:Qs w B v l) (b:∀ n ∈ l,I64 n):RdI w v l:=by
 rcases h.2 with ⟨a,c⟩ | ⟨g,cap,cur,a,m,q,f,i,k,p⟩
 ·exact⟨none,0,by rw[a,c],by omega,Nat.zero_le _,fun _=>rfl,b,.inl (List.eq_nil_of_length_eq_zero c)⟩
 ·refine⟨some ⟨g,0,none⟩,cap,a,f,i,(fun e=>by cases e),b,.inr ⟨g,0,rfl,fun j d=>?_⟩⟩
  have:=World.ownsRow.cells h (g:=g) (by rw[a];rfl) j _ (Zu l j d)
  rw[Addr.add_lit] at this;exact this
theorem Qs.mono (h:Qs w B v l) (e:B'<=B):Qs w B' v l:=by
 obtain⟨c,a⟩:=h;refine⟨c,?_⟩;rcases a with a | ⟨g,cap,cur,b,d,r⟩
 ·exact .inl a
 ·exact .inr ⟨g,cap,cur,b,by omega,r⟩
theorem Qs.below (h:Qs w B v l) (d:Below B' w w') (j:w.heap.size<=B'):Qs w' B v l:=by
 obtain⟨f,a⟩:=h;refine⟨f,?_⟩;rcases a with a | ⟨g,cap,cur,e,c,b,r⟩
 ·exact .inl a
 ·have i:g<w.heap.size:=(Array.getElem?_eq_some_iff.1 b).1
  exact .inr ⟨g,cap,cur,e,c,by rw[d.block g (by omega)];exact b,r⟩
theorem Zlg:(prog.info? 3).map (fun i=>(i.zero,i.size,i.bytes))=some (some (.int .i64 0),1,8):=by kernel_rfl
theorem ZjD (w:World) (ty:TypeId) (B:Nat) (v:Value) (l:List Int) (h:Qs w B v l) (n:Int) (z:l.length<=1000000) (f:B<=w.heap.size):
 ∃ v' w',(Builtin.append_ #[23,23] ty #[v,.slice (some ⟨w.heap.size,0,none⟩) 1 1]).run prog (w.alloc (.cells #[.int .i64 n] 3))=.ok v' w'∧Qs w' B v' (l++[n])∧Below B w w':=by
 obtain⟨x,e,y,d,m⟩:=info_parts Zlg
 obtain⟨v',w',i,g,p,_⟩:=run_append_own (P:=prog) (w.alloc (.cells #[.int .i64 n] 3)) B 23 ty 3 x (.int .i64 0) 1 8 underlying23 e y d m rfl (by decide) v l.length (Qr l) (World.ownsRow.alloc h _)
  ⟨w.heap.size,0,none⟩ 1 1 [.int .i64 n] rfl (fun j u a=>by
   match j,a with
   | 0,a=>simp at a;subst a;simp[Addr.add]) (fun u b=>by simp at b;subst b;rfl) (by unfold maxLen;omega) (by omega) (by simp;omega)
 refine⟨v',w',i,?_,?_⟩
 ·unfold Qs
  have t:(l++[n]).length=l.length+1:=by simp
  have c:Qr (l++[n])=Qr l++[.int .i64 n]:=by simp[Qr]
  rw[t,c];exact g
 ·exact((Below.refl _ _).alloc f _).grown p (by simp;omega) (fun k q=>(World.ownsRow.lt h k q).1)
theorem Zfp (w:World) {b:Array Oper} {rest:List Oper} {o:Oper} {a:Act} {Q:Exit->Act->World->Prop} (k:o.guard=none) (s x:Operand)
 (i:o.op=.call { callee:=.builtin .append,args:=#[s,x],argTypes:=#[23,23] })
 (B:Nat) (v:Value) (l:List Int) (m:a.eval s=v) (j:Qs w B v l) (n:Int) (p:a.eval x=.slice (some ⟨w.heap.size,0,none⟩) 1 1)
 (g:l.length<=1000000) (f:B<=w.heap.size)
 (h:∀ v' w',Qs w' B v' (l++[n])->Below B w w'->wpList prog b Q rest (a.put o.dst v') w'):wpList prog b Q (o::rest) a (w.alloc (.cells #[.int .i64 n] 3)):=
 wpList_plain k fun _ c=>by
  obtain⟨v',w',q,d,e⟩:=ZjD w o.type B v l j n g f;unfold Oper.wp execOp;simp only [i,resolve,invoke,builtin,Sem.run_bind,Sem.run_pure,Result.andThen_ok,List.map_toArray,map_cons,map_nil,m,p,q];exact c _ _ (h v' w' d e)
def Jp (n:Int):Int:=if n < -1099511627776 then -1099511627776 else if 1099511627776<n then 1099511627776 else n
theorem ZbW (n:Int):-1099511627776<=Jp n∧Jp n<=1099511627776:=by
 unfold Jp;split
 ·omega
 ·split <;> omega
structure St where
 kind:Int
 L:List Int
 shut:Bool
 eng:Int
structure Opn where
 code:Int
 a:Int
 b:Int
def Zhm (least:Int) (l:List Int) (k:Nat):Prop:=
 0<=l.getD k 0∧l.getD k 0<=255∧(0<k->l.getD (k-2) 0<l.getD k 0)∧least<=l.getD (k+1) 0∧l.getD (k+1) 0<=1099511627776
instance (least:Int) (l:List Int) (k:Nat):Decidable (Zhm least l k):=by unfold Zhm;infer_instance
def Zap (least:Int) (l:List Int):Prop:=l.length % 2=0∧l.length<=128∧∀ k,k<l.length->k % 2=0->Zhm least l k
instance (least:Int) (l:List Int):Decidable (Zap least l):=by unfold Zap;infer_instance
def G6 (l:List Int):Prop:=∀ j,j<l.length->-1099511627776<=l.getD j 0∧l.getD j 0<=1099511627776
instance (l:List Int):Decidable (G6 l):=by unfold G6;infer_instance
def Zd (kind:Int) (l:List Int):Prop:=
 if kind=4 then Zap (-1099511627776) l else if kind=5 then Zap 0 l else l.length<=64∧(kind<=1->l.length=1)∧G6 l
instance (kind:Int) (l:List Int):Decidable (Zd kind l):=by unfold Zd;infer_instance
def Yl (s:St):Prop:=0<=s.eng∧s.eng<=2∧(s.shut=false->s.eng=0)∧0<=s.kind∧s.kind<6∧Zd s.kind s.L
instance (s:St):Decidable (Yl s):=by unfold Yl;infer_instance
def Ge (o:Opn):Prop:=0<=o.code∧o.code<=10∧-1099511627776<=o.a∧o.a<=1099511627776∧-1099511627776<=o.b∧o.b<=1099511627776
instance (o:Opn):Decidable (Ge o):=by unfold Ge;infer_instance
def J9 (kind:Int):St:=if kind<0∨6<=kind then⟨0,[],false,0⟩ else⟨kind,if kind<=1 then[0] else[],false,0⟩
def J1 (key:Int):Nat->List Int->Int
 | k,a::_::r=>if a=key then(k:Int) else J1 key (k+2) r
 | _,_=>-1
def Xg (key n:Int):Bool->List Int->List Int
 | done,a::b::r=>(if done=false∧key<=a then[key,n] else[])++((if a≠key then[a,b] else[])++Xg key n (done || decide (key<=a)) r)
 | done,_=>if done then[] else[key,n]
def Yp (key:Int):List Int->List Int
 | a::b::r=>(if a≠key then[a,b] else[])++Yp key r
 | _=>[]
theorem Zua (l:List Int) (k:Nat) (h:k+1<l.length):l.drop k=l.getD k 0::l.getD (k+1) 0::l.drop (k+2):=by
 rw[List.drop_eq_getElem_cons (show k<l.length by omega),List.drop_eq_getElem_cons h]
 simp[List.getD,h,show k<l.length by omega]
theorem Zgd (key n:Int):∀ (l:List Int) (done:Bool),(Xg key n done l).length<=l.length+2
 | [],done=>by unfold Xg;split <;> simp
 | [a],done=>by unfold Xg;split <;> simp
 | a::b::r,done=>by
  have d:=Zgd key n r (done || decide (key<=a));unfold Xg
  have f:(if done=false∧key<=a then[key,n] else([]:List Int)).length+(Xg key n (done || decide (key<=a)) r).length<=r.length+2:=by
   by_cases h:done=false∧key<=a
   ·rw[if_pos h]
    have e:(done || decide (key<=a))=true:=by simp[h.2]
    rw[e];have c:=withF_true key n r;simp;omega
   ·rw[if_neg h]
    simpa using d
  have c:(if a≠key then[a,b] else([]:List Int)).length<=2:=by split <;> simp
  simp only [length_append,length_cons];omega
where
 withF_true (key n:Int):∀ (l:List Int),(Xg key n true l).length<=l.length
 | []=>by simp[Xg]
 | [a]=>by simp[Xg]
 | a::b::r=>by
  have ih:=withF_true key n r;unfold Xg;simp only [Bool.true_or];split <;> split <;> simp_all <;> omega
def Zef (s:St) (o:Opn):St × Int:=
 if s.kind=0∧o.code=1 then(⟨s.kind,[Jp (s.L.getD 0 0+Jp o.a)],s.shut,s.eng⟩,s.L.getD 0 0) else
 if s.kind=1∧o.code=2 then(⟨s.kind,[Jp o.a],s.shut,s.eng⟩,s.L.getD 0 0) else
 if o.code=7 then(s,s.L.getD 0 0) else(s,0)
def Zq (s:St) (o:Opn):St × Int:=
 if o.code=3 then(if s.L.length=64 then(s,-1) else(⟨s.kind,s.L++[Jp o.a],s.shut,s.eng⟩,(s.L.length:Int)+1)) else
 if o.code=4 then(if s.L.length=0 then(s,-1) else if s.kind=2 then(⟨s.kind,s.L.drop 1,s.shut,s.eng⟩,s.L.getD 0 0) else(⟨s.kind,s.L.take (s.L.length-1),s.shut,s.eng⟩,s.L.getD (s.L.length-1) 0)) else
 if o.code=7 then(s,(s.L.length:Int)) else(s,0)
def Zrv (key:Int) (l:List Int):Int:=if 0<=J1 key 0 l then l.getD ((J1 key 0 l).toNat+1) 0 else -1
def Zcs (s:St) (o:Opn):St × Int:=
 if o.code≠7∧o.code≠6∧o.code≠5 then(s,0) else
 if o.a<0∨255<o.a then(s,-1) else
 if o.code=6 then(⟨s.kind,Yp o.a s.L,s.shut,s.eng⟩,Zrv o.a s.L) else
 if o.code=5 then(if J1 o.a 0 s.L<0∧s.L.length=128 then(s,-2) else(⟨s.kind,Xg o.a (Jp o.b) false s.L,s.shut,s.eng⟩,Zrv o.a s.L)) else
 (s,Zrv o.a s.L)
def Yz (key:Int) (l:List Int):Int:=if 0<=J1 key 0 l then l.getD ((J1 key 0 l).toNat+1) 0 else 0
def Zbl (s:St) (o:Opn):St × Int:=
 if o.a<0∨65535<o.a∨o.b<0 then(s,0) else
 if J1 (o.a / 256) 0 s.L<0∨Yz (o.a / 256) s.L<o.b then(s,0) else
 if o.a / 256=o.a % 256 then(s,1) else
 if(J1 (o.a % 256) 0 s.L<0∧s.L.length=128)∨1099511627776<Yz (o.a % 256) s.L+o.b then(s,0) else
 (⟨s.kind,Xg (o.a % 256) (Yz (o.a % 256) s.L+o.b) false (Xg (o.a / 256) (Yz (o.a / 256) s.L-o.b) false s.L),s.shut,s.eng⟩,1)
def Yd (s:St) (o:Opn):St × Int:=
 if o.code=9 then Zbl s o else
 if o.code≠7∧o.code≠8 then(s,0) else
 if o.a<0∨255<o.a then(s,-1) else
 if o.code=7 then(s,Zrv o.a s.L) else
 if o.b<0 then(s,-1) else
 if J1 o.a 0 s.L<0∧s.L.length=128 then(s,-2) else
 (⟨s.kind,Xg o.a (Jp (Yz o.a s.L+Jp o.b)) false s.L,s.shut,s.eng⟩,Jp (Yz o.a s.L+Jp o.b))
def Zcz (s:St) (o:Opn):St × Int:=
 if ¬ Yl s then(s,0) else
 if s.shut=true then(s,-1125899906842624) else
 if o.code=10 then(⟨s.kind,s.L,true,if 0<=o.a∧o.a<=2 then o.a else s.eng⟩,0) else
 if s.kind<=1 then Zef s o else if s.kind<=3 then Zq s o else if s.kind=4 then Zcs s o else Yd s o
def Qu (least:Int):Int->List Int->Prop
 | lo,a::b::r=>lo<a∧a<=255∧least<=b∧b<=1099511627776∧Qu least a r
 | _,[]=>True
 | _,[_]=>False
def Zek (least lo:Int) (l:List Int) (k:Nat):Prop:=
 (if k=0 then lo else l.getD (k-2) 0)<l.getD k 0∧l.getD k 0<=255∧least<=l.getD (k+1) 0∧l.getD (k+1) 0<=1099511627776
theorem Zel (least lo a b:Int) (r:List Int) (k:Nat) (d:k % 2=0):Zek least lo (a::b::r) (k+2)↔Zek least a r k:=by
 unfold Zek;rw[if_neg (by omega)]
 by_cases c:k=0
 ·subst c
  rw[if_pos rfl];exact Iff.rfl
 ·rw[if_neg c]
  obtain⟨j,rfl⟩:∃ j,k=j+2:=⟨k-2,by omega⟩
  exact Iff.rfl
theorem Zdd (least:Int):∀ (l:List Int) (lo:Int),Qu least lo l↔l.length % 2=0∧∀ k,k<l.length->k % 2=0->Zek least lo l k
 | [],lo=>by simp[Qu]
 | [a],lo=>by simp[Qu]
 | a::b::r,lo=>by
  have f:=Zdd least r a;unfold Qu;rw[f];constructor
  ·rintro⟨h1,h2,h3,h4,h5,h6⟩
   refine⟨by simp;omega,fun k d e=>?_⟩
   by_cases c:k=0
   ·subst c
    exact⟨by rw[if_pos rfl];exact h1,h2,h3,h4⟩
   ·obtain⟨j,rfl⟩:∃ j,k=j+2:=⟨k-2,by omega⟩
    rw[Zel least lo a b r j (by omega)]
    exact h6 j (by simp at d;omega) (by omega)
  ·rintro⟨h1,h2⟩
   have c:=h2 0 (by simp) rfl
   unfold Zek at c;rw[if_pos rfl] at c;refine⟨c.1,c.2.1,c.2.2.1,c.2.2.2,by simp at h1;omega,fun k d e=>?_⟩
   rw[<-Zel least lo a b r k e];exact h2 (k+2) (by simp;omega) (by omega)
theorem Zhn (least:Int):∀ (l:List Int) (lo:Int) (k:Nat),Qu least lo l->k<l.length->k % 2=0->lo<l.getD k 0
 | [],_,_,_,hk,_=>by simp at hk
 | [a],_,_,h,_,_=>by simp[Qu] at h
 | a::b::r,lo,k,h,hk,hk2=>by
  unfold Qu at h;by_cases c:k=0
  ·subst c
   exact h.1
  ·obtain⟨j,rfl⟩:∃ j,k=j+2:=⟨k-2,by omega⟩
   have:=Zhn least r a j h.2.2.2.2 (by simp at hk;omega) (by omega)
   have e:(a::b::r).getD (j+2) 0=r.getD j 0:=rfl;rw[e];have:=h.1;omega
theorem Zho (least:Int) (l:List Int):Zap least l↔l.length<=128∧Qu least (-1) l:=by
 constructor
 ·rintro⟨h1,h2,b⟩
  refine⟨h2,(Zdd least l (-1)).2 ⟨h1,fun k a c=>?_⟩⟩
  obtain⟨i,f,d,e,g⟩:=b k a c;refine⟨?_,f,e,g⟩;split
  ·omega
  ·exact d (by omega)
 ·rintro⟨h1,h2⟩
  have b:=(Zdd least l (-1)).1 h2;refine⟨b.1,h1,fun k a c=>?_⟩
  obtain⟨i,f,d,e⟩:=b.2 k a c;have g:=Zhn least l (-1) k h2 a c;refine⟨by omega,f,fun h=>?_,d,e⟩
  rwa [if_neg (by omega)] at i
theorem ZbJ (h:Qu least lo l):l.length % 2=0:=((Zdd least l lo).1 h).1
def Yh (key:Int):List Int->Option Int
 | a::b::r=>if a=key then some b else Yh key r
 | _=>none
theorem Gm (key a b:Int) (r:List Int):Yh key (a::b::r)=if a=key then some b else Yh key r:=rfl
theorem Zem (key:Int):∀ (l:List Int) (k:Nat),(J1 key k l=-1∧Yh key l=none)∨(∃ j,J1 key k l=((k+j:Nat):Int)∧j+1<l.length∧Yh key l=some (l.getD (j+1) 0)∧l.getD j 0=key)
 | [],_=>.inl ⟨rfl,rfl⟩
 | [_],_=>.inl ⟨rfl,rfl⟩
 | a::b::r,k=>by
  by_cases h:a=key
  ·right
   refine⟨0,by unfold J1;rw[if_pos h];rfl,by simp,by unfold Yh;rw[if_pos h];rfl,h⟩
  ·rcases Zem key r (k+2) with ⟨c,d⟩ | ⟨j,c,d,f,e⟩
   ·left
    exact⟨by unfold J1;rw[if_neg h];exact c,by unfold Yh;rw[if_neg h];exact d⟩
   ·right
    refine⟨j+2,?_,by simp;omega,?_,e⟩
    ·unfold J1
     rw[if_neg h,c]
     congr 1
     omega
    ·unfold Yh
     rw[if_neg h,f];rfl
theorem Zen (key:Int) (l:List Int):J1 key 0 l<0↔Yh key l=none:=by
 rcases Zem key l 0 with ⟨a,b⟩ | ⟨j,a,b,c,d⟩
 ·rw[a,b]
  simp
 ·rw[a,c]
  simp
theorem ZoI (key:Int) (l:List Int):Zrv key l=(Yh key l).getD (-1):=by
 unfold Zrv;rcases Zem key l 0 with ⟨a,b⟩ | ⟨j,a,b,c,d⟩
 ·rw[a,b,if_neg (by omega)]
  rfl
 ·rw[a,c,if_pos (by omega)]
  simp
theorem Zhp (key:Int) (l:List Int):Yz key l=(Yh key l).getD 0:=by
 unfold Yz;rcases Zem key l 0 with ⟨a,b⟩ | ⟨j,a,b,c,d⟩
 ·rw[a,b,if_neg (by omega)]
  rfl
 ·rw[a,c,if_pos (by omega)]
  simp
theorem ZaU {least:Int} {key:Int}:∀ {l:List Int} {lo:Int},Qu least lo l->key<=lo->Yh key l=none
 | [],_,_,_=>rfl
 | [_],_,h,_=>by simp[Qu] at h
 | a::b::r,lo,h,hk=>by
  unfold Qu at h;unfold Yh;rw[if_neg (by omega)]
  exact ZaU h.2.2.2.2 (by omega)
theorem Zlh {least:Int} {key v:Int}:∀ {l:List Int} {lo:Int},Qu least lo l->Yh key l=some v->lo<key∧key<=255∧least<=v∧v<=1099511627776
 | [],_,_,h=>by simp[Yh] at h
 | [_],_,h,_=>by simp[Qu] at h
 | a::b::r,lo,h,hg=>by
  unfold Qu at h;unfold Yh at hg;by_cases e:a=key
  ·rw[if_pos e] at hg
   injection hg with hg
   omega
  ·rw[if_neg e] at hg
   have:=Zlh h.2.2.2.2 hg;omega
theorem Zfq (key n least:Int):∀ (l:List Int) (lo:Int),Qu least lo l->key<=lo->Xg key n true l=l
 | [],_,_,_=>rfl
 | [_],_,h,_=>by simp[Qu] at h
 | a::b::r,lo,h,hk=>by
  unfold Qu at h;unfold Xg;rw[if_neg (by simp),if_pos (by omega),Bool.true_or,Zfq key n least r a h.2.2.2.2 (by omega)]
  rfl
theorem ZaV (key n least a b:Int) (r:List Int) (lo:Int) (h:Qu least lo (a::b::r)):
 Xg key n false (a::b::r)=if key<a then key::n::a::b::r else if key=a then key::n::r else a::b::Xg key n false r:=by
 unfold Qu at h
 conv=>lhs;unfold Xg
 by_cases c:key<a
 ·rw[if_pos c,if_pos ⟨rfl,by omega⟩,if_pos (by omega),decide_eq_true (by omega),Bool.false_or,Zfq key n least r a h.2.2.2.2 (by omega)]
  rfl
 ·rw[if_neg c]
  by_cases d:key=a
  ·rw[if_pos d,if_pos ⟨rfl,by omega⟩,if_neg (by omega),decide_eq_true (by omega),Bool.false_or,Zfq key n least r a h.2.2.2.2 (by omega)]
   rfl
  ·rw[if_neg d,if_neg (by omega),if_pos (by omega),decide_eq_false (by omega),Bool.false_or]
   rfl
theorem Zbc (key n least:Int) (f:least<=n) (d:n<=1099511627776) (c:key<=255):∀ (l:List Int) (lo:Int),Qu least lo l->lo<key->Qu least lo (Xg key n false l)
 | [],lo,_,hlo=>by
  simp[Xg,Qu];omega
 | [_],_,h,_=>by simp[Qu] at h
 | a::b::r,lo,h,hlo=>by
  have g:=Zbc key n least f d c r a;rw[ZaV key n least a b r lo h];unfold Qu at h;split
  ·unfold Qu
   refine⟨hlo,c,f,d,?_⟩;unfold Qu;exact⟨by assumption,h.2⟩
  ·split
   ·rename_i e
    subst e;unfold Qu;exact⟨hlo,c,f,d,h.2.2.2.2⟩
   ·unfold Qu
    exact⟨h.1,h.2.1,h.2.2.1,h.2.2.2.1,g h.2.2.2.2 (by omega)⟩
theorem Zeo (key n least:Int):∀ (l:List Int) (lo:Int),Qu least lo l->(Xg key n false l).length=if Yh key l=none then l.length+2 else l.length
 | [],lo,_=>by simp[Xg,Yh]
 | [_],_,h=>by simp[Qu] at h
 | a::b::r,lo,h=>by
  have g:=Zeo key n least r a;rw[ZaV key n least a b r lo h];unfold Qu at h;by_cases f:key<a
  ·have e:Yh key (a::b::r)=none:=by rw[Gm,if_neg (by omega),ZaU h.2.2.2.2 (by omega)]
   rw[if_pos f,if_pos e];simp
  ·rw[if_neg f]
   by_cases d:key=a
   ·have e:Yh key (a::b::r)≠none:=by rw[Gm,if_pos d.symm];simp
    rw[if_pos d,if_neg e];simp
   ·have e:Yh key (a::b::r)=Yh key r:=by rw[Gm,if_neg (by omega)]
    rw[if_neg d,e];have:=g h.2.2.2.2;simp only [length_cons,this];by_cases c:Yh key r=none
    ·rw[if_pos c,if_pos c]
    ·rw[if_neg c,if_neg c]
theorem Zmv (key n least:Int):∀ (l:List Int) (lo:Int),Qu least lo l->∀ k,Yh k (Xg key n false l)=if k=key then some n else Yh k l
 | [],lo,_,k=>by
  simp[Xg,Yh,eq_comm]
 | [_],_,h,_=>by simp[Qu] at h
 | a::b::r,lo,h,k=>by
  have f:=Zmv key n least r a;rw[ZaV key n least a b r lo h];unfold Qu at h;by_cases d:key<a
  ·rw[if_pos d]
   by_cases e:k=key
   ·subst e
    rw[if_pos rfl,Yh,if_pos rfl]
   ·rw[if_neg e,Yh,if_neg (by omega)]
  ·rw[if_neg d]
   by_cases c:key=a
   ·rw[if_pos c]
    subst c;by_cases e:k=key
    ·subst e
     rw[if_pos rfl,Yh,if_pos rfl]
    ·rw[if_neg e,Yh,if_neg (by omega),Yh,if_neg (by omega)]
   ·rw[if_neg c]
    by_cases e:k=key
    ·subst e
     rw[if_pos rfl,Yh,if_neg (by omega),f h.2.2.2.2 k,if_pos rfl]
    ·rw[if_neg e,Yh]
     conv=>rhs;rw[Yh]
     rw[f h.2.2.2.2 k,if_neg e]
theorem Zad (key a b:Int) (r:List Int):Yp key (a::b::r)=if a≠key then a::b::Yp key r else Yp key r:=by
 rw[Yp];split <;> rfl
theorem Zdq (key least:Int):∀ (l:List Int) (lo:Int),Qu least lo l->Qu least lo (Yp key l)
 | [],_,_=>by simp[Yp,Qu]
 | [_],_,h=>by simp[Qu] at h
 | a::b::r,lo,h=>by
  have c:=Zdq key least r;rw[Zad];unfold Qu at h;split
  ·unfold Qu
   exact⟨h.1,h.2.1,h.2.2.1,h.2.2.2.1,c a h.2.2.2.2⟩
  ·exact lower (c a h.2.2.2.2) (by omega)
where
 lower {least lo lo':Int}:∀ {l:List Int},Qu least lo l->lo'<=lo->Qu least lo' l
 | [],_,_=>trivial
 | [_],h,_=>by simp[Qu] at h
 | a::b::r,h,hl=>by
  unfold Qu at h ⊢;exact⟨by omega,h.2⟩
theorem ZcA (key:Int):∀ (l:List Int),(Yp key l).length<=l.length
 | []=>by simp[Yp]
 | [_]=>by simp[Yp]
 | a::b::r=>by
  have c:=ZcA key r;rw[Zad];split <;> simp <;> omega
def ZtO:List Int->Int
 | _::b::r=>b+ZtO r
 | _=>0
theorem Zhq (key n least:Int):∀ (l:List Int) (lo:Int),Qu least lo l->ZtO (Xg key n false l)=ZtO l+n-(Yh key l).getD 0
 | [],lo,_=>by simp[Xg,Yh,ZtO]
 | [_],_,h=>by simp[Qu] at h
 | a::b::r,lo,h=>by
  have e:=Zhq key n least r a;rw[ZaV key n least a b r lo h];unfold Qu at h;by_cases d:key<a
  ·rw[if_pos d,Yh,if_neg (by omega),ZaU h.2.2.2.2 (by omega)]
   simp[ZtO];omega
  ·rw[if_neg d]
   by_cases c:key=a
   ·rw[if_pos c,Yh,if_pos c.symm]
    simp[ZtO];omega
   ·rw[if_neg c,Yh,if_neg (by omega),ZtO,e h.2.2.2.2]
    simp[ZtO];omega
theorem J6 (l:List Int):G6 l↔∀ x ∈ l,-1099511627776<=x∧x<=1099511627776:=by
 unfold G6;constructor
 ·intro h x b
  obtain⟨j,a,rfl⟩:=List.getElem_of_mem b;have:=h j a;simpa[List.getD,a] using this
 ·intro h j a
  have:=h l[j] (getElem_mem a);simpa[List.getD,a] using this
theorem Yk (a:kind≠4) (b:kind≠5):Zd kind l↔l.length<=64∧(kind<=1->l.length=1)∧G6 l:=by
 unfold Zd;rw[if_neg a,if_neg b]
theorem Zbq (l:List Int):Zd 4 l↔l.length<=128∧Qu (-1099511627776) (-1) l:=by
 unfold Zd;rw[if_pos rfl];exact Zho _ _
theorem ZaK (l:List Int):Zd 5 l↔l.length<=128∧Qu 0 (-1) l:=by
 unfold Zd;rw[if_neg (by decide),if_pos rfl]
 exact Zho _ _
theorem ZaL {s:St} (h:Yl s) {L:List Int} (a:Zd s.kind L):Yl ⟨s.kind,L,s.shut,s.eng⟩:=
 ⟨h.1,h.2.1,h.2.2.1,h.2.2.2.1,h.2.2.2.2.1,a⟩
theorem Zyu {s:St} (h:Yl s) (b:s.kind<=1) (o:Opn):Yl (Zef s o).1:=by
 have c:=h.2.2.2.1;have one:∀ x:Int,Zd s.kind [Jp x]:=fun x=>(Yk (by omega) (by omega)).2 ⟨by simp,fun _=>rfl,(J6 _).2 (fun y a=>by rw[List.mem_singleton.1 a];exact ZbW x)⟩
 unfold Zef;split
 ·exact ZaL h (one _)
 split
 ·exact ZaL h (one _)
 split
 ·exact h
 ·exact h
theorem Zwy {s:St} (h:Yl s) (c:¬ s.kind<=1) (d:s.kind<=3) (o:Opn):Yl (Zq s o).1:=by
 have a:=(Yk (by omega) (by omega)).1 h.2.2.2.2.2
 have b:=(J6 _).1 a.2.2;unfold Zq;split
 ·split
  ·exact h
  ·refine ZaL h ((Yk (by omega) (by omega)).2 ⟨?_,fun e=>absurd e c,(J6 _).2 fun x hx=>?_⟩)
   ·have:=a.1
    simp;omega
   ·rcases List.mem_append.1 hx with hx | hx
    ·exact b x hx
    ·rw[List.mem_singleton.1 hx];exact ZbW _
 split
 ·split
  ·exact h
  split
  ·refine ZaL h ((Yk (by omega) (by omega)).2 ⟨?_,fun e=>absurd e c,(J6 _).2 fun x hx=>b x (List.mem_of_mem_drop hx)⟩)
   have:=a.1;simp;omega
  ·refine ZaL h ((Yk (by omega) (by omega)).2 ⟨?_,fun e=>absurd e c,(J6 _).2 fun x hx=>b x (List.mem_of_mem_take hx)⟩)
   have:=a.1;simp;omega
 split
 ·exact h
 ·exact h
theorem Zub (d:l.length<=128) (a:Qu least (-1) l) {key n:Int} (j:0<=key) (c:key<=255) (g:least<=n) (f:n<=1099511627776) (b:¬ (J1 key 0 l<0∧l.length=128)):
 (Xg key n false l).length<=128∧Qu least (-1) (Xg key n false l):=by
 refine⟨?_,Zbc key n least g f c l (-1) a (by omega)⟩
 rw[Zeo key n least l (-1) a];have i:=ZbJ a;rw[Zen] at b;split
 ·rename_i h
  have:l.length≠128:=fun e=>b ⟨h,e⟩
  omega
 ·exact d
theorem Zuc {s:St} (h:Yl s) (c:s.kind=4) (o:Opn):Yl (Zcs s o).1:=by
 have b:=h.2.2.2.2.2;rw[c,Zbq] at b;unfold Zcs;split
 ·exact h
 split
 ·exact h
 split
 ·refine ZaL h ?_
  rw[c,Zbq];refine⟨?_,Zdq _ _ _ _ b.2⟩;have:=ZcA o.a s.L;omega
 split
 ·split
  ·exact h
  ·refine ZaL h ?_
   rw[c,Zbq];exact Zub b.1 b.2 (by omega) (by omega) (ZbW _).1 (ZbW _).2 (by assumption)
 ·exact h
theorem ZaW (a:Qu 0 (-1) l) (key:Int):0<=Yz key l∧Yz key l<=1099511627776:=by
 rw[Zhp]
 cases h:Yh key l with
 | none=>simp
 | some v=>
  have:=Zlh a h;exact⟨this.2.2.1,this.2.2.2⟩
theorem Zrw (q:l.length<=128) (d:Qu 0 (-1) l) (a c b:Int) (D:0<=a) (p:a<=255) (C:0<=c) (t:c<=255) (y:0<=b) (g:¬ (J1 a 0 l<0∨Yz a l<b)) (n:¬ a=c)
 (m:¬ ((J1 c 0 l<0∧l.length=128)∨1099511627776<Yz c l+b)):
 (Xg c (Yz c l+b) false (Xg a (Yz a l-b) false l)).length<=128∧
 Qu 0 (-1) (Xg c (Yz c l+b) false (Xg a (Yz a l-b) false l))∧
 ZtO (Xg c (Yz c l+b) false (Xg a (Yz a l-b) false l))=ZtO l:=by
 have B:=ZaW d a;have A:=ZaW d c;have u:Yh a l≠none:=fun e=>g (.inl ((Zen _ _).2 e))
 have x:¬ Yz a l<b:=fun e=>g (.inr e)
 have f:Qu 0 (-1) (Xg a (Yz a l-b) false l):=Zbc _ _ _ (by omega) (by omega) p _ _ d (by omega)
 have w:(Xg a (Yz a l-b) false l).length=l.length:=by rw[Zeo _ _ _ _ _ d,if_neg u]
 have v:=Zhq a (Yz a l-b) 0 l (-1) d;have k:Yh c (Xg a (Yz a l-b) false l)=Yh c l:=by rw[Zmv _ _ _ _ _ d,if_neg (fun e=>n e.symm)]
 have j:=Zeo c (Yz c l+b) 0 _ (-1) f;have i:=Zhq c (Yz c l+b) 0 _ (-1) f;rw[k,w] at j;rw[k,v,<-Zhp,<-Zhp] at i;refine⟨?_,Zbc _ _ _ (by omega) (by omega) t _ _ f (by omega),by rw[i];omega⟩
 rw[j];have z:=ZbJ d;split
 ·rename_i h
  have:l.length≠128:=fun e=>m (.inl ⟨(Zen _ _).2 h,e⟩)
  omega
 ·exact q
theorem Zwz {s:St} (h:Yl s) (d:s.kind=5) (o:Opn):Yl (Zbl s o).1∧ZtO (Zbl s o).1.L=ZtO s.L∧((Zbl s o).2≠1->(Zbl s o).1=s)∧(Zbl s o).1.kind=s.kind∧(Zbl s o).1.shut=s.shut:=by
 have c:=h.2.2.2.2.2;rw[d,ZaK] at c;unfold Zbl;split
 ·exact⟨h,rfl,fun _=>rfl,rfl,rfl⟩
 split
 ·exact⟨h,rfl,fun _=>rfl,rfl,rfl⟩
 split
 ·exact⟨h,rfl,fun _=>rfl,rfl,rfl⟩
 split
 ·exact⟨h,rfl,fun _=>rfl,rfl,rfl⟩
 ·have:=Zrw c.1 c.2 (o.a / 256) (o.a % 256) o.b (by omega) (by omega) (by omega) (by omega) (by omega) (by assumption) (by assumption) (by assumption)
  refine⟨ZaL h ?_,this.2.2,fun e=>absurd rfl e,rfl,rfl⟩
  rw[d,ZaK];exact⟨this.1,this.2.1⟩
theorem Zrx {s:St} (h:Yl s) (d:s.kind=5) (o:Opn):Yl (Yd s o).1:=by
 have c:=h.2.2.2.2.2;rw[d,ZaK] at c;unfold Yd;split
 ·exact(Zwz h d o).1
 split
 ·exact h
 split
 ·exact h
 split
 ·exact h
 split
 ·exact h
 split
 ·exact h
 ·refine ZaL h ?_
  rw[d,ZaK];have i:=ZaW c.2 o.a;have g:=ZbW o.b
  have e:0<=Jp o.b:=by
   unfold Jp;split
   ·omega
   ·split <;> omega
  have f:0<=Jp (Yz o.a s.L+Jp o.b):=by
   unfold Jp;split
   ·have:=e;unfold Jp at this;omega
   ·split
    ·omega
    ·have:=e;unfold Jp at this;omega
  exact Zub c.1 c.2 (by omega) (by omega) f (ZbW _).2 (by assumption)
theorem Zli (s:St) (o:Opn):(Zef s o).1.kind=s.kind∧(Zef s o).1.shut=s.shut∧(Zef s o).1.eng=s.eng:=by
 unfold Zef
 repeat' split
 all_goals exact⟨rfl,rfl,rfl⟩
theorem Zhr (s:St) (o:Opn):(Zq s o).1.kind=s.kind∧(Zq s o).1.shut=s.shut∧(Zq s o).1.eng=s.eng:=by
 unfold Zq
 repeat' split
 all_goals exact⟨rfl,rfl,rfl⟩
theorem Zfr (s:St) (o:Opn):(Zcs s o).1.kind=s.kind∧(Zcs s o).1.shut=s.shut∧(Zcs s o).1.eng=s.eng:=by
 unfold Zcs
 repeat' split
 all_goals exact⟨rfl,rfl,rfl⟩
theorem ZdF (s:St) (o:Opn):(Yd s o).1.kind=s.kind∧(Yd s o).1.shut=s.shut∧(Yd s o).1.eng=s.eng:=by
 unfold Yd Zbl
 repeat' split
 all_goals exact⟨rfl,rfl,rfl⟩
theorem Zhs {s:St} (h:Yl s) (a:s.shut=true) (o:Opn):Zcz s o=(s,-1125899906842624):=by
 unfold Zcz;rw[if_neg (fun e=>e h),if_pos a]
theorem Zht {s:St} (h:Yl s) (b:s.shut=false) (o:Opn) (c:o.code=10):Zcz s o=(⟨s.kind,s.L,true,if 0<=o.a∧o.a<=2 then o.a else s.eng⟩,0):=by
 unfold Zcz;rw[if_neg (fun e=>e h),if_neg (by simp[b]),if_pos c]
theorem ZwA {s:St} (h:¬ Yl s) (o:Opn):Zcz s o=(s,0):=by
 unfold Zcz;rw[if_pos h]
theorem Zhu {s:St} (h:Yl s) (a:s.shut=false) (o:Opn) (b:o.code≠10):Zcz s o=if s.kind<=1 then Zef s o else if s.kind<=3 then Zq s o else if s.kind=4 then Zcs s o else Yd s o:=by
 unfold Zcz;rw[if_neg (fun e=>e h),if_neg (by simp[a]),if_neg b]
theorem Zud (s:St) (o:Opn):(Zcz s o).1.kind=s.kind:=by
 unfold Zcz;split
 ·rfl
 split
 ·rfl
 split
 ·rfl
 split
 ·exact(Zli s o).1
 split
 ·exact(Zhr s o).1
 split
 ·exact(Zfr s o).1
 ·exact(ZdF s o).1
theorem Zry {s:St} (h:Yl s) (o:Opn):(Zcz s o).1.shut=(s.shut || decide (o.code=10)):=by
 by_cases c:s.shut=true
 ·rw[Zhs h c,c]
  rfl
 ·have a:s.shut=false:=by simpa using c
  by_cases b:o.code=10
  ·rw[Zht h a o b,decide_eq_true b]
   simp
  ·rw[Zhu h a o b,decide_eq_false b,a]
   split
   ·rw[(Zli s o).2.1,a];rfl
   split
   ·rw[(Zhr s o).2.1,a];rfl
   split
   ·rw[(Zfr s o).2.1,a];rfl
   ·rw[(ZdF s o).2.1,a];rfl
theorem ZwB {s:St} (h:Yl s) (o:Opn):Yl (Zcz s o).1:=by
 by_cases c:s.shut=true
 ·rw[Zhs h c]
  exact h
 ·have b:s.shut=false:=by simpa using c
  by_cases d:o.code=10
  ·rw[Zht h b o d]
   refine⟨?_,?_,(fun e=>by cases e),h.2.2.2.1,h.2.2.2.2.1,h.2.2.2.2.2⟩
   ·show 0<=(if 0<=o.a∧o.a<=2 then o.a else s.eng)
    have:=h.1;split <;> omega
   ·show(if 0<=o.a∧o.a<=2 then o.a else s.eng)<=2
    have:=h.2.1;split <;> omega
  ·rw[Zhu h b o d]
   have g:=h.2.2.2.1;have f:=h.2.2.2.2.1;split
   ·exact Zyu h (by assumption) o
   split
   ·exact Zwy h (by assumption) (by assumption) o
   split
   ·exact Zuc h (by assumption) o
   ·exact Zrx h (by omega) o
theorem Zyv {k:IntKind} {a b:Int} (h:a=b):Ending.returned (.int k a)=.returned (.int k b):=by rw[h]
theorem Y6 {b:Bool} (h:a=b):Ending.returned (.bool a)=.returned (.bool b):=by rw[h]
def StV (w:World) (v:Value) (s:St):Prop:=∃ vl,v=.agg #[.int .i64 s.kind,vl,.bool s.shut,.int .i64 s.eng]∧RdI w vl s.L∧I64 s.kind∧I64 s.eng
def opV (o:Opn):Value:=.agg #[.int .i64 o.code,.int .i64 o.a,.int .i64 o.b]
def Zyw (o:Opn):Prop:=I64 o.code∧I64 o.a∧I64 o.b
def Zmw (a b:St):Prop:=a.kind=b.kind∧a.shut=b.shut∧a.eng=b.eng∧a.L=b.L
instance (a b:St):Decidable (Zmw a b):=by unfold Zmw;infer_instance
def Zfs (w:World) (vl:Value) (L:List Int) (r:St × Int) (e:Ending) (w':World):Prop:=
 ∃ vl',e=.returned (.tuple #[.agg #[.int .i64 r.1.kind,vl',.bool r.1.shut,.int .i64 r.1.eng],.int .i64 r.2])∧RdI w' vl' r.1.L∧I64 r.1.kind∧I64 r.1.eng∧((vl'=vl∧r.1.L=L)∨∀ b,vl'.ownBlock=some b->w.heap.size<=b)∧Below w.heap.size w w'
def lval:Value->Value
 | .agg ⟨[_,x,_,_]⟩=>x
 | v=>v
theorem ZqB (a x c d:Value):lval (.agg #[a,x,c,d])=x:=rfl
theorem ZoJ {g a:Nat} (h:(Value.slice (some ⟨g,a,none⟩) n c).ownBlock=some b):b=g:=by
 injection h with h
 exact h.symm
theorem Zfs.fresh {d vl':Value} {L L':List Int} (c:RdI w' vl' L') (i:I64 kind) (f:I64 g) (n:Int) (j:∀ b,vl'.ownBlock=some b->w.heap.size<=b) (e:Below w.heap.size w w'):
 Zfs w d L (⟨kind,L',a,g⟩,n) (.returned (.tuple #[.agg #[.int .i64 kind,vl',.bool a,.int .i64 g],.int .i64 n])) w':=
 ⟨_,rfl,c,i,f,.inr j,e⟩
theorem Zyx (n:Int):I64 (Jp n):=by
 have:=ZbW n;unfold I64;omega
theorem RdI.one (w:World) (x:Int) (h:I64 x):RdI (w.alloc (.cells #[.int .i64 x] 3)) (.slice (some ⟨w.heap.size,0,none⟩) 1 1) [x]:=by
 refine⟨some ⟨w.heap.size,0,none⟩,1,rfl,Nat.le_refl _,by decide,(fun e=>by cases e),?_,.inr ⟨w.heap.size,0,rfl,fun j b=>?_⟩⟩
 ·intro n a
  simp at a;rw[a];exact h
 ·have e:j=0:=by simpa using b
  subst e;rw[Nat.zero_add,cell_of_row _ w.heap.size 0 #[.int .i64 x] 3 (0,0) (heap_alloc_new w _)];rfl
theorem ZAe (w:World) (x y z:Obj):(((w.alloc x).alloc y).alloc z).heap.size=w.heap.size+1+1+1:=by simp
def Da (w:World) (B:Nat) (s o r:Array Value):Prop:=
 w.heap[B]?=some (.cells s 38 (0,0))∧w.heap[B+1]?=some (.cells o 52 (0,0))∧w.heap[B+1+1]?=some (.cells r 38 (0,0))
theorem Da.made (w:World) (s o r:Array Value):Da (((w.alloc (.cells s 38)).alloc (.cells o 52)).alloc (.cells r 38)) w.heap.size s o r:=by
 refine⟨?_,?_,?_⟩
 ·rw[Below.heap_alloc _ _ _ (by simp;omega),Below.heap_alloc _ _ _ (by simp)]
  exact heap_alloc_new w _
 ·rw[Below.heap_alloc _ _ _ (by simp)]
  have h:=heap_alloc_new (w.alloc (.cells s 38)) (.cells o 52);have e:(w.alloc (.cells s 38)).heap.size=w.heap.size+1:=by simp
  rwa [e] at h
 ·have h:=heap_alloc_new ((w.alloc (.cells s 38)).alloc (.cells o 52)) (.cells r 38)
  have e:((w.alloc (.cells s 38)).alloc (.cells o 52)).heap.size=w.heap.size+1+1:=by simp
  rwa [e] at h
theorem Da.below {s o r:Array Value} (h:Da w B s o r) (a:Below C w w') (e:B+3<=C):Da w' B s o r:=by
 obtain⟨b,c,d⟩:=h
 exact⟨by rw[a.block _ (by omega)];exact b,by rw[a.block _ (by omega)];exact c,by rw[a.block _ (by omega)];exact d⟩
-- 38
theorem Da.s {w:World} {B:Nat} {s o r:Array Value} (h:Da w B s o r) (j:Nat):w.cell? ⟨B,j,none⟩=s[j]?∧w.frozen? ⟨B,j,none⟩=false:=
 ⟨cell_of_row w B j _ _ _ h.1,frozen_of_row w B j _ _ h.1⟩
-- 38
theorem Da.o {w:World} {B:Nat} {s o r:Array Value} (h:Da w B s o r) (j:Nat):w.cell? ⟨B+1,j,none⟩=o[j]?∧w.frozen? ⟨B+1,j,none⟩=false:=
 ⟨cell_of_row w (B+1) j _ _ _ h.2.1,frozen_of_row w (B+1) j _ _ h.2.1⟩
-- 38
theorem Da.r {w:World} {B:Nat} {s o r:Array Value} (h:Da w B s o r) (j:Nat):w.cell? ⟨B+1+1,j,none⟩=r[j]?∧w.frozen? ⟨B+1+1,j,none⟩=false:=
 ⟨cell_of_row w (B+1+1) j _ _ _ h.2.2,frozen_of_row w (B+1+1) j _ _ h.2.2⟩
-- 38
theorem Qs.shape (h:Qs w B v l):∃ ao cap,v=.slice ao l.length cap:=by
 rcases h.2 with ⟨a,b⟩ | ⟨g,cap,cur,a,_⟩
 ·exact⟨none,0,by rw[a,b]⟩
 ·exact⟨_,_,a⟩
def ZqC (w:World) (B R:Nat) (x0 x1 x2 x3 x4:Value):World:=
 ((((w.setCell ⟨B,1,none⟩ x0).setCell ⟨R,0,none⟩ x1).setCell ⟨R,1,none⟩ x2).setCell ⟨R,2,none⟩ x3).setCell ⟨R,3,none⟩ x4
theorem Qs.five (h:Qs w C v l) (B R:Nat) (f:B<C) (a:R<C) (c b d e g:Value):Qs (ZqC w B R c b d e g) C v l:=
 ownsRow_setCell_below (ownsRow_setCell_below (ownsRow_setCell_below (ownsRow_setCell_below (ownsRow_setCell_below h f _) a _) a _) a _) a _
theorem Zue {b:World} (h:Below C b w) (B R:Nat) (g:C<=B) (a:C<=R) (d c e f i:Value):Below C b (ZqC w B R d c e f i):=
 ((((h.setCell g _).setCell a _).setCell a _).setCell a _).setCell a _
theorem Zae {b:World} (h:Below C b w) (R:Nat) (a:C<=R) (e c d f:Value):Below C b ((((w.setCell ⟨R,0,none⟩ e).setCell ⟨R,1,none⟩ c).setCell ⟨R,2,none⟩ d).setCell ⟨R,3,none⟩ f):=
 (((h.setCell a _).setCell a _).setCell a _).setCell a _
theorem Qo {n:Int} (a:-2251799813685248<=n) (b:n<=2251799813685248):I64 n:=⟨by omega,by omega⟩
structure But (R T:Nat) (w w':World):Prop where
 os:w'.os=w.os
 tape:w'.tape=w.tape
 output:w'.output=w.output
 size:w.heap.size<=w'.heap.size
 block:∀ k,k<w.heap.size->k≠R->k≠T->w'.heap[k]?=w.heap[k]?
theorem But.refl (R T:Nat) (w:World):But R T w w:=⟨rfl,rfl,rfl,Nat.le_refl _,fun _ _ _ _=>rfl⟩
theorem But.set (h:But R T w w') (b i:Nat) (c:b=R∨b=T) (x:Value):But R T w (w'.setCell ⟨b,i,none⟩ x):=by
 have a:=(Below.refl 0 w').setCell (p:=⟨b,i,none⟩) (Nat.zero_le _) x;refine⟨a.os.trans h.os,a.tape.trans h.tape,a.output.trans h.output,Nat.le_trans h.size a.size,fun k e d f=>?_⟩
 rw[Below.heap_setCell _ _ _ _ (by rcases c with rfl | rfl <;> assumption)]
 exact h.block k e d f
theorem Zaf {N:Nat} {wr:World} (h:Below N w wr) (a:But R T wr w') (c:N<=wr.heap.size) (d:N<=R) (e:N<=T):Below N w w':=
 ⟨a.os.trans h.os,a.tape.trans h.tape,a.output.trans h.output,Nat.le_trans h.size a.size,fun k b=>(a.block k (by omega) (by omega) (by omega)).trans (h.block k b)⟩
theorem But.four (h:But R T w w') (b:Nat) (a:b=R∨b=T) (e c d f:Value):But R T w ((((w'.setCell ⟨b,0,none⟩ e).setCell ⟨b,1,none⟩ c).setCell ⟨b,2,none⟩ d).setCell ⟨b,3,none⟩ f):=
 (((h.set b 0 a e).set b 1 a c).set b 2 a d).set b 3 a f
theorem RdI.block (h:RdI w v l):l=[]∨(l≠[]∧∃ b,v.ownBlock=some b∧b<w.heap.size):=by
 obtain⟨ao,cap,e,j,k,m,n,a⟩:=h;rcases a with a | ⟨b,d,f,g⟩
 ·exact .inl a
 ·by_cases c:l=[]
  ·exact .inl c
  ·right
   have i:0<l.length:=List.length_pos_iff.2 c;exact⟨c,b,by rw[e,f];rfl,World.block_lt_of_cell? w ⟨b,d+0,none⟩ (g 0 i)⟩
theorem RdI.but (h:RdI w v l) {R T:Nat} (t:But R T w w') (hn:l=[]∨∀ b,v.ownBlock=some b->b≠R∧b≠T):RdI w' v l:=by
 obtain⟨ao,cap,g,k,m,n,p,c⟩:=h;refine⟨ao,cap,g,k,m,n,p,?_⟩;rcases c with c | ⟨b,d,i,f⟩
 ·exact .inl c
 ·rcases hn with hn | hn
  ·exact .inl hn
  ·refine .inr ⟨b,d,i,fun j e=>?_⟩
   obtain⟨u,q⟩:=hn b (by rw[g,i];rfl)
   have x:=World.block_lt_of_cell? w ⟨b,d+j,none⟩ (f j e);rw[<-f j e];exact World.cell?_of_block (a:=⟨b,d+j,none⟩) (t.block b x u q)
theorem ZAf {d:Bool} (h:Yl ⟨kind,l,d,g⟩) (c:kind<=1):l.length=1∧-1099511627776<=l.getD 0 0∧l.getD 0 0<=1099511627776:=by
 have a:=(Yk (kind:=kind) (l:=l) (by omega) (by omega)).1 h.2.2.2.2.2
 have b:=a.2.1 c;exact⟨b,a.2.2 0 (by show 0<l.length;omega)⟩
theorem ZAg (h:Yl ⟨kind,l,a,g⟩) (b:kind<=3):l.length<=64:=
 ((Yk (kind:=kind) (l:=l) (by omega) (by omega)).1 h.2.2.2.2.2).1
theorem Zmx:∀ {l:List Int} {lo:Int},-1<=lo->Qu 0 lo l->∀ x ∈ l,0<=x∧x<=1099511627776
 | [],_,_,_,x,hx=>by simp at hx
 | [_],_,_,h,_,_=>by simp[Qu] at h
 | a::b::r,lo,hlo,h,x,hx=>by
  unfold Qu at h;have c:=Zmx (l:=r) (lo:=a) (by omega) h.2.2.2.2 x
  simp at hx;rcases hx with rfl | rfl | hx
  ·omega
  ·omega
  ·exact c hx
theorem Zuf (b:-1099511627776<=least) (a:Qu least lo l) (key:Int):I64 (Zrv key l):=by
 rw[ZoI]
 cases h:Yh key l with
 | none=>exact Qo (by decide) (by decide)
 | some v=>
  have:=Zlh a h;show I64 v;exact Qo (by omega) (by omega)
theorem Zyf (h:G6 l) (j:Nat):I64 (l.getD j 0):=by
 by_cases a:j<l.length
 ·have:=h j a
  exact Qo (by omega) (by omega)
 ·have e:l.getD j 0=0:=by simp[List.getD,a]
  rw[e];exact Qo (by decide) (by decide)
theorem Zug (s:St) (o:Opn):I64 (Zcz s o).2:=by
 have c:I64 0:=Qo (by decide) (by decide)
 have q:I64 1:=Qo (by decide) (by decide)
 have g:I64 (-1):=Qo (by decide) (by decide)
 have k:I64 (-2):=Qo (by decide) (by decide)
 by_cases b:Yl s
 ·by_cases n:s.shut=true
  ·rw[Zhs b n]
   exact(Qo (by decide) (by decide):I64 (-1125899906842624))
  ·have m:s.shut=false:=by simpa using n
   by_cases l:o.code=10
   ·rw[Zht b m o l]
    exact c
   ·rw[Zhu b m o l]
    have u:=b.2.2.2.1;have v:=b.2.2.2.2.1;have d:=b.2.2.2.2.2;split
    ·have e:=((Yk (by omega) (by omega)).1 d).2.2
     unfold Zef
     repeat' split
     all_goals first | exact Zyf e 0 | exact c
    split
    ·have f:=(Yk (by omega) (by omega)).1 d
     have e:=f.2.2;have p:I64 ((s.L.length:Int)):=Qo (by omega) (by have:=f.1;omega)
     have t:I64 ((s.L.length:Int)+1):=Qo (by omega) (by have:=f.1;omega)
     unfold Zq
     repeat' split
     all_goals first | exact Zyf e _ | exact c | exact g | exact p | exact t
    split
    ·rename_i i
     rw[i,Zbq] at d;have j:=Zuf (by decide) d.2 o.a
     unfold Zcs
     repeat' split
     all_goals first | exact c | exact g | exact k | exact j
    ·have i:s.kind=5:=by omega
     rw[i,ZaK] at d;have j:=Zuf (by decide) d.2 o.a
     unfold Yd Zbl
     repeat' split
     all_goals first | exact c | exact q | exact g | exact k | exact j | exact Zyx _
 ·rw[ZwA b]
  exact c
theorem Qs.but (h:Qs w B v l) {R T:Nat} (i:But R T w w') (n:∀ b,v.ownBlock=some b->b≠R∧b≠T):Qs w' B v l:=by
 obtain⟨m,a⟩:=h;refine⟨m,?_⟩;rcases a with a | ⟨g,cap,cur,c,e,d,r⟩
 ·exact .inl a
 ·have k:g<w.heap.size:=(Array.getElem?_eq_some_iff.1 d).1
  obtain⟨j,f⟩:=n g (by rw[c];rfl)
  exact .inr ⟨g,cap,cur,c,e,by rw[i.block g k j f];exact d,r⟩
def ZoK (w:World) (B:Nat) (s r:Array Value):Prop:=
 w.heap[B]?=some (.cells s 38 (0,0))∧w.heap[B+1]?=some (.cells r 38 (0,0))
theorem ZoK.made (w:World) (s r:Array Value):ZoK ((w.alloc (.cells s 38)).alloc (.cells r 38)) w.heap.size s r:=by
 refine⟨?_,?_⟩
 ·rw[Below.heap_alloc _ _ _ (by simp)]
  exact heap_alloc_new w _
 ·have h:=heap_alloc_new (w.alloc (.cells s 38)) (.cells r 38)
  have e:(w.alloc (.cells s 38)).heap.size=w.heap.size+1:=by simp
  rwa [e] at h
theorem ZoK.below {s r:Array Value} (h:ZoK w B s r) (a:Below C w w') (d:B+2<=C):ZoK w' B s r:=by
 obtain⟨b,c⟩:=h
 exact⟨by rw[a.block _ (by omega)];exact b,by rw[a.block _ (by omega)];exact c⟩
-- 38
theorem ZoK.s {w:World} {B:Nat} {s r:Array Value} (h:ZoK w B s r) (j:Nat):w.cell? ⟨B,j,none⟩=s[j]?∧w.frozen? ⟨B,j,none⟩=false:=
 ⟨cell_of_row w B j _ _ _ h.1,frozen_of_row w B j _ _ h.1⟩
-- 38
theorem ZoK.r {w:World} {B:Nat} {s r:Array Value} (h:ZoK w B s r) (j:Nat):w.cell? ⟨B+1,j,none⟩=r[j]?∧w.frozen? ⟨B+1,j,none⟩=false:=
 ⟨cell_of_row w (B+1) j _ _ _ h.2,frozen_of_row w (B+1) j _ _ h.2⟩
-- 38
theorem Zep (w:World) {d:Array Oper} {rest:List Oper} {o:Oper} {a:Act} {Q:Exit->Act->World->Prop} (G:o.guard=none) (s x:Operand)
 (C:o.op=.call { callee:=.builtin .append,args:=#[s,x],argTypes:=#[23,23] })
 (B:Nat) (v:Value) (l:List Int) (L:a.eval s=v) (E:Qs w B v l) (n:Int) (N:Nat) (A:N=w.heap.size) (M:a.eval x=.slice (some ⟨N,0,none⟩) 1 1)
 (S:l.length<=1000000) (R:B<=w.heap.size)
 (h:∀ v' w',Qs w' B v' (l++[n])->w.grownBy w' v.ownBlock->(v'.ownBlock=v.ownBlock∨∃ g,v'.ownBlock=some g∧w.heap.size<=g)->wpList prog d Q rest (a.put o.dst v') w'):wpList prog d Q (o::rest) a (w.alloc (.cells #[.int .i64 n] 3)):=
 wpList_plain G fun _ i=>by
  subst A;obtain⟨J,z,K,t,F⟩:=info_parts Zlg
  obtain⟨v',w',D,O,b,_,hat⟩:=run_append_own_at (P:=prog) (w.alloc (.cells #[.int .i64 n] 3)) B 23 o.type 3 J (.int .i64 0) 1 8 underlying23 z K t F rfl (by decide) v l.length (Qr l) (World.ownsRow.alloc E _)
   ⟨w.heap.size,0,none⟩ 1 1 [.int .i64 n] rfl (fun j u c=>by
    match j,c with
    | 0,c=>simp at c;subst c;simp[Addr.add]) (fun u e=>by simp at e;subst e;rfl) (by unfold maxLen;omega) (by omega) (by simp;omega)
  have q:Qs w' B v' (l++[n]):=by
   unfold Qs;have I:(l++[n]).length=l.length+1:=by simp
   have m:Qr (l++[n])=Qr l++[.int .i64 n]:=by simp[Qr]
   rw[I,m];exact O
  have p:w.grownBy w' v.ownBlock:=⟨b.os,b.tape,b.output,by have:=b.size;simp at this;omega,fun k H y=>by
   rw[b.block k (by simp;omega) y]
   exact Below.heap_alloc _ _ _ H⟩
  have f:v'.ownBlock=v.ownBlock∨∃ g,v'.ownBlock=some g∧w.heap.size<=g:=by
   rcases hat with hat | hat
   ·exact .inl hat
   ·exact .inr ⟨_,hat,by simp⟩
  unfold Oper.wp execOp;simp only [C,resolve,invoke,builtin,Sem.run_bind,Sem.run_pure,Result.andThen_ok,List.map_toArray,map_cons,map_nil,L,M,D];exact i _ _ (h v' w' q p f)
theorem ZqD (w:World) (b i:Nat) (x:Value):(w.setCell ⟨b,i,none⟩ x).heap.size=w.heap.size:=by simp[World.setCell]
def Bx (w:World) (b:Nat) (cs:Array Value):Prop:=w.heap[b]?=some (.cells cs 38 (0,0))
def Bo (w:World) (b:Nat) (cs:Array Value):Prop:=w.heap[b]?=some (.cells cs 52 (0,0))
theorem Bx.lt (h:Bx w b cs):b<w.heap.size:=(Array.getElem?_eq_some_iff.1 h).1
-- 38
theorem Bx.below (h:Bx w b cs) (a:Below B w w') (c:w.heap.size<=B):Bx w' b cs:=(a.block b (by have:=h.lt;omega)).trans h
-- 38
theorem Bx.cell (h:Bx w b cs) (j:Nat):w.cell? ⟨b,j,none⟩=cs[j]?∧w.frozen? ⟨b,j,none⟩=false:=⟨cell_of_row w b j _ _ _ h,frozen_of_row w b j _ _ h⟩
-- 38
theorem Bo.lt (h:Bo w b cs):b<w.heap.size:=(Array.getElem?_eq_some_iff.1 h).1
theorem Bo.below (h:Bo w b cs) (a:Below B w w') (c:w.heap.size<=B):Bo w' b cs:=(a.block b (by have:=h.lt;omega)).trans h
theorem Bo.cell (h:Bo w b cs) (j:Nat):w.cell? ⟨b,j,none⟩=cs[j]?∧w.frozen? ⟨b,j,none⟩=false:=⟨cell_of_row w b j _ _ _ h,frozen_of_row w b j _ _ h⟩
theorem Qs.four (h:Qs w C v l) (R:Nat) (a:R<C) (d b c e:Value):Qs ((((w.setCell ⟨R,0,none⟩ d).setCell ⟨R,1,none⟩ b).setCell ⟨R,2,none⟩ c).setCell ⟨R,3,none⟩ e) C v l:=
 ownsRow_setCell_below (ownsRow_setCell_below (ownsRow_setCell_below (ownsRow_setCell_below h a _) a _) a _) a _
theorem Qs.fresh (h:Qs w B v l):∀ b,v.ownBlock=some b->B<=b:=fun b a=>(World.ownsRow.lt h b a).1
end Go.Proofs.YtnahjngbneicaaaGreatDoor
