import Derived.Test.YtnahjngbneicaaaGreatDoorRows
import Derived.WalkKit
import Derived.ProofKit
import Derived.Lib.VarintMem
import Derived.Lib.Zigzag
import Derived.Lib.Endian
import Derived.Lib.VarintBits
import Derived.BigQuiet
import Derived.Deep.DeepCutAuto
import Derived.Deep.RegionHeld
import Derived.Maps.AppendAt
namespace Go.Proofs.YtnahjngbneicaaaGreatDoor
open _root_.Go.Proofs.Tryz
open List (append_assoc cons_append drop_drop foldl_append getElem_mem length_append length_cons length_take map_cons map_nil mem_cons_of_mem mem_cons_self pairwise_cons)
set_option maxRecDepth 100000
variable {p:Prop} {B B' C R T b c cap f m m' n:Nat} {a:Bool} {w w':World} {g key kind least lo:Int} {v:Value} {l:List Int} {x:Addr} {cs:Array Value}
theorem _root_.Go.RowKit.Hid.o (h:Go.RowKit.Hid p):p:=h
theorem zL:n<=n:=Nat.le_refl n
open Go.RowKit
theorem ZaI {a:World} (h:Below B a w) (n:Nat):Below B a (w.drewN n):=⟨h.os,h.tape,h.output,h.size,h.block⟩
theorem ZZ (h:p):Hid p:=h
theorem Zho {b:Bool} (h:a=b):Ending.returned (.bool a)=.returned (.bool b):=by rw[h]
structure Fl where
 b:List UInt8
 k:Nat
inductive Ch where
 | give (n:Int) (f:Nat)
 | move (n tz:Int) (f:Nat)
 | take (n:Int)
abbrev Dir:=List (Int × Nat)
def ZbM (l:Dir):Prop:=l.Pairwise (fun p q=>p.1<q.1)
def ZeQ (l:Dir):Prop:=l.Pairwise (fun p q=>p.2≠q.2)
def look:Dir->Int->Option Nat
 | [],_=>none
 | p::l,n=>if p.1=n then some p.2 else look l n
def Zmh (n:Int) (f:Nat):Bool->Dir->Dir
 | done,[]=>if done then[] else[(n,f)]
 | done,p::l=>(if !done && decide (p.1>n) then[(n,f)] else[])++((if p.1≠n then[p] else[])++Zmh n f (done || decide (p.1>n)) l)
def ZiX (l:Dir) (n:Int):Option Nat->Dir
 | some f=>Zmh n f false l
 | none=>Zmh n 0 true l
theorem Zkb {α:Type} (c:Prop) [Decidable c] (x p:α):p ∈ (if c then[x] else[])↔c∧p=x:=by
 split <;> simp_all
theorem Zes (n:Int) (f:Nat) (p:Int × Nat):∀ (l:Dir) (done:Bool),p ∈ Zmh n f done l↔(p ∈ l∧p.1≠n)∨(done=false∧p=(n,f))
 | [],done=>by cases done <;> simp[Zmh]
 | q::l,done=>by
  rw[Zmh,List.mem_append,List.mem_append,Zes n f p l,Zkb,Zkb,List.mem_cons]
  cases done <;> grind
theorem Zgm (l:Dir) (n:Int) (o:Option Nat) (p:Int × Nat):p ∈ ZiX l n o↔(p ∈ l∧p.1≠n)∨(p.1=n∧o=some p.2):=by
 cases o with
 | none=>rw[ZiX,Zes];simp
 | some f=>
  rw[ZiX,Zes];constructor
  ·rintro(h | ⟨_,h⟩)
   ·exact .inl h
   ·exact .inr (by rw[h];exact⟨rfl,rfl⟩)
  ·rintro(h | ⟨h1,h2⟩)
   ·exact .inl h
   ·refine .inr ⟨rfl,?_⟩
    obtain⟨a,b⟩:=p;simp only [Option.some.injEq] at h2;simp only at h1;rw[h1,h2]
theorem ZgN (n:Int) (f:Nat):∀ (l:Dir) (done:Bool),ZbM l->(done=true->∀ p ∈ l,p.1>n)->ZbM (Zmh n f done l)
 | [],done,_,_=>by cases done <;> simp[Zmh,ZbM]
 | q::l,done,h,hd=>by
  unfold ZbM at h;rw[pairwise_cons] at h;rw[Zmh];unfold ZbM;by_cases a:q.1>n
  ·have b:q.1≠n:=by omega
   have c:=ZgN n f l true h.2 (fun _ p hp=>by have:=h.1 p hp;omega)
   have e:(done || decide (q.1>n))=true:=by rw[decide_eq_true a,Bool.or_true]
   rw[e,if_pos b]
   have d:(q::Zmh n f true l).Pairwise (fun p q=>p.1<q.1):=by
    refine List.pairwise_cons.2 ⟨fun p hp=>?_,c⟩
    rcases(Zes n f p l true).1 hp with ⟨hp,_⟩ | ⟨hp,_⟩
    ·exact h.1 p hp
    ·cases hp
   cases done
   ·rw[if_pos (by simp[a])]
    refine List.pairwise_cons.2 ⟨fun p hp=>?_,d⟩
    rcases List.mem_cons.1 hp with rfl | hp
    ·exact a
    ·rcases(Zes n f p l true).1 hp with ⟨hp,_⟩ | ⟨hp,_⟩
     ·have:=h.1 p hp;simp only;omega
     ·cases hp
   ·rw[if_neg (by simp)]
    exact d
  ·have e:(done || decide (q.1>n))=done:=by rw[decide_eq_false a,Bool.or_false]
   have i:done=false:=by
    cases done
    ·rfl
    ·exact absurd (hd rfl q (mem_cons_self ..)) a
   subst i;rw[e,if_neg (by simp[a])]
   have c:=ZgN n f l false h.2 (fun g=>by cases g)
   by_cases b:q.1=n
   ·rw[if_neg (by simp[b])]
    exact c
   ·rw[if_pos b]
    refine List.pairwise_cons.2 ⟨fun p hp=>?_,c⟩
    rcases(Zes n f p l false).1 hp with ⟨hp,_⟩ | ⟨_,hp⟩
    ·exact h.1 p hp
    ·rw[hp];simp only;omega
theorem Zhp (n:Int) (f:Nat):∀ l:Dir,Zmh n f true l=l.filter (fun p=>decide (p.1≠n))
 | []=>rfl
 | q::l=>by
  rw[Zmh,Bool.true_or,Zhp n f l,List.filter_cons];by_cases h:q.1=n <;> simp[h]
theorem ZcC {l:Dir} (h:ZbM l) (n:Int) (o:Option Nat):ZbM (ZiX l n o):=by
 cases o with
 | none=>
  rw[ZiX,Zhp];exact h.sublist List.filter_sublist
 | some f=>exact ZgN n f l false h (fun a=>by cases a)
theorem ZgO (n:Int) (f:Nat):∀ (l:Dir) (done:Bool),(Zmh n f done l).length<=l.length+(if done then 0 else 1)
 | [],done=>by cases done <;> simp[Zmh]
 | q::l,done=>by
  have a:=ZgO n f l (done || decide (q.1>n));rw[Zmh,length_append,length_append,length_cons]
  cases done <;> grind
theorem ZgP (l:Dir) (n:Int) (o:Option Nat):(ZiX l n o).length<=l.length+1:=by
 cases o with
 | none=>have:=ZgO n 0 l true;simp at this;rw[ZiX];omega
 | some f=>have:=ZgO n f l false;simpa[ZiX] using this
theorem Zcz {l:Dir} (h:ZbM l) (n:Int) (f:Nat):look l n=some f↔(n,f) ∈ l:=by
 induction l with
 | nil=>simp[look]
 | cons p l d=>
  unfold ZbM at h;rw[pairwise_cons] at h;rw[look];by_cases e:p.1=n
  ·rw[if_pos e]
   constructor
   ·intro c
    have:p=(n,f):=by
     obtain⟨a,b⟩:=p;simp only [Option.some.injEq] at c;simp only at e;rw[e,c]
    rw[this];exact mem_cons_self ..
   ·intro hm
    rcases List.mem_cons.1 hm with hm | hm
    ·rw[<-hm]
    ·have:=h.1 _ hm
     simp only at this;omega
  ·rw[if_neg e,d h.2]
   constructor
   ·exact fun hm=>mem_cons_of_mem _ hm
   ·intro hm
    rcases List.mem_cons.1 hm with hm | hm
    ·exact absurd (by rw[<-hm]) e
    ·exact hm
theorem ZfN {l:Dir} (h:ZbM l) (n:Int) (o:Option Nat) (m:Int):look (ZiX l n o) m=if m=n then o else look l m:=by
 have c:=ZcC h n o;apply Option.ext;intro f;rw[Zcz c,Zgm];by_cases e:m=n
 ·rw[if_pos e]
  constructor
  ·rintro(⟨_,a⟩ | ⟨_,a⟩)
   ·exact absurd e a
   ·exact a
  ·exact fun a=>.inr ⟨e,a⟩
 ·rw[if_neg e,Zcz h]
  constructor
  ·rintro(⟨b,_⟩ | ⟨b,_⟩)
   ·exact b
   ·exact absurd b e
  ·exact fun b=>.inl ⟨b,e⟩
theorem ZiY {l:Dir} (h:ZbM l):(l.map Prod.fst).Pairwise (·<·):=by
 rw[List.pairwise_map];exact h
theorem ZiZ:∀ {a b:List Int},a.Pairwise (·<·)->b.Pairwise (·<·)->(∀ x,x ∈ a↔x ∈ b)->a=b
 | [],[],_,_,_=>rfl
 | [],y::b,_,_,h=>by have:=(h y).2 (mem_cons_self ..);cases this
 | x::a,[],_,_,h=>by have:=(h x).1 (mem_cons_self ..);cases this
 | x::a,y::b,ha,hb,h=>by
  rw[pairwise_cons] at ha hb
  have d:x=y:=by
   rcases List.mem_cons.1 ((h x).1 (mem_cons_self ..)) with e | hx
   ·exact e
   ·rcases List.mem_cons.1 ((h y).2 (mem_cons_self ..)) with e | hy
    ·exact e.symm
    ·have:=ha.1 y hy
     have:=hb.1 x hx;omega
  subst d;rw[ZiZ ha.2 hb.2 fun z=>?_]
  constructor
  ·intro c
   rcases List.mem_cons.1 ((h z).1 (mem_cons_of_mem _ c)) with e | hz'
   ·have:=ha.1 z c;omega
   ·exact hz'
  ·intro c
   rcases List.mem_cons.1 ((h z).2 (mem_cons_of_mem _ c)) with e | hz'
   ·have:=hb.1 z c;omega
   ·exact hz'
theorem ZmI (n:Int) (f:Nat):∀ (l:Dir) (done:Bool),ZeQ l->(done=false->∀ p ∈ l,p.1≠n->p.2≠f)->ZeQ (Zmh n f done l)
 | [],done,_,_=>by cases done <;> simp[Zmh,ZeQ]
 | q::l,done,h,hd=>by
  unfold ZeQ at h;rw[pairwise_cons] at h;rw[Zmh];have d:=ZmI n f l (done || decide (q.1>n)) h.2 (fun e p hp g=>hd (by cases done <;> simp_all) p (mem_cons_of_mem _ hp) g)
  have c:∀ a:q.1≠n,(q::Zmh n f (done || decide (q.1>n)) l).Pairwise (fun p q=>p.2≠q.2):=by
   intro a;refine List.pairwise_cons.2 ⟨fun p hp=>?_,d⟩
   rcases(Zes n f p l _).1 hp with ⟨hp,_⟩ | ⟨hdn,hp⟩
   ·exact h.1 p hp
   ·rw[hp]
    exact hd (by cases done <;> simp_all) q (mem_cons_self ..) a
  unfold ZeQ;by_cases a:q.1=n
  ·rw[if_neg (by simp[a]),if_neg (by simp[a])]
   exact d
  ·rw[if_pos a]
   by_cases b:(!done && decide (q.1>n))=true
   ·rw[if_pos b]
    simp only [Bool.and_eq_true,Bool.not_eq_true',decide_eq_true_eq] at b;refine List.pairwise_cons.2 ⟨fun p hp=>?_,c a⟩
    rcases List.mem_cons.1 hp with rfl | hp
    ·exact fun e=>hd b.1 p (mem_cons_self ..) a e.symm
    ·rcases(Zes n f p l _).1 hp with ⟨hp,i⟩ | ⟨hdn,_⟩
     ·exact fun e=>hd b.1 p (mem_cons_of_mem _ hp) i e.symm
     ·rw[decide_eq_true b.2] at hdn
      simp at hdn
   ·rw[if_neg b]
    exact c a
theorem ZmJ {l:Dir} (h:ZeQ l) (n:Int) (f:Nat) (a:∀ p ∈ l,p.1≠n->p.2≠f):ZeQ (ZiX l n (some f)):=
 ZmI n f l false h fun _=>a
theorem ZmK {l:Dir} (h:ZeQ l) (n:Int):ZeQ (ZiX l n none):=by
 rw[ZiX,Zhp];exact h.sublist List.filter_sublist
def chD (l:Dir):Ch->Dir
 | .give n f=>ZiX l n (some f)
 | .move n tz f=>ZiX (ZiX l n none) tz (some f)
 | .take n=>ZiX l n none
theorem Zin {l:Dir} (h:ZbM l) (c:Ch):ZbM (chD l c):=by
 cases c with
 | give n f=>rw[chD];exact ZcC h _ _
 | move n tz f=>rw[chD];exact ZcC (ZcC h _ _) _ _
 | take n=>rw[chD];exact ZcC h _ _
theorem ZtQ (l:Dir) (c:Ch):(chD l c).length<=l.length+1:=by
 cases c with
 | give n f=>rw[chD];exact ZgP _ _ _
 | move n tz f=>
  have b:=ZgP (ZiX l n none) tz (some f);have a:(ZiX l n none).length<=l.length:=by rw[ZiX,Zhp];exact List.length_filter_le _ _
  rw[chD];omega
 | take n=>rw[chD];exact ZgP _ _ _
def chF (f:Int->Option Nat):Ch->Int->Option Nat
 | .give n x=>fun m=>if m=n then some x else f m
 | .move n tz x=>fun m=>if m=n then none else if m=tz then some x else f m
 | .take n=>fun m=>if m=n then none else f m
theorem Zgn {l:Dir} (h:ZbM l) (c:Ch) (b:∀ n a f,c=.move n a f->n≠a) (m:Int):look (chD l c) m=chF (look l) c m:=by
 cases c with
 | give n f=>rw[chD];exact ZfN h _ _ _
 | move n a f=>
  have d:=b n a f rfl;rw[chD,ZfN (ZcC h _ _),ZfN h];show _=(if m=n then none else if m=a then some f else look l m)
  grind
 | take n=>rw[chD];exact ZfN h _ _ _
def Zcv (a:Int) (all:Nat):Nat:=if a<0 then 0 else(a % ((all:Int)+1)).toNat
theorem Zhq (a:Int) (b:Nat):Zcv a b<=b:=by
 unfold Zcv;split
 ·omega
 ·have:=Int.emod_lt_of_pos a (show(0:Int)<(b:Int)+1 by omega)
  omega
def ZjB (keep:List Int) (i:Nat):Int:=if keep.length=0 then 0 else keep.getD (i % keep.length) 0
def ZmL (x:Fl) (a:Int):Fl:=⟨x.b.take (x.k+Zcv a (x.b.length-x.k)),x.k+Zcv a (x.b.length-x.k)⟩
def fl (fs:List Fl) (f:Nat):Fl:=fs.getD f ⟨[],0⟩
def Zaw (keep:List Int):Dir->Nat->List Fl->List Fl
 | [],_,fs=>fs
 | p::l,i,fs=>Zaw keep l (i+1) (fs.set p.2 (ZmL (fl fs p.2) (ZjB keep i)))
theorem Zci (keep:List Int):∀ (l:Dir) (i:Nat) (fs:List Fl),(Zaw keep l i fs).length=fs.length
 | [],_,_=>rfl
 | p::l,i,fs=>by rw[Zaw,Zci keep l,List.length_set]
theorem Zkc (keep:List Int):∀ (l:Dir) (p:Int × Nat) (i:Nat) (fs:List Fl),Zaw keep (l++[p]) i fs=(Zaw keep l i fs).set p.2 (ZmL (fl (Zaw keep l i fs) p.2) (ZjB keep (i+l.length)))
 | [],p,i,fs=>by simp[Zaw]
 | q::l,p,i,fs=>by
  rw[cons_append,Zaw,Zaw,Zkc keep l p (i+1)];rw[length_cons,show i+1+l.length=i+(l.length+1) by omega]
theorem Zfg {fs:List Fl} (h:f<fs.length) (x:Fl):fl (fs.set f x) f=x:=by
 unfold fl;simp[List.getD,h]
theorem ZcF {fs:List Fl} {g:Nat} (h:f≠g) (x:Fl):fl (fs.set f x) g=fl fs g:=by
 unfold fl;simp[List.getD,h]
theorem Zet (keep:List Int):∀ (l:Dir) (i:Nat) (fs:List Fl) (g:Nat),(∀ p ∈ l,p.2≠g)->fl (Zaw keep l i fs) g=fl fs g
 | [],_,_,_,_=>rfl
 | p::l,i,fs,g,h=>by
  rw[Zaw,Zet keep l (i+1) _ g fun q a=>h q (mem_cons_of_mem _ a),ZcF (h p (mem_cons_self ..))]
structure Dk where
 room:Int
 files:List Fl
 kept:Dir
 waits:List Ch
 power:Int
def ZeF (d:Dk) (k:Nat):Dir:=(d.waits.take k).foldl chD d.kept
def Zbk (d:Dk):Dir:=d.waits.foldl chD d.kept
def ZdE (fs:List Fl) (l:Dir):Nat:=(l.map fun p=>(fl fs p.2).b.length).sum
def ZcL (d:Dk):Nat:=ZdE d.files (Zbk d)
def totF (fs:List Fl):Nat:=(fs.map fun x=>x.b.length).sum
def ZfK (p:Int):Int:=if p>0 then p-1 else p
def Zja (n:Int):Bool:=decide (0<=n) && decide (n<1048576)
def Zmi (room:Int):Dk:=⟨room,[],[],[],-1⟩
def Zcn (d:Dk) (n:Int):Dk:={ d with files:=d.files++[⟨[],0⟩],waits:=d.waits++[.give n d.files.length] }
def ZeR (fs:List Fl) (f:Nat) (b:List UInt8):List Fl:=fs.set f ⟨(fl fs f).b++b,(fl fs f).k⟩
def appendTo (d:Dk) (f:Nat) (b:List UInt8):Dk:={ d with files:=ZeR d.files f b,power:=ZfK d.power }
def ZaK (d:Dk) (n:Int) (b:List UInt8):Dk × Int:=
 if d.power=0 then(d,11) else if Zja n=false then(d,1) else if(ZcL d:Int)+b.length>d.room then(d,10) else
 match look (Zbk d) n with
 | some f=>(appendTo d f b,0)
 | none=>(appendTo (Zcn d n) d.files.length b,0)
def Zdc (d:Dk) (n:Int):List UInt8 × Int:=
 if d.power=0 then([],11) else
 match look (Zbk d) n with
 | some f=>((fl d.files f).b,0)
 | none=>([],8)
def Zhr (fs:List Fl) (f:Nat):List Fl:=fs.set f ⟨(fl fs f).b,(fl fs f).b.length⟩
def Zdx (d:Dk) (n:Int):Dk × Int:=
 if d.power=0 then(d,11) else
 match look (Zbk d) n with
 | some f=>({ d with files:=Zhr d.files f,power:=ZfK d.power },0)
 | none=>(d,8)
def Zdg (d:Dk) (n tz:Int):Dk × Int:=
 if d.power=0 then(d,11) else
 match look (Zbk d) n with
 | some f=>if Zja tz=false then(d,1) else if n=tz then({ d with power:=ZfK d.power },0) else
  ({ d with waits:=d.waits++[.move n tz f],power:=ZfK d.power },0)
 | none=>(d,8)
def Zam (d:Dk) (n:Int):Dk × Int:=
 if d.power=0 then(d,11) else
 match look (Zbk d) n with
 | some _=>({ d with waits:=d.waits++[.take n],power:=ZfK d.power },0)
 | none=>(d,8)
def ZaS (d:Dk):Dk × Int:=
 if d.power=0 then(d,11) else({ d with kept:=Zbk d,waits:=[],power:=ZfK d.power },0)
def ZyD (d:Dk) (n:Int):Dk:={ d with power:=if d.power=0 then 0 else max n 0 }
def Zco (d:Dk) (names:Int) (keep:List Int):Dk:=
 let l:=ZeF d (Zcv names d.waits.length)
 { d with files:=Zaw keep l 0 d.files,kept:=l,waits:=[],power:=-1 }
def ZvY (m:Nat):Ch->Prop
 | .give n f=>Zja n=true∧f<m
 | .move n tz f=>Zja n=true∧Zja tz=true∧n≠tz∧f<m
 | .take n=>Zja n=true
structure OkL (m:Nat) (l:Dir):Prop where
 rise:ZbM l
 apart:ZeQ l
 may:∀ p ∈ l,Zja p.1=true∧p.2<m
structure OkD (d:Dk):Prop where
 dirs:∀ k,OkL d.files.length (ZeF d k)
 chs:∀ c ∈ d.waits,ZvY d.files.length c
 keep:∀ x ∈ d.files,x.k<=x.b.length
theorem Zgo (d:Dk):ZeF d d.waits.length=Zbk d:=by rw[ZeF,Zbk,List.take_length]
theorem ZoS (d:Dk):ZeF d 0=d.kept:=by rw[ZeF];rfl
theorem Zwc (d:Dk) {k:Nat} (h:k<d.waits.length):ZeF d (k+1)=chD (ZeF d k) d.waits[k]:=by
 rw[ZeF,ZeF,List.take_succ_eq_append_getElem h,foldl_append];rfl
theorem OkD.dir {d:Dk} (h:OkD d):OkL d.files.length (Zbk d):=by rw[<-Zgo];exact h.dirs _
theorem OkD.kept {d:Dk} (h:OkD d):OkL d.files.length d.kept:=by rw[<-ZoS];exact h.dirs _
theorem OkL.more {l:Dir} (h:OkL m l) (b:m<=m'):OkL m' l:=
 ⟨h.rise,h.apart,fun p a=>⟨(h.may p a).1,by have:=(h.may p a).2;omega⟩⟩
theorem ZvY.more {c:Ch} (h:ZvY m c) (a:m<=m'):ZvY m' c:=by
 cases c with
 | give n f=>exact⟨h.1,by have:=h.2;omega⟩
 | move n tz f=>exact⟨h.1,h.2.1,h.2.2.1,by have:=h.2.2.2;omega⟩
 | take n=>exact h
theorem ZAs (m:Nat):OkL m []:=⟨List.Pairwise.nil,List.Pairwise.nil,fun p a=>by cases a⟩
theorem Zwd (room:Int):OkD (Zmi room):=by
 refine⟨fun k=>?_,(fun c a=>by cases a),(fun x b=>by cases b)⟩
 rw[ZeF];show OkL 0 ((([]:List Ch).take k).foldl chD []);rw[List.take_nil];exact ZAs _
theorem OkD.wait {d:Dk} (h:OkD d) {c:Ch} {fs:List Fl} {p:Int} (a:d.files.length<=fs.length) (i:∀ x ∈ fs,x.k<=x.b.length) (f:ZvY fs.length c) (e:OkL fs.length (chD (Zbk d) c)):
 OkD { d with files:=fs,waits:=d.waits++[c],power:=p }:=by
 refine⟨fun k=>?_,fun c' hc'=>?_,i⟩
 ·show OkL fs.length (((d.waits++[c]).take k).foldl chD d.kept)
  by_cases g:k<=d.waits.length
  ·rw[List.take_append_of_le_length g]
   exact(h.dirs k).more a
  ·rw[List.take_of_length_le (by simp;omega),foldl_append]
   exact e
 ·rcases List.mem_append.1 hc' with hc' | hc'
  ·exact(h.chs c' hc').more a
  ·rw[List.mem_singleton.1 hc']
   exact f
theorem OkD.bytes {d:Dk} (h:OkD d) {fs:List Fl} {p:Int} (a:d.files.length=fs.length) (f:∀ x ∈ fs,x.k<=x.b.length):OkD { d with files:=fs,power:=p }:=by
 refine⟨fun k=>?_,fun c e=>?_,f⟩
 ·show OkL fs.length (ZeF d k)
  rw[<-a];exact h.dirs k
 ·show ZvY fs.length c
  rw[<-a];exact h.chs c e
theorem OkD.power {d:Dk} (h:OkD d) (p:Int):OkD { d with power:=p }:=h.bytes (fs:=d.files) rfl h.keep
theorem ZjN {d:Dk} {fs:List Fl} {l:Dir} {p:Int} (a:OkL fs.length l) (f:∀ x ∈ fs,x.k<=x.b.length):OkD { d with files:=fs,kept:=l,waits:=[],power:=p }:=by
 refine⟨fun k=>?_,(fun c e=>by cases e),f⟩
 show OkL fs.length ((([]:List Ch).take k).foldl chD l);rw[List.take_nil];exact a
theorem OkD.fresh {d:Dk} (h:OkD d) {n:Int} (c:Zja n=true):OkD (Zcn d n):=by
 have b:=h.dir;refine OkD.wait (p:=d.power) h (by simp) (fun x hx=>?_) ⟨c,by simp⟩ ⟨?_,?_,?_⟩
 ·rcases List.mem_append.1 hx with hx | hx
  ·exact h.keep x hx
  ·rw[List.mem_singleton.1 hx];exact Nat.le_refl _
 ·exact Zin b.rise _
 ·rw[chD]
  exact ZmJ b.apart n _ fun p a _=>by have:=(b.may p a).2;omega
 ·intro p a
  rw[chD,Zgm] at a;simp only [length_append,List.length_singleton];rcases a with ⟨a,_⟩ | ⟨a,e⟩
  ·exact⟨(b.may p a).1,by have:=(b.may p a).2;omega⟩
  ·rw[a]
   have:=Option.some.inj e;exact⟨c,by omega⟩
theorem ZtR {d:Dk} (h:OkD d) (n:Int):look (Zbk (Zcn d n)) n=some d.files.length:=by
 have e:Zbk (Zcn d n)=chD (Zbk d) (.give n d.files.length):=by
  show(d.waits++[_]).foldl chD d.kept=_;rw[foldl_append];rfl
 rw[e,Zgn h.dir.rise _ (fun _ _ _ a=>by cases a)]
 show(if n=n then _ else _)=_
 rw[if_pos rfl]
theorem ZmM (d:Dk) (n:Int):Zbk (Zcn d n)=chD (Zbk d) (.give n d.files.length):=by
 show(d.waits++[_]).foldl chD d.kept=_;rw[foldl_append];rfl
theorem ZeS {fs:List Fl} (h:f<fs.length):fl fs f ∈ fs:=by
 unfold fl;rw[List.getD,List.getElem?_eq_getElem h];exact getElem_mem h
theorem ZjO {fs:List Fl} (h:∀ x ∈ fs,x.k<=x.b.length) (f:Nat) {y:Fl} (c:y.k<=y.b.length):∀ x ∈ fs.set f y,x.k<=x.b.length:=by
 intro x a;rcases List.mem_or_eq_of_mem_set a with a | rfl
 ·exact h x a
 ·exact c
theorem Zkd {fs:List Fl} (h:∀ x ∈ fs,x.k<=x.b.length) (f:Nat):(fl fs f).k<=(fl fs f).b.length:=by
 by_cases a:f<fs.length
 ·exact h _ (ZeS a)
 ·unfold fl
  rw[List.getD,List.getElem?_eq_none (by omega)]
  exact Nat.le_refl _
theorem OkD.appendTo {d:Dk} (h:OkD d) (f:Nat) (b:List UInt8):OkD (appendTo d f b):=by
 refine h.bytes (by simp[ZeR]) (ZjO h.keep f ?_)
 have:=Zkd h.keep f;simp only [length_append];omega
theorem OkD.append {d:Dk} (h:OkD d) (n:Int) (b:List UInt8):OkD (ZaK d n b).1:=by
 unfold ZaK;split
 ·exact h
 ·split
  ·exact h
  ·rename_i a
   split
   ·exact h
   ·split
    ·exact h.appendTo _ b
    ·exact(h.fresh (by simpa using a)).appendTo _ b
theorem OkD.sync {d:Dk} (h:OkD d) (n:Int):OkD (Zdx d n).1:=by
 unfold Zdx;split
 ·exact h
 ·split
  ·exact h.bytes (by simp[Zhr]) (ZjO h.keep _ zL)
  ·exact h
theorem OkL.mayOf {l:Dir} (h:OkL m l) {n:Int} {f:Nat} (e:look l n=some f):Zja n=true∧f<m:=h.may (n,f) ((Zcz h.rise n f).1 e)
theorem ZsU:∀ {l:Dir},ZeQ l->∀ {p q:Int × Nat},p ∈ l->q ∈ l->p≠q->p.2≠q.2
 | [],_,_,_,hp,_,_=>by cases hp
 | a::l,h,p,q,hp,hq,hne=>by
  unfold ZeQ at h;rw[pairwise_cons] at h;rcases List.mem_cons.1 hp with c | hp1
  ·rcases List.mem_cons.1 hq with b | hq1
   ·exact absurd (c.trans b.symm) hne
   ·rw[c];exact h.1 q hq1
  ·rcases List.mem_cons.1 hq with b | hq1
   ·rw[b];exact fun e=>h.1 p hp1 e.symm
   ·exact ZsU (l:=l) h.2 hp1 hq1 hne
theorem OkD.moved {d:Dk} (h:OkD d) {n m:Int} {f:Nat} (g:look (Zbk d) n=some f) (i:Zja m=true) (l:n≠m) (q:Int):OkD { d with waits:=d.waits++[.move n m f],power:=q }:=by
 have b:=h.dir;have c:=b.mayOf g;refine OkD.wait (fs:=d.files) h zL h.keep ⟨c.1,i,l,c.2⟩ ⟨Zin b.rise _,?_,?_⟩
 ·rw[chD]
  refine ZmJ (ZmK b.apart n) m f fun p a _=>?_
  rw[Zgm] at a;rcases a with ⟨a,j⟩ | ⟨_,a⟩
  ·intro e
   have k:=(Zcz b.rise n f).1 g;have:=ZsU b.apart a k (by intro e;rw[e] at j;exact j rfl)
   exact this e
  ·cases a
 ·intro p a
  rw[chD,Zgm,Zgm] at a;rcases a with ⟨⟨a,_⟩ | ⟨_,a⟩,_⟩ | ⟨a,e⟩
  ·exact b.may p a
  ·cases a
  ·rw[a]
   exact⟨i,by rw[<-Option.some.inj e];exact c.2⟩
theorem OkD.rename {d:Dk} (h:OkD d) (n m:Int):OkD (Zdg d n m).1:=by
 unfold Zdg;split
 ·exact h
 ·split
  ·rename_i f a
   split
   ·exact h
   ·rename_i b
    split
    ·exact h.power _
    ·rename_i c
     exact h.moved a (by simpa using b) c _
  ·exact h
theorem OkD.taken {d:Dk} (h:OkD d) {n:Int} {f:Nat} (c:look (Zbk d) n=some f) (q:Int):OkD { d with waits:=d.waits++[.take n],power:=q }:=by
 have b:=h.dir;have e:=b.mayOf c;refine OkD.wait (fs:=d.files) h zL h.keep e.1 ⟨Zin b.rise _,?_,?_⟩
 ·rw[chD];exact ZmK b.apart n
 ·intro p a
  rw[chD,Zgm] at a;rcases a with ⟨a,_⟩ | ⟨_,a⟩
  ·exact b.may p a
  ·cases a
theorem OkD.remove {d:Dk} (h:OkD d) (n:Int):OkD (Zam d n).1:=by
 unfold Zam;split
 ·exact h
 ·split
  ·rename_i f a
   exact h.taken a _
  ·exact h
theorem OkD.syncDir {d:Dk} (h:OkD d):OkD (ZaS d).1:=by
 unfold ZaS;split
 ·exact h
 ·exact ZjN (fs:=d.files) h.dir h.keep
theorem OkD.cut {d:Dk} (h:OkD d) (n:Int):OkD (ZyD d n):=h.power _
theorem Zwe {x:Fl} (h:x.k<=x.b.length) (a:Int):(ZmL x a).k<=(ZmL x a).b.length:=by
 have:=Zhq a (x.b.length-x.k);unfold ZmL;simp only [length_take];omega
theorem ZsV {x:Fl} (h:x.k<=x.b.length) (a:Int):(ZmL x a).b.length=(ZmL x a).k:=by
 have:=Zhq a (x.b.length-x.k);unfold ZmL;simp only [length_take];omega
theorem Zke (keep:List Int):∀ (l:Dir) (i:Nat) (fs:List Fl),(∀ x ∈ fs,x.k<=x.b.length)->∀ x ∈ Zaw keep l i fs,x.k<=x.b.length
 | [],_,_,h=>h
 | p::l,i,fs,h=>by
  rw[Zaw];exact Zke keep l (i+1) _ (ZjO h _ (Zwe (Zkd h _) _))
theorem OkD.crash {d:Dk} (h:OkD d) (names:Int) (keep:List Int):OkD (Zco d names keep):=
 ZjN (fs:=Zaw keep (ZeF d (Zcv names d.waits.length)) 0 d.files) (by rw[Zci];exact h.dirs _) (Zke keep _ 0 _ h.keep)
def val:List UInt8->Nat
 | []=>0
 | c::r=>c.toNat % 128+128*val r
def dec:Nat->List UInt8->Option (Nat × Nat)
 | 0,_=>none
 | _+1,[]=>none
 | n+1,c::r=>if c.toNat<128 then some (c.toNat,1) else
  match dec n r with
  | some (v+1,k)=>some (c.toNat % 128+128*(v+1),k+1)
  | _=>none
def Zah (l:List UInt8):Nat × Nat:=
 match dec 10 l with
 | some (v,k)=>if v<18446744073709551616 then(v,k) else(0,0)
 | none=>(0,0)
def Zab (l:List UInt8):Nat × Nat:=if(Zah l).1<4611686018427387904 then Zah l else(0,0)
theorem ZAi:∀ l:List UInt8,val l<128 ^ l.length
 | []=>by simp[val]
 | c::r=>by
  have h:=ZAi r;simp only [val,length_cons,Nat.pow_succ];omega
theorem ZsW:∀ (l:List UInt8) (c:UInt8),val (l++[c])=val l+c.toNat % 128*128 ^ l.length
 | [],c=>by simp[val]
 | d::r,c=>by
  have h:=ZsW r c;simp only [cons_append,val,length_cons,Nat.pow_succ,h];rw[Nat.mul_add,<-Nat.mul_assoc,Nat.mul_comm 128 (c.toNat % 128),Nat.mul_assoc,Nat.mul_comm 128 (128 ^ r.length)];omega
theorem Zkf (l:List UInt8) (k:Nat) (h:k<l.length):l.take (k+1)=l.take k++[l.getD k 0]:=by
 rw[List.take_succ_eq_append_getElem h];simp[List.getD,h]
theorem Zhs (l:List UInt8) (k:Nat) (h:k<l.length):val (l.take (k+1))=val (l.take k)+(l.getD k 0).toNat % 128*128 ^ k:=by
 rw[Zkf l k h,ZsW,length_take,Nat.min_eq_left (by omega)]
theorem Zwf:∀ (k n:Nat) (l:List UInt8),k<n->k<l.length->(∀ j,j<k->128<=(l.getD j 0).toNat)->(l.getD k 0).toNat<128->
 dec n l=if 0<k∧(l.getD k 0).toNat=0 then none else some (val (l.take (k+1)),k+1)
 | 0,n+1,c::r,_,_,_,h=>by
  have t:c.toNat<128:=by simpa using h
  simp only [dec,t,if_true];simp[val];omega
 | k+1,n+1,c::r,hn,hl,hj,h=>by
  have x:128<=c.toNat:=by simpa using hj 0 (by omega)
  have b:=Zwf k n r (by omega) (by simpa using hl) (fun j w=>by simpa using hj (j+1) (by omega)) (by simpa using h)
  have u:((c::r).getD (k+1) 0)=r.getD k 0:=by simp
  simp only [dec];rw[if_neg (show ¬ c.toNat<128 by omega),u]
  have f:k<r.length:=by simpa using hl
  have q:(r.getD k 0).toNat % 128=(r.getD k 0).toNat:=Nat.mod_eq_of_lt (by simpa using h)
  by_cases a:(r.getD k 0).toNat=0
  ·rw[if_pos ⟨Nat.succ_pos k,a⟩]
   have p:dec n r=none∨dec n r=some (0,1):=by
    by_cases g:0<k
    ·exact .inl (by rw[b,if_pos ⟨g,a⟩])
    ·obtain rfl:k=0:=by omega
     have d:val (r.take (0+1))=0:=by
      rw[Zhs r 0 f,a];simp[val]
     exact .inr (by rw[b,if_neg (fun e=>g e.1),d])
   rcases p with e | e <;> rw[e]
  ·have d:0<val (r.take (k+1)):=by
    rw[Zhs r k f,q];have v:0<128 ^ k:=Nat.pow_pos (by decide)
    have y:0<(r.getD k 0).toNat*128 ^ k:=Nat.mul_pos (by omega) v
    omega
   obtain⟨m,i⟩:∃ m,val (r.take (k+1))=m+1:=⟨val (r.take (k+1))-1,by omega⟩
   have e:dec n r=some (m+1,k+1):=by rw[b,if_neg (fun e=>a e.2),i]
   rw[e,if_neg (fun e=>a e.2)]
   simp only [List.take_succ_cons,val,i]
theorem ZnH:∀ (n:Nat) (l:List UInt8),(∀ j,j<n->j<l.length->128<=(l.getD j 0).toNat)->dec n l=none
 | 0,_,_=>rfl
 | n+1,[],_=>rfl
 | n+1,c::r,h=>by
  have e:128<=c.toNat:=by simpa using h 0 (by omega) (by simp)
  have b:=ZnH n r (fun j d a=>by simpa using h (j+1) (by omega) (by simpa using a))
  simp only [dec];rw[if_neg (by omega),b]
theorem Zkg:∀ (n u:Nat) (t:List UInt8),(Lib.uvarint u).length<=n->dec n (Lib.uvarint u++t)=some (u,(Lib.uvarint u).length)
 | 0,u,_,h=>by have:=Lib.uvarint_pos u;omega
 | n+1,u,t,h=>by
  by_cases b:u<128
  ·rw[Lib.uvarint_small b]
   have e:(u.toUInt8).toNat=u:=Lib.toUInt8_toNat (by omega)
   simp only [cons_append,dec,e,b,if_true];simp
  ·rw[Lib.uvarint_big (by omega)] at h ⊢
   have e:((u % 128+128).toUInt8).toNat=u % 128+128:=Lib.toUInt8_toNat (by omega)
   have a:=Zkg n (u / 128) t (by simpa using h)
   obtain⟨m,c⟩:∃ m,u / 128=m+1:=⟨u / 128-1,by omega⟩
   rw[c] at a ⊢;simp only [cons_append,dec,e];rw[if_neg (by omega),a]
   simp only [length_cons,Option.some.injEq,Prod.mk.injEq,and_true];omega
theorem ZoT:∀ (n:Nat) (l:List UInt8) (v k:Nat),dec n l=some (v,k)->k<=l.length∧1<=k∧l.take k=Lib.uvarint v
 | 0,_,_,_,h=>by simp[dec] at h
 | n+1,[],_,_,h=>by simp[dec] at h
 | n+1,c::r,v,k,h=>by
  simp only [dec] at h;by_cases a:c.toNat<128
  ·rw[if_pos a] at h
   simp only [Option.some.injEq,Prod.mk.injEq] at h;obtain⟨rfl,rfl⟩:=h;refine⟨by simp,by omega,?_⟩
   rw[Lib.uvarint_small a];simp
  ·rw[if_neg a] at h
   cases hd:dec n r with
   | none=>rw[hd] at h;simp at h
   | some p=>
    obtain⟨v',f⟩:=p;rw[hd] at h
    cases v' with
    | zero=>simp at h
    | succ m=>
     simp only [Option.some.injEq,Prod.mk.injEq] at h;obtain⟨rfl,rfl⟩:=h;have b:=ZoT n r (m+1) f hd;have g:=c.toNat_lt;refine⟨by simpa using b.1,by omega,?_⟩
     rw[Lib.uvarint_big (by omega),List.take_succ_cons,b.2.2]
     have e:(c.toNat % 128+128*(m+1)) % 128+128=c.toNat:=by omega
     have d:(c.toNat % 128+128*(m+1)) / 128=m+1:=by omega
     rw[e,d];simp
theorem ZbN (u:Nat) (t:List UInt8) (h:u<18446744073709551616):Zah (Lib.uvarint u++t)=(u,(Lib.uvarint u).length):=by
 unfold Zah;rw[Zkg 10 u t (Lib.uvarint_length64 h)];simp[h]
theorem ZaT (u:Nat) (t:List UInt8) (h:u<4611686018427387904):Zab (Lib.uvarint u++t)=(u,(Lib.uvarint u).length):=by
 unfold Zab;rw[ZbN u t (by omega)]
 simp[h]
theorem ZbO (l:List UInt8):Zah l=(0,0)∨((Zah l).1<18446744073709551616∧1<=(Zah l).2∧(Zah l).2<=l.length∧l.take (Zah l).2=Lib.uvarint (Zah l).1):=by
 unfold Zah
 cases h:dec 10 l with
 | none=>exact .inl rfl
 | some p=>
  obtain⟨v,k⟩:=p;have a:=ZoT 10 l v k h;by_cases b:v<18446744073709551616
  ·simp only [b,if_true]
   exact .inr ⟨trivial,a.2.1,a.1,a.2.2⟩
  ·simp only [b,if_false]
   exact .inl trivial
theorem ZnI (l:List UInt8):(Zah l).1<18446744073709551616:=by
 rcases ZbO l with h | h
 ·rw[h];decide
 ·exact h.1
theorem ZcM (l:List UInt8):(Zah l).2<=l.length:=by
 rcases ZbO l with h | h
 ·rw[h];exact Nat.zero_le _
 ·exact h.2.2.1
theorem Zay (l:List UInt8):Zab l=(0,0)∨((Zab l).1<4611686018427387904∧1<=(Zab l).2∧(Zab l).2<=l.length∧l.take (Zab l).2=Lib.uvarint (Zab l).1):=by
 unfold Zab;by_cases h:(Zah l).1<4611686018427387904
 ·rw[if_pos h]
  rcases ZbO l with e | e
  ·exact .inl e
  ·exact .inr ⟨h,e.2⟩
 ·rw[if_neg h]
  exact .inl rfl
theorem pow7 (k:Nat):2 ^ (7*k)=128 ^ k:=by rw[Nat.pow_mul]
theorem Zjb:∀ (n u j:Nat),(Lib.uvarint u).length<=n->j+1<(Lib.uvarint u).length->128<=((Lib.uvarint u).getD j 0).toNat
 | 0,u,_,h,_=>by have:=Lib.uvarint_pos u;omega
 | n+1,u,j,h,hj=>by
  by_cases a:u<128
  ·rw[Lib.uvarint_small a] at hj
   simp at hj
  ·rw[Lib.uvarint_big (by omega)] at h hj ⊢
   cases j with
   | zero=>
    have e:((u % 128+128).toUInt8).toNat=u % 128+128:=Lib.toUInt8_toNat (by omega)
    simp only [List.getD_cons_zero,e];omega
   | succ j=>
    simp only [length_cons] at h hj;simp only [List.getD_cons_succ];exact Zjb n (u / 128) j (by omega) (by omega)
def Rd (w:World) (v:Value) (l:List UInt8):Prop:=
 ∃ ao cap,v=.slice ao l.length cap∧l.length<=cap∧cap<=maxLen∧(ao=none->cap=0)∧
  (l=[]∨∃ b off,ao=some ⟨b,off,none⟩∧∀ j,j<l.length->w.cell? ⟨b,off+j,none⟩=some (.int .u8 (l.getD j 0).toNat))
def Own (w:World) (B:Nat) (v:Value) (l:List UInt8):Prop:=w.ownsRow B 5 1 v l.length (Lib.byteCells l)
theorem Zbi (l:List UInt8):(Lib.byteCells l).length=l.length:=by simp[Lib.byteCells]
theorem Zfh (l:List UInt8) (j:Nat) (h:j<l.length):(Lib.byteCells l)[j]?=some (.int .u8 (l.getD j 0).toNat):=by
 simp[Lib.byteCells,List.getD,h]
theorem ZdH (l:List UInt8):∀ u ∈ Lib.byteCells l,u.oneCell'=true:=by
 intro u a;obtain⟨_,_,rfl⟩:=List.mem_map.1 a;rfl
theorem Rd.nil (w:World):Rd w (.slice none 0 0) []:=⟨none,0,rfl,Nat.le_refl _,Nat.zero_le _,fun _=>rfl,.inl rfl⟩
theorem Rd.below {l:List UInt8} (h:Rd w v l) {B:Nat} (m:Below B w w') (f:w.heap.size<=B):Rd w' v l:=by
 obtain⟨ao,cap,u,n,i,q,a⟩:=h;refine⟨ao,cap,u,n,i,q,?_⟩;rcases a with a | ⟨b,c,t,k⟩
 ·exact .inl a
 ·refine .inr ⟨b,c,t,fun j e=>?_⟩
  have d:=k j e;have g:b<w.heap.size:=World.block_lt_of_cell? w ⟨b,c+j,none⟩ d;rw[m.cell (p:=⟨b,c+j,none⟩) (by exact Nat.lt_of_lt_of_le g f)]
  exact d
theorem Rd.at {e:Nat} {l:List UInt8} (h:Rd w (.slice (some ⟨b,e,none⟩) n cap) l) (j:Nat) (d:j<l.length):w.cell? ⟨b,e+j,none⟩=some (.int .u8 (l.getD j 0).toNat):=by
 obtain⟨ao,i,c,_,_,_,a⟩:=h;simp only [Value.slice.injEq] at c;obtain⟨rfl,_,rfl⟩:=c;rcases a with a | ⟨b',k,f,g⟩
 ·subst a
  simp at d
 ·simp only [Option.some.injEq,Addr.mk.injEq,and_true] at f
  obtain⟨rfl,rfl⟩:=f;exact g j d
theorem Rd.ofRow {a:List Int} (C:c<=cap) (t:cap<=maxLen) (A:a.length=cap) (g:∀ i,i<a.length->w.cell? (x.add i)=some (.int .u8 (a.getD i 0))) (u:∀ n ∈ a,(Lit.int .u8 n).wf=true):
 Rd w (.slice (some x) c cap) ((a.take c).map fun n=>UInt8.ofNat n.toNat):=by
 have m:((a.take c).map fun n=>UInt8.ofNat n.toNat).length=c:=by simp;omega
 refine⟨some x,cap,by rw[m],by omega,t,(fun e=>by cases e),?_⟩
 by_cases l:c=0
 ·exact .inl (by rw[l];rfl)
 ·obtain⟨b,k,spot⟩:=x
  have y:=g 0 (by omega)
  have p:spot=none:=by simpa[Addr.add] using World.cell?_spot y
  subst p;refine .inr ⟨b,k,rfl,fun j z=>?_⟩
  have d:j<a.length:=by omega
  have f:=g j d;rw[Addr.add_lit] at f;rw[f];have q:a[j] ∈ a:=getElem_mem d;have h:=u _ q;have B:0<=a[j]∧a[j]<=255:=by simpa[Lit.wf,IntKind.min,IntKind.max,IntKind.signed,IntKind.bits] using h
  have e:(((a.take c).map fun n=>UInt8.ofNat n.toNat).getD j 0)=UInt8.ofNat (a[j]).toNat:=by
   simp[List.getD,d,show j<c by omega]
  rw[e];have v:a.getD j 0=a[j]:=by simp[List.getD,d]
  rw[v,UInt8.toNat_ofNat']
  congr 2
  omega
theorem Own.rd {l:List UInt8} (h:Own w B v l):Rd w v l:=by
 rcases h.2 with ⟨a,b⟩ | ⟨g,cap,cur,a,n,k,d,f,m,i⟩
 ·exact⟨none,0,by rw[a,b],by omega,Nat.zero_le _,fun _=>rfl,.inl (List.eq_nil_of_length_eq_zero b)⟩
 ·refine⟨some ⟨g,0,none⟩,cap,a,d,f,(fun e=>by cases e),.inr ⟨g,0,rfl,fun j c=>?_⟩⟩
  have:=World.ownsRow.cells h (g:=g) (by rw[a];rfl) j _ (Zfh l j c)
  rw[Addr.add_lit] at this;exact this
theorem Own.mono {l:List UInt8} (h:Own w B v l) (d:B'<=B):Own w B' v l:=by
 obtain⟨c,a⟩:=h;refine⟨c,?_⟩;rcases a with a | ⟨g,cap,cur,b,e,r⟩
 ·exact .inl a
 ·exact .inr ⟨g,cap,cur,b,by omega,r⟩
theorem Own.below {l:List UInt8} (h:Own w B v l) (e:Below B' w w') (i:w.heap.size<=B'):Own w' B v l:=by
 obtain⟨f,a⟩:=h;refine⟨f,?_⟩;rcases a with a | ⟨g,cap,cur,c,d,b,r⟩
 ·exact .inl a
 ·have j:g<w.heap.size:=(Array.getElem?_eq_some_iff.1 b).1
  exact .inr ⟨g,cap,cur,c,d,by rw[e.block g (by omega)];exact b,r⟩
theorem Rd.cells {ao:Option Addr} {l:List UInt8} (h:l=[]∨∃ b d,ao=some ⟨b,d,none⟩∧∀ j,j<l.length->w.cell? ⟨b,d+j,none⟩=some (.int .u8 (l.getD j 0).toNat)):
 ∀ c,ao=some c->∀ j u,(Lib.byteCells l)[j]?=some u->w.cell? (c.add j)=some u:=by
 intro c f j u e
 have a:j<l.length:=by
  have:=(List.getElem?_eq_some_iff.1 e).1;simpa[Lib.byteCells] using this
 rcases h with rfl | ⟨b,d,g,i⟩
 ·simp at a
 ·rw[g] at f
  obtain rfl:=Option.some.inj f;rw[Addr.add_lit,i j a,<-Zfh l j a,e]
theorem Own.mk' {xs:List Value} {l:List UInt8} (h:w.ownsRow B 5 1 v n xs) (a:n=l.length) (b:xs=Lib.byteCells l):Own w B v l:=by
 subst a b;exact h
theorem ZnJ:(prog.info? 5).map (fun i=>(i.zero,i.size,i.bytes))=some (some (.int .u8 0),1,1):=by kernel_rfl
theorem Zfi {k:IntKind} {a b:Int} (h:a=b):Ending.returned (.int k a)=.returned (.int k b):=by rw[h]
theorem Zwg (n:Int) (d:-9223372036854775808<=n) (c:n<=9223372036854775807):
 bits .xor .u64 (IntKind.u64.wrap (IntKind.u64.wrap n*2)) (IntKind.u64.wrap (n / 9223372036854775808))=((Lib.zigzag n:Nat):Int):=by
 by_cases h:0<=n
 ·have b:IntKind.u64.wrap (IntKind.u64.wrap n*2)=(((2*n).toNat:Nat):Int):=by
   rw[IntKind.wrap_u64,IntKind.wrap_u64];omega
  have a:IntKind.u64.wrap (n / 9223372036854775808)=((0:Nat):Int):=by
   rw[IntKind.wrap_u64];omega
  rw[b,a,bits_xor_u64_nat _ _ (by omega) (by decide)]
  unfold Lib.zigzag;rw[if_pos h];simp
 ·have b:IntKind.u64.wrap (IntKind.u64.wrap n*2)=(((2*n+18446744073709551616).toNat:Nat):Int):=by
   rw[IntKind.wrap_u64,IntKind.wrap_u64];omega
  have a:IntKind.u64.wrap (n / 9223372036854775808)=((2 ^ 64-1:Nat):Int):=by
   rw[IntKind.wrap_u64];omega
  rw[b,a,bits_xor_u64_nat _ _ (by omega) (by decide),Nat.xor_comm,Lib.xor_ones64 _ (by omega)]
  unfold Lib.zigzag;rw[if_neg h];omega
def zag (u:Nat):Int:=if u % 2=0 then((u / 2:Nat):Int) else -((u / 2:Nat):Int)-1
theorem ZoU (x:Nat) (c:x<9223372036854775808):bits .xor .i64 (x:Int) (-1)=-(x:Int)-1:=by
 show IntKind.i64.wrap ((BitVec.ofInt 64 (x:Int) ^^^ BitVec.ofInt 64 (-1)).toNat:Int)=_;have b:(BitVec.ofInt 64 (-1)).toNat=2 ^ 64-1:=by decide
 have a:(BitVec.ofInt 64 (x:Int)).toNat=x:=by
  rw[BitVec.ofInt_natCast,BitVec.toNat_ofNat];exact Nat.mod_eq_of_lt (by omega)
 rw[BitVec.toNat_xor,b,a,Nat.xor_comm,Lib.xor_ones64 x (by omega),IntKind.wrap_i64]
 omega
theorem ZoV (x:Nat) (c:x<9223372036854775808):bits .xor .i64 (x:Int) 0=(x:Int):=by
 show IntKind.i64.wrap ((BitVec.ofInt 64 (x:Int) ^^^ BitVec.ofInt 64 0).toNat:Int)=_;have b:(BitVec.ofInt 64 0).toNat=0:=by decide
 have a:(BitVec.ofInt 64 (x:Int)).toNat=x:=by
  rw[BitVec.ofInt_natCast,BitVec.toNat_ofNat];exact Nat.mod_eq_of_lt (by omega)
 rw[BitVec.toNat_xor,b,a,Nat.xor_zero,IntKind.wrap_i64];omega
theorem Zwh (u:Nat) (h:u<18446744073709551616):
 bits .xor .i64 ((u:Int) / 2) (wrap64 (-wrap64 (bits .and .u64 (u:Int) 1)))=zag u:=by
 rw[Lib.u64_and1 _ (by omega) (by omega)]
 have e:(u:Int) / 2=((u / 2:Nat):Int):=by omega
 rw[e];unfold zag;by_cases b:u % 2=0
 ·have a:wrap64 (-wrap64 ((u:Int) % 2))=0:=by
   have:(u:Int) % 2=0:=by omega
   rw[this];unfold wrap64;omega
  rw[a,if_pos b,ZoV _ (by omega)]
 ·have a:wrap64 (-wrap64 ((u:Int) % 2))=-1:=by
   have:(u:Int) % 2=1:=by omega
   rw[this];unfold wrap64;omega
  rw[a,if_neg b,ZoU _ (by omega)]
theorem ZdU (n:Int) (b:-9223372036854775808<=n) (a:n<=9223372036854775807):zag (Lib.zigzag n)=n:=by
 unfold zag Lib.zigzag;split <;> split <;> omega
theorem ZeT (u:Nat):Lib.zigzag (zag u)=u:=by
 unfold zag Lib.zigzag;split <;> split <;> omega
theorem Zwi (u:Nat) (h:u<18446744073709551616):-9223372036854775808<=zag u∧zag u<=9223372036854775807:=by
 unfold zag;split <;> omega
theorem ZAt (n:Int) (w:World) (a:-9223372036854775808<=n) (b:n<=9223372036854775807):
 Calls prog 191 #[.int .i64 n] w fun e w'=>e=.returned (.int .u64 (Lib.zigzag n:Nat))∧w'=w:=by
 have H:Hid (bits .xor .u64 (IntKind.u64.wrap (IntKind.u64.wrap n*2)) (IntKind.u64.wrap (n / 9223372036854775808))=((Lib.zigzag n:Nat):Int)):=Zwg n a b
 go_enter func191,ntmps191
 go_wp2;go_ret;exact⟨Zfi H.out,rfl⟩
theorem ZAu (u:Nat) (w:World) (h:u<18446744073709551616):
 Calls prog 220 #[.int .u64 (u:Int)] w fun e w'=>e=.returned (.int .i64 (zag u))∧w'=w:=by
 have H:Hid (bits .xor .i64 ((u:Int) / 2) (wrap64 (-wrap64 (bits .and .u64 (u:Int) 1)))=zag u):=Zwh u h
 go_enter func220,ntmps220
 go_wp2;go_ret;exact⟨Zfi H.out,rfl⟩
theorem Zac (h:p):Hid p:=h
def I64 (n:Int):Prop:=-9223372036854775808<=n∧n<=9223372036854775807
def RdI (w:World) (v:Value) (l:List Int):Prop:=
 ∃ ao cap,v=.slice ao l.length cap∧l.length<=cap∧cap<=maxLen∧(ao=none->cap=0)∧(∀ n ∈ l,I64 n)∧
  (l=[]∨∃ b off,ao=some ⟨b,off,none⟩∧∀ j,j<l.length->w.cell? ⟨b,off+j,none⟩=some (.int .i64 (l.getD j 0)))
def Zal (l:List Int):List Value:=l.map (Value.int .i64)
def ZaB (w:World) (B:Nat) (v:Value) (l:List Int):Prop:=w.ownsRow B 3 1 v l.length (Zal l)
theorem Zbm (l:List Int):(Zal l).length=l.length:=by simp[Zal]
theorem Zbu (l:List Int) (j:Nat) (h:j<l.length):(Zal l)[j]?=some (.int .i64 (l.getD j 0)):=by
 simp[Zal,List.getD,h]
theorem ZoW (l:List Int):∀ u ∈ Zal l,u.oneCell'=true:=by
 intro u a;obtain⟨_,_,rfl⟩:=List.mem_map.1 a;rfl
theorem RdI.nil (w:World):RdI w (.slice none 0 0) []:=⟨none,0,rfl,Nat.le_refl _,Nat.zero_le _,fun _=>rfl,(fun n h=>by simp at h),.inl rfl⟩
theorem ZaB.nil (w:World) (B:Nat):ZaB w B (.slice none 0 0) []:=World.ownsRow_nil w B 3 1
theorem RdI.i64 (h:RdI w v l):∀ n ∈ l,I64 n:=by
 obtain⟨_,_,_,_,_,_,h,_⟩:=h;exact h
theorem ZyH (h:∀ n ∈ l,I64 n) (j:Nat):I64 (l.getD j 0):=by
 by_cases a:j<l.length
 ·have e:l.getD j 0=l[j]:=by simp[List.getD,a]
  rw[e];exact h _ (getElem_mem a)
 ·have e:l.getD j 0=0:=by simp[List.getD,a]
  rw[e];exact⟨by decide,by decide⟩
theorem RdI.below (h:RdI w v l) {B:Nat} (n:Below B w w') (f:w.heap.size<=B):RdI w' v l:=by
 obtain⟨ao,cap,x,q,i,t,k,a⟩:=h;refine⟨ao,cap,x,q,i,t,k,?_⟩;rcases a with a | ⟨b,c,u,m⟩
 ·exact .inl a
 ·refine .inr ⟨b,c,u,fun j e=>?_⟩
  have d:=m j e;have g:b<w.heap.size:=World.block_lt_of_cell? w ⟨b,c+j,none⟩ d;rw[n.cell (p:=⟨b,c+j,none⟩) (by exact Nat.lt_of_lt_of_le g f)]
  exact d
theorem RdI.ofRow {a:Nat} {c:List Int} (z:a<=cap) (m:cap<=maxLen) (y:c.length=cap) (f:∀ i,i<c.length->w.cell? (x.add i)=some (.int .i64 (c.getD i 0))) (q:∀ n ∈ c,(Lit.int .i64 n).wf=true):
 RdI w (.slice (some x) a cap) (c.take a):=by
 have k:(c.take a).length=a:=by simp;omega
 refine⟨some x,cap,by rw[k],by omega,m,(fun e=>by cases e),fun n p=>?_,?_⟩
 ·have:=q n (List.mem_of_mem_take p)
  simpa[I64,Lit.wf,IntKind.min,IntKind.max,IntKind.signed,IntKind.bits] using this
 ·by_cases h:a=0
  ·exact .inl (by rw[h];rfl)
  ·obtain⟨b,g,spot⟩:=x
   have t:=f 0 (by omega)
   have l:spot=none:=by simpa[Addr.add] using World.cell?_spot t
   subst l;refine .inr ⟨b,g,rfl,fun j v=>?_⟩
   have d:=f j (by omega)
   rw[Addr.add_lit] at d;rw[d];have u:j<a:=by omega
   simp[List.getD,u]
theorem ZaB.rd (h:ZaB w B v l) (b:∀ n ∈ l,I64 n):RdI w v l:=by
 rcases h.2 with ⟨a,c⟩ | ⟨g,cap,cur,a,q,m,f,i,p,k⟩
 ·exact⟨none,0,by rw[a,c],by omega,Nat.zero_le _,fun _=>rfl,b,.inl (List.eq_nil_of_length_eq_zero c)⟩
 ·refine⟨some ⟨g,0,none⟩,cap,a,f,i,(fun e=>by cases e),b,.inr ⟨g,0,rfl,fun j d=>?_⟩⟩
  have:=World.ownsRow.cells h (g:=g) (by rw[a];rfl) j _ (Zbu l j d)
  rw[Addr.add_lit] at this;exact this
theorem ZaB.mono (h:ZaB w B v l) (d:B'<=B):ZaB w B' v l:=by
 obtain⟨c,a⟩:=h;refine⟨c,?_⟩;rcases a with a | ⟨g,cap,cur,b,e,r⟩
 ·exact .inl a
 ·exact .inr ⟨g,cap,cur,b,by omega,r⟩
theorem ZaB.below (h:ZaB w B v l) (e:Below B' w w') (i:w.heap.size<=B'):ZaB w' B v l:=by
 obtain⟨f,a⟩:=h;refine⟨f,?_⟩;rcases a with a | ⟨g,cap,cur,c,d,b,r⟩
 ·exact .inl a
 ·have j:g<w.heap.size:=(Array.getElem?_eq_some_iff.1 b).1
  exact .inr ⟨g,cap,cur,c,d,by rw[e.block g (by omega)];exact b,r⟩
theorem ZnK:(prog.info? 3).map (fun i=>(i.zero,i.size,i.bytes))=some (some (.int .i64 0),1,8):=by kernel_rfl
theorem Zml (w:World) (ty:TypeId) (B:Nat) (v:Value) (l:List Int) (h:ZaB w B v l) (n:Int) (z:l.length<=1000000) (i:B<=w.heap.size):
 ∃ v' w',(Builtin.append_ #[23,23] ty #[v,.slice (some ⟨w.heap.size,0,none⟩) 1 1]).run prog (w.alloc (.cells #[.int .i64 n] 3))=.ok v' w'∧ZaB w' B v' (l++[n])∧Below B w w':=by
 obtain⟨q,p,y,c,e⟩:=info_parts ZnK
 obtain⟨v',w',g,x,d,_⟩:=run_append_own (P:=prog) (w.alloc (.cells #[.int .i64 n] 3)) B 23 ty 3 q (.int .i64 0) 1 8 underlying23 p y c e rfl (by decide) v l.length (Zal l) (World.ownsRow.alloc h _)
  ⟨w.heap.size,0,none⟩ 1 1 [.int .i64 n] rfl (fun j u a=>by
   match j,a with
   | 0,a=>simp at a;subst a;simp[Addr.add]) (fun u b=>by simp at b;subst b;rfl) (by unfold maxLen;omega) (by omega) (by simp;omega)
 refine⟨v',w',g,?_,?_⟩
 ·unfold ZaB
  have m:(l++[n]).length=l.length+1:=by simp
  have t:Zal (l++[n])=Zal l++[.int .i64 n]:=by simp[Zal]
  rw[m,t];exact x
 ·exact((Below.refl _ _).alloc i _).grown d (by simp;omega) (fun k f=>(World.ownsRow.lt h k f).1)
theorem Zio (w:World) {b:Array Oper} {rest:List Oper} {o:Oper} {a:Act} {Q:Exit->Act->World->Prop} (m:o.guard=none) (s x:Operand)
 (q:o.op=.call { callee:=.builtin .append,args:=#[s,x],argTypes:=#[23,23] })
 (B:Nat) (v:Value) (l:List Int) (e:a.eval s=v) (p:ZaB w B v l) (n:Int) (i:a.eval x=.slice (some ⟨w.heap.size,0,none⟩) 1 1)
 (c:l.length<=1000000) (j:B<=w.heap.size)
 (h:∀ v' w',ZaB w' B v' (l++[n])->Below B w w'->wpList prog b Q rest (a.put o.dst v') w'):wpList prog b Q (o::rest) a (w.alloc (.cells #[.int .i64 n] 3)):=
 wpList_plain m fun _ d=>by
  obtain⟨v',w',g,k,f⟩:=Zml w o.type B v l p n c j;unfold Oper.wp execOp;simp only [q,resolve,invoke,builtin,Sem.run_bind,Sem.run_pure,Result.andThen_ok,List.map_toArray,map_cons,map_nil,e,i,g];exact d _ _ (h v' w' k f)
def ZeG (n:Int):Int:=if n < -1099511627776 then -1099511627776 else if 1099511627776<n then 1099511627776 else n
theorem Zfj (n:Int):-1099511627776<=ZeG n∧ZeG n<=1099511627776:=by
 unfold ZeG;split
 ·omega
 ·split <;> omega
structure St where
 kind:Int
 L:List Int
 shut:Bool
 eng:Int
structure Opn where
 code:Int
 a:Int
 b:Int
def Zkh (least:Int) (l:List Int) (k:Nat):Prop:=
 0<=l.getD k 0∧l.getD k 0<=255∧(0<k->l.getD (k-2) 0<l.getD k 0)∧least<=l.getD (k+1) 0∧l.getD (k+1) 0<=1099511627776
instance (least:Int) (l:List Int) (k:Nat):Decidable (Zkh least l k):=by unfold Zkh;infer_instance
def Zdh (least:Int) (l:List Int):Prop:=l.length % 2=0∧l.length<=128∧∀ k,k<l.length->k % 2=0->Zkh least l k
instance (least:Int) (l:List Int):Decidable (Zdh least l):=by unfold Zdh;infer_instance
def ZcN (l:List Int):Prop:=∀ j,j<l.length->-1099511627776<=l.getD j 0∧l.getD j 0<=1099511627776
instance (l:List Int):Decidable (ZcN l):=by unfold ZcN;infer_instance
def ZbH (kind:Int) (l:List Int):Prop:=
 if kind=4 then Zdh (-1099511627776) l else if kind=5 then Zdh 0 l else l.length<=64∧(kind<=1->l.length=1)∧ZcN l
instance (kind:Int) (l:List Int):Decidable (ZbH kind l):=by unfold ZbH;infer_instance
def ZcD (s:St):Prop:=0<=s.eng∧s.eng<=2∧(s.shut=false->s.eng=0)∧0<=s.kind∧s.kind<6∧ZbH s.kind s.L
instance (s:St):Decidable (ZcD s):=by unfold ZcD;infer_instance
def Zdy (o:Opn):Prop:=0<=o.code∧o.code<=10∧-1099511627776<=o.a∧o.a<=1099511627776∧-1099511627776<=o.b∧o.b<=1099511627776
instance (o:Opn):Decidable (Zdy o):=by unfold Zdy;infer_instance
def Zdd (kind:Int):St:=if kind<0∨6<=kind then⟨0,[],false,0⟩ else⟨kind,if kind<=1 then[0] else[],false,0⟩
def Zdr (key:Int):Nat->List Int->Int
 | k,a::_::r=>if a=key then(k:Int) else Zdr key (k+2) r
 | _,_=>-1
def ZaO (key n:Int):Bool->List Int->List Int
 | done,a::b::r=>(if done=false∧key<=a then[key,n] else[])++((if a≠key then[a,b] else[])++ZaO key n (done || decide (key<=a)) r)
 | done,_=>if done then[] else[key,n]
def Zbe (key:Int):List Int->List Int
 | a::b::r=>(if a≠key then[a,b] else[])++Zbe key r
 | _=>[]
theorem Zwj (l:List Int) (k:Nat) (h:k+1<l.length):l.drop k=l.getD k 0::l.getD (k+1) 0::l.drop (k+2):=by
 rw[List.drop_eq_getElem_cons (show k<l.length by omega),List.drop_eq_getElem_cons h]
 simp[List.getD,h,show k<l.length by omega]
theorem Zjc (key n:Int):∀ (l:List Int) (done:Bool),(ZaO key n done l).length<=l.length+2
 | [],done=>by unfold ZaO;split <;> simp
 | [a],done=>by unfold ZaO;split <;> simp
 | a::b::r,done=>by
  have d:=Zjc key n r (done || decide (key<=a));unfold ZaO
  have f:(if done=false∧key<=a then[key,n] else([]:List Int)).length+(ZaO key n (done || decide (key<=a)) r).length<=r.length+2:=by
   by_cases h:done=false∧key<=a
   ·rw[if_pos h]
    have e:(done || decide (key<=a))=true:=by simp[h.2]
    rw[e];have c:=withF_true key n r;simp;omega
   ·rw[if_neg h]
    simpa using d
  have c:(if a≠key then[a,b] else([]:List Int)).length<=2:=by split <;> simp
  simp only [length_append,length_cons];omega
where
 withF_true (key n:Int):∀ (l:List Int),(ZaO key n true l).length<=l.length
 | []=>by simp[ZaO]
 | [a]=>by simp[ZaO]
 | a::b::r=>by
  have ih:=withF_true key n r;unfold ZaO;simp only [Bool.true_or];split <;> split <;> simp_all <;> omega
def Zhn (s:St) (o:Opn):St × Int:=
 if s.kind=0∧o.code=1 then(⟨s.kind,[ZeG (s.L.getD 0 0+ZeG o.a)],s.shut,s.eng⟩,s.L.getD 0 0) else
 if s.kind=1∧o.code=2 then(⟨s.kind,[ZeG o.a],s.shut,s.eng⟩,s.L.getD 0 0) else
 if o.code=7 then(s,s.L.getD 0 0) else(s,0)
def Zcr (s:St) (o:Opn):St × Int:=
 if o.code=3 then(if s.L.length=64 then(s,-1) else(⟨s.kind,s.L++[ZeG o.a],s.shut,s.eng⟩,(s.L.length:Int)+1)) else
 if o.code=4 then(if s.L.length=0 then(s,-1) else if s.kind=2 then(⟨s.kind,s.L.drop 1,s.shut,s.eng⟩,s.L.getD 0 0) else(⟨s.kind,s.L.take (s.L.length-1),s.shut,s.eng⟩,s.L.getD (s.L.length-1) 0)) else
 if o.code=7 then(s,(s.L.length:Int)) else(s,0)
def ZtS (key:Int) (l:List Int):Int:=if 0<=Zdr key 0 l then l.getD ((Zdr key 0 l).toNat+1) 0 else -1
def ZfF (s:St) (o:Opn):St × Int:=
 if o.code≠7∧o.code≠6∧o.code≠5 then(s,0) else
 if o.a<0∨255<o.a then(s,-1) else
 if o.code=6 then(⟨s.kind,Zbe o.a s.L,s.shut,s.eng⟩,ZtS o.a s.L) else
 if o.code=5 then(if Zdr o.a 0 s.L<0∧s.L.length=128 then(s,-2) else(⟨s.kind,ZaO o.a (ZeG o.b) false s.L,s.shut,s.eng⟩,ZtS o.a s.L)) else
 (s,ZtS o.a s.L)
def Zde (key:Int) (l:List Int):Int:=if 0<=Zdr key 0 l then l.getD ((Zdr key 0 l).toNat+1) 0 else 0
def Zep (s:St) (o:Opn):St × Int:=
 if o.a<0∨65535<o.a∨o.b<0 then(s,0) else
 if Zdr (o.a / 256) 0 s.L<0∨Zde (o.a / 256) s.L<o.b then(s,0) else
 if o.a / 256=o.a % 256 then(s,1) else
 if(Zdr (o.a % 256) 0 s.L<0∧s.L.length=128)∨1099511627776<Zde (o.a % 256) s.L+o.b then(s,0) else
 (⟨s.kind,ZaO (o.a % 256) (Zde (o.a % 256) s.L+o.b) false (ZaO (o.a / 256) (Zde (o.a / 256) s.L-o.b) false s.L),s.shut,s.eng⟩,1)
def ZaZ (s:St) (o:Opn):St × Int:=
 if o.code=9 then Zep s o else
 if o.code≠7∧o.code≠8 then(s,0) else
 if o.a<0∨255<o.a then(s,-1) else
 if o.code=7 then(s,ZtS o.a s.L) else
 if o.b<0 then(s,-1) else
 if Zdr o.a 0 s.L<0∧s.L.length=128 then(s,-2) else
 (⟨s.kind,ZaO o.a (ZeG (Zde o.a s.L+ZeG o.b)) false s.L,s.shut,s.eng⟩,ZeG (Zde o.a s.L+ZeG o.b))
def ZfO (s:St) (o:Opn):St × Int:=
 if ¬ ZcD s then(s,0) else
 if s.shut=true then(s,-1125899906842624) else
 if o.code=10 then(⟨s.kind,s.L,true,if 0<=o.a∧o.a<=2 then o.a else s.eng⟩,0) else
 if s.kind<=1 then Zhn s o else if s.kind<=3 then Zcr s o else if s.kind=4 then ZfF s o else ZaZ s o
def Zat (least:Int):Int->List Int->Prop
 | lo,a::b::r=>lo<a∧a<=255∧least<=b∧b<=1099511627776∧Zat least a r
 | _,[]=>True
 | _,[_]=>False
def Zht (least lo:Int) (l:List Int) (k:Nat):Prop:=
 (if k=0 then lo else l.getD (k-2) 0)<l.getD k 0∧l.getD k 0<=255∧least<=l.getD (k+1) 0∧l.getD (k+1) 0<=1099511627776
theorem Zhu (least lo a b:Int) (r:List Int) (k:Nat) (d:k % 2=0):Zht least lo (a::b::r) (k+2)↔Zht least a r k:=by
 unfold Zht;rw[if_neg (by omega)]
 by_cases c:k=0
 ·subst c
  rw[if_pos rfl];exact Iff.rfl
 ·rw[if_neg c]
  obtain⟨j,rfl⟩:∃ j,k=j+2:=⟨k-2,by omega⟩
  exact Iff.rfl
theorem Zgp (least:Int):∀ (l:List Int) (lo:Int),Zat least lo l↔l.length % 2=0∧∀ k,k<l.length->k % 2=0->Zht least lo l k
 | [],lo=>by simp[Zat]
 | [a],lo=>by simp[Zat]
 | a::b::r,lo=>by
  have f:=Zgp least r a;unfold Zat;rw[f];constructor
  ·rintro⟨h1,h2,h3,h4,h5,h6⟩
   refine⟨by simp;omega,fun k d e=>?_⟩
   by_cases c:k=0
   ·subst c
    exact⟨by rw[if_pos rfl];exact h1,h2,h3,h4⟩
   ·obtain⟨j,rfl⟩:∃ j,k=j+2:=⟨k-2,by omega⟩
    rw[Zhu least lo a b r j (by omega)]
    exact h6 j (by simp at d;omega) (by omega)
  ·rintro⟨h1,h2⟩
   have c:=h2 0 (by simp) rfl
   unfold Zht at c;rw[if_pos rfl] at c;refine⟨c.1,c.2.1,c.2.2.1,c.2.2.2,by simp at h1;omega,fun k d e=>?_⟩
   rw[<-Zhu least lo a b r k e];exact h2 (k+2) (by simp;omega) (by omega)
theorem Zki (least:Int):∀ (l:List Int) (lo:Int) (k:Nat),Zat least lo l->k<l.length->k % 2=0->lo<l.getD k 0
 | [],_,_,_,hk,_=>by simp at hk
 | [a],_,_,h,_,_=>by simp[Zat] at h
 | a::b::r,lo,k,h,hk,hk2=>by
  unfold Zat at h;by_cases c:k=0
  ·subst c
   exact h.1
  ·obtain⟨j,rfl⟩:∃ j,k=j+2:=⟨k-2,by omega⟩
   have:=Zki least r a j h.2.2.2.2 (by simp at hk;omega) (by omega)
   have e:(a::b::r).getD (j+2) 0=r.getD j 0:=rfl;rw[e];have:=h.1;omega
theorem Zkj (least:Int) (l:List Int):Zdh least l↔l.length<=128∧Zat least (-1) l:=by
 constructor
 ·rintro⟨h1,h2,a⟩
  refine⟨h2,(Zgp least l (-1)).2 ⟨h1,fun k c b=>?_⟩⟩
  obtain⟨i,d,f,e,g⟩:=a k c b;refine⟨?_,d,e,g⟩;split
  ·omega
  ·exact f (by omega)
 ·rintro⟨h1,h2⟩
  have a:=(Zgp least l (-1)).1 h2;refine⟨a.1,h1,fun k c b=>?_⟩
  obtain⟨i,d,f,e⟩:=a.2 k c b;have g:=Zki least l (-1) k h2 c b;refine⟨by omega,d,fun h=>?_,f,e⟩
  rwa [if_neg (by omega)] at i
theorem ZeU (h:Zat least lo l):l.length % 2=0:=((Zgp least l lo).1 h).1
def Zcp (key:Int):List Int->Option Int
 | a::b::r=>if a=key then some b else Zcp key r
 | _=>none
theorem Zcw (key a b:Int) (r:List Int):Zcp key (a::b::r)=if a=key then some b else Zcp key r:=rfl
theorem Zhv (key:Int):∀ (l:List Int) (k:Nat),(Zdr key k l=-1∧Zcp key l=none)∨(∃ j,Zdr key k l=((k+j:Nat):Int)∧j+1<l.length∧Zcp key l=some (l.getD (j+1) 0)∧l.getD j 0=key)
 | [],_=>.inl ⟨rfl,rfl⟩
 | [_],_=>.inl ⟨rfl,rfl⟩
 | a::b::r,k=>by
  by_cases h:a=key
  ·right
   refine⟨0,by unfold Zdr;rw[if_pos h];rfl,by simp,by unfold Zcp;rw[if_pos h];rfl,h⟩
  ·rcases Zhv key r (k+2) with ⟨c,d⟩ | ⟨j,c,d,e,f⟩
   ·left
    exact⟨by unfold Zdr;rw[if_neg h];exact c,by unfold Zcp;rw[if_neg h];exact d⟩
   ·right
    refine⟨j+2,?_,by simp;omega,?_,f⟩
    ·unfold Zdr
     rw[if_neg h,c]
     congr 1
     omega
    ·unfold Zcp
     rw[if_neg h,e];rfl
theorem Zhw (key:Int) (l:List Int):Zdr key 0 l<0↔Zcp key l=none:=by
 rcases Zhv key l 0 with ⟨a,b⟩ | ⟨j,a,b,c,d⟩
 ·rw[a,b]
  simp
 ·rw[a,c]
  simp
theorem Zra (key:Int) (l:List Int):ZtS key l=(Zcp key l).getD (-1):=by
 unfold ZtS;rcases Zhv key l 0 with ⟨a,b⟩ | ⟨j,a,b,c,d⟩
 ·rw[a,b,if_neg (by omega)]
  rfl
 ·rw[a,c,if_pos (by omega)]
  simp
theorem Zkk (key:Int) (l:List Int):Zde key l=(Zcp key l).getD 0:=by
 unfold Zde;rcases Zhv key l 0 with ⟨a,b⟩ | ⟨j,a,b,c,d⟩
 ·rw[a,b,if_neg (by omega)]
  rfl
 ·rw[a,c,if_pos (by omega)]
  simp
theorem ZdV:∀ {l:List Int} {lo:Int},Zat least lo l->key<=lo->Zcp key l=none
 | [],_,_,_=>rfl
 | [_],_,h,_=>by simp[Zat] at h
 | a::b::r,lo,h,hk=>by
  unfold Zat at h;unfold Zcp;rw[if_neg (by omega)]
  exact ZdV h.2.2.2.2 (by omega)
theorem ZnL {v:Int}:∀ {l:List Int} {lo:Int},Zat least lo l->Zcp key l=some v->lo<key∧key<=255∧least<=v∧v<=1099511627776
 | [],_,_,h=>by simp[Zcp] at h
 | [_],_,h,_=>by simp[Zat] at h
 | a::b::r,lo,h,hg=>by
  unfold Zat at h;unfold Zcp at hg;by_cases e:a=key
  ·rw[if_pos e] at hg
   injection hg with hg
   omega
  ·rw[if_neg e] at hg
   have:=ZnL h.2.2.2.2 hg;omega
theorem Zip (key n least:Int):∀ (l:List Int) (lo:Int),Zat least lo l->key<=lo->ZaO key n true l=l
 | [],_,_,_=>rfl
 | [_],_,h,_=>by simp[Zat] at h
 | a::b::r,lo,h,hk=>by
  unfold Zat at h;unfold ZaO;rw[if_neg (by simp),if_pos (by omega),Bool.true_or,Zip key n least r a h.2.2.2.2 (by omega)]
  rfl
theorem ZdW (key n least a b:Int) (r:List Int) (lo:Int) (h:Zat least lo (a::b::r)):
 ZaO key n false (a::b::r)=if key<a then key::n::a::b::r else if key=a then key::n::r else a::b::ZaO key n false r:=by
 unfold Zat at h
 conv=>lhs;unfold ZaO
 by_cases d:key<a
 ·rw[if_pos d,if_pos ⟨rfl,by omega⟩,if_pos (by omega),decide_eq_true (by omega),Bool.false_or,Zip key n least r a h.2.2.2.2 (by omega)]
  rfl
 ·rw[if_neg d]
  by_cases c:key=a
  ·rw[if_pos c,if_pos ⟨rfl,by omega⟩,if_neg (by omega),decide_eq_true (by omega),Bool.false_or,Zip key n least r a h.2.2.2.2 (by omega)]
   rfl
  ·rw[if_neg c,if_neg (by omega),if_pos (by omega),decide_eq_false (by omega),Bool.false_or]
   rfl
theorem Zeb (key n least:Int) (d:least<=n) (c:n<=1099511627776) (f:key<=255):∀ (l:List Int) (lo:Int),Zat least lo l->lo<key->Zat least lo (ZaO key n false l)
 | [],lo,_,hlo=>by
  simp[ZaO,Zat];omega
 | [_],_,h,_=>by simp[Zat] at h
 | a::b::r,lo,h,hlo=>by
  have g:=Zeb key n least d c f r a;rw[ZdW key n least a b r lo h];unfold Zat at h;split
  ·unfold Zat
   refine⟨hlo,f,d,c,?_⟩;unfold Zat;exact⟨by assumption,h.2⟩
  ·split
   ·rename_i e
    subst e;unfold Zat;exact⟨hlo,f,d,c,h.2.2.2.2⟩
   ·unfold Zat
    exact⟨h.1,h.2.1,h.2.2.1,h.2.2.2.1,g h.2.2.2.2 (by omega)⟩
theorem Zhx (key n least:Int):∀ (l:List Int) (lo:Int),Zat least lo l->(ZaO key n false l).length=if Zcp key l=none then l.length+2 else l.length
 | [],lo,_=>by simp[ZaO,Zcp]
 | [_],_,h=>by simp[Zat] at h
 | a::b::r,lo,h=>by
  have g:=Zhx key n least r a;rw[ZdW key n least a b r lo h];unfold Zat at h;by_cases f:key<a
  ·have e:Zcp key (a::b::r)=none:=by rw[Zcw,if_neg (by omega),ZdV h.2.2.2.2 (by omega)]
   rw[if_pos f,if_pos e];simp
  ·rw[if_neg f]
   by_cases d:key=a
   ·have e:Zcp key (a::b::r)≠none:=by rw[Zcw,if_pos d.symm];simp
    rw[if_pos d,if_neg e];simp
   ·have e:Zcp key (a::b::r)=Zcp key r:=by rw[Zcw,if_neg (by omega)]
    rw[if_neg d,e];have:=g h.2.2.2.2;simp only [length_cons,this];by_cases c:Zcp key r=none
    ·rw[if_pos c,if_pos c]
    ·rw[if_neg c,if_neg c]
theorem ZoX (key n least:Int):∀ (l:List Int) (lo:Int),Zat least lo l->∀ k,Zcp k (ZaO key n false l)=if k=key then some n else Zcp k l
 | [],lo,_,k=>by
  simp[ZaO,Zcp,eq_comm]
 | [_],_,h,_=>by simp[Zat] at h
 | a::b::r,lo,h,k=>by
  have d:=ZoX key n least r a;rw[ZdW key n least a b r lo h];unfold Zat at h;by_cases f:key<a
  ·rw[if_pos f]
   by_cases e:k=key
   ·subst e
    rw[if_pos rfl,Zcp,if_pos rfl]
   ·rw[if_neg e,Zcp,if_neg (by omega)]
  ·rw[if_neg f]
   by_cases c:key=a
   ·rw[if_pos c]
    subst c;by_cases e:k=key
    ·subst e
     rw[if_pos rfl,Zcp,if_pos rfl]
    ·rw[if_neg e,Zcp,if_neg (by omega),Zcp,if_neg (by omega)]
   ·rw[if_neg c]
    by_cases e:k=key
    ·subst e
     rw[if_pos rfl,Zcp,if_neg (by omega),d h.2.2.2.2 k,if_pos rfl]
    ·rw[if_neg e,Zcp]
     conv=>rhs;rw[Zcp]
     rw[d h.2.2.2.2 k,if_neg e]
theorem ZcO (key a b:Int) (r:List Int):Zbe key (a::b::r)=if a≠key then a::b::Zbe key r else Zbe key r:=by
 rw[Zbe];split <;> rfl
theorem ZgC (key least:Int):∀ (l:List Int) (lo:Int),Zat least lo l->Zat least lo (Zbe key l)
 | [],_,_=>by simp[Zbe,Zat]
 | [_],_,h=>by simp[Zat] at h
 | a::b::r,lo,h=>by
  have c:=ZgC key least r;rw[ZcO];unfold Zat at h;split
  ·unfold Zat
   exact⟨h.1,h.2.1,h.2.2.1,h.2.2.2.1,c a h.2.2.2.2⟩
  ·exact lower (c a h.2.2.2.2) (by omega)
where
 lower {least lo lo':Int}:∀ {l:List Int},Zat least lo l->lo'<=lo->Zat least lo' l
 | [],_,_=>trivial
 | [_],h,_=>by simp[Zat] at h
 | a::b::r,h,hl=>by
  unfold Zat at h ⊢;exact⟨by omega,h.2⟩
theorem ZfP (key:Int):∀ (l:List Int),(Zbe key l).length<=l.length
 | []=>by simp[Zbe]
 | [_]=>by simp[Zbe]
 | a::b::r=>by
  have c:=ZfP key r;rw[ZcO];split <;> simp <;> omega
def ZvZ:List Int->Int
 | _::b::r=>b+ZvZ r
 | _=>0
theorem Zkl (key n least:Int):∀ (l:List Int) (lo:Int),Zat least lo l->ZvZ (ZaO key n false l)=ZvZ l+n-(Zcp key l).getD 0
 | [],lo,_=>by simp[ZaO,Zcp,ZvZ]
 | [_],_,h=>by simp[Zat] at h
 | a::b::r,lo,h=>by
  have e:=Zkl key n least r a;rw[ZdW key n least a b r lo h];unfold Zat at h;by_cases d:key<a
  ·rw[if_pos d,Zcp,if_neg (by omega),ZdV h.2.2.2.2 (by omega)]
   simp[ZvZ];omega
  ·rw[if_neg d]
   by_cases c:key=a
   ·rw[if_pos c,Zcp,if_pos c.symm]
    simp[ZvZ];omega
   ·rw[if_neg c,Zcp,if_neg (by omega),ZvZ,e h.2.2.2.2]
    simp[ZvZ];omega
theorem Zcb (l:List Int):ZcN l↔∀ x ∈ l,-1099511627776<=x∧x<=1099511627776:=by
 unfold ZcN;constructor
 ·intro h x b
  obtain⟨j,a,rfl⟩:=List.getElem_of_mem b;have:=h j a;simpa[List.getD,a] using this
 ·intro h j a
  have:=h l[j] (getElem_mem a);simpa[List.getD,a] using this
theorem ZaU (b:kind≠4) (a:kind≠5):ZbH kind l↔l.length<=64∧(kind<=1->l.length=1)∧ZcN l:=by
 unfold ZbH;rw[if_neg b,if_neg a]
theorem Zeu (l:List Int):ZbH 4 l↔l.length<=128∧Zat (-1099511627776) (-1) l:=by
 unfold ZbH;rw[if_pos rfl];exact Zkj _ _
theorem ZdI (l:List Int):ZbH 5 l↔l.length<=128∧Zat 0 (-1) l:=by
 unfold ZbH;rw[if_neg (by decide),if_pos rfl]
 exact Zkj _ _
theorem ZdJ {s:St} (h:ZcD s) {L:List Int} (a:ZbH s.kind L):ZcD ⟨s.kind,L,s.shut,s.eng⟩:=
 ⟨h.1,h.2.1,h.2.2.1,h.2.2.2.1,h.2.2.2.2.1,a⟩
theorem ZAv {s:St} (h:ZcD s) (c:s.kind<=1) (o:Opn):ZcD (Zhn s o).1:=by
 have b:=h.2.2.2.1;have one:∀ x:Int,ZbH s.kind [ZeG x]:=fun x=>(ZaU (by omega) (by omega)).2 ⟨by simp,fun _=>rfl,(Zcb _).2 (fun y a=>by rw[List.mem_singleton.1 a];exact Zfj x)⟩
 unfold Zhn;split
 ·exact ZdJ h (one _)
 split
 ·exact ZdJ h (one _)
 split
 ·exact h
 ·exact h
theorem ZyI {s:St} (h:ZcD s) (c:¬ s.kind<=1) (d:s.kind<=3) (o:Opn):ZcD (Zcr s o).1:=by
 have a:=(ZaU (by omega) (by omega)).1 h.2.2.2.2.2
 have b:=(Zcb _).1 a.2.2;unfold Zcr;split
 ·split
  ·exact h
  ·refine ZdJ h ((ZaU (by omega) (by omega)).2 ⟨?_,fun e=>absurd e c,(Zcb _).2 fun x hx=>?_⟩)
   ·have:=a.1
    simp;omega
   ·rcases List.mem_append.1 hx with hx | hx
    ·exact b x hx
    ·rw[List.mem_singleton.1 hx];exact Zfj _
 split
 ·split
  ·exact h
  split
  ·refine ZdJ h ((ZaU (by omega) (by omega)).2 ⟨?_,fun e=>absurd e c,(Zcb _).2 fun x hx=>b x (List.mem_of_mem_drop hx)⟩)
   have:=a.1;simp;omega
  ·refine ZdJ h ((ZaU (by omega) (by omega)).2 ⟨?_,fun e=>absurd e c,(Zcb _).2 fun x hx=>b x (List.mem_of_mem_take hx)⟩)
   have:=a.1;simp;omega
 split
 ·exact h
 ·exact h
theorem Zwk (c:l.length<=128) (a:Zat least (-1) l) {key n:Int} (i:0<=key) (f:key<=255) (g:least<=n) (d:n<=1099511627776) (b:¬ (Zdr key 0 l<0∧l.length=128)):
 (ZaO key n false l).length<=128∧Zat least (-1) (ZaO key n false l):=by
 refine⟨?_,Zeb key n least g d f l (-1) a (by omega)⟩
 rw[Zhx key n least l (-1) a];have j:=ZeU a;rw[Zhw] at b;split
 ·rename_i h
  have:l.length≠128:=fun e=>b ⟨h,e⟩
  omega
 ·exact c
theorem Zwl {s:St} (h:ZcD s) (c:s.kind=4) (o:Opn):ZcD (ZfF s o).1:=by
 have b:=h.2.2.2.2.2;rw[c,Zeu] at b;unfold ZfF;split
 ·exact h
 split
 ·exact h
 split
 ·refine ZdJ h ?_
  rw[c,Zeu];refine⟨?_,ZgC _ _ _ _ b.2⟩;have:=ZfP o.a s.L;omega
 split
 ·split
  ·exact h
  ·refine ZdJ h ?_
   rw[c,Zeu];exact Zwk b.1 b.2 (by omega) (by omega) (Zfj _).1 (Zfj _).2 (by assumption)
 ·exact h
theorem ZdX (a:Zat 0 (-1) l) (key:Int):0<=Zde key l∧Zde key l<=1099511627776:=by
 rw[Zkk]
 cases h:Zcp key l with
 | none=>simp
 | some v=>
  have:=ZnL a h;exact⟨this.2.2.1,this.2.2.2⟩
theorem ZtT (v:l.length<=128) (d:Zat 0 (-1) l) (a c b:Int) (D:0<=a) (q:a<=255) (y:0<=c) (u:c<=255) (A:0<=b) (k:¬ (Zdr a 0 l<0∨Zde a l<b)) (p:¬ a=c)
 (m:¬ ((Zdr c 0 l<0∧l.length=128)∨1099511627776<Zde c l+b)):
 (ZaO c (Zde c l+b) false (ZaO a (Zde a l-b) false l)).length<=128∧
 Zat 0 (-1) (ZaO c (Zde c l+b) false (ZaO a (Zde a l-b) false l))∧
 ZvZ (ZaO c (Zde c l+b) false (ZaO a (Zde a l-b) false l))=ZvZ l:=by
 have B:=ZdX d a;have z:=ZdX d c;have n:Zcp a l≠none:=fun e=>k (.inl ((Zhw _ _).2 e))
 have C:¬ Zde a l<b:=fun e=>k (.inr e)
 have f:Zat 0 (-1) (ZaO a (Zde a l-b) false l):=Zeb _ _ _ (by omega) (by omega) q _ _ d (by omega)
 have t:(ZaO a (Zde a l-b) false l).length=l.length:=by rw[Zhx _ _ _ _ _ d,if_neg n]
 have w:=Zkl a (Zde a l-b) 0 l (-1) d;have g:Zcp c (ZaO a (Zde a l-b) false l)=Zcp c l:=by rw[ZoX _ _ _ _ _ d,if_neg (fun e=>p e.symm)]
 have i:=Zhx c (Zde c l+b) 0 _ (-1) f;have j:=Zkl c (Zde c l+b) 0 _ (-1) f;rw[g,t] at i;rw[g,w,<-Zkk,<-Zkk] at j;refine⟨?_,Zeb _ _ _ (by omega) (by omega) u _ _ f (by omega),by rw[j];omega⟩
 rw[i];have x:=ZeU d;split
 ·rename_i h
  have:l.length≠128:=fun e=>m (.inl ⟨(Zhw _ _).2 h,e⟩)
  omega
 ·exact v
theorem ZyJ {s:St} (h:ZcD s) (d:s.kind=5) (o:Opn):ZcD (Zep s o).1∧ZvZ (Zep s o).1.L=ZvZ s.L∧((Zep s o).2≠1->(Zep s o).1=s)∧(Zep s o).1.kind=s.kind∧(Zep s o).1.shut=s.shut:=by
 have c:=h.2.2.2.2.2;rw[d,ZdI] at c;unfold Zep;split
 ·exact⟨h,rfl,fun _=>rfl,rfl,rfl⟩
 split
 ·exact⟨h,rfl,fun _=>rfl,rfl,rfl⟩
 split
 ·exact⟨h,rfl,fun _=>rfl,rfl,rfl⟩
 split
 ·exact⟨h,rfl,fun _=>rfl,rfl,rfl⟩
 ·have:=ZtT c.1 c.2 (o.a / 256) (o.a % 256) o.b (by omega) (by omega) (by omega) (by omega) (by omega) (by assumption) (by assumption) (by assumption)
  refine⟨ZdJ h ?_,this.2.2,fun e=>absurd rfl e,rfl,rfl⟩
  rw[d,ZdI];exact⟨this.1,this.2.1⟩
theorem ZtU {s:St} (h:ZcD s) (d:s.kind=5) (o:Opn):ZcD (ZaZ s o).1:=by
 have c:=h.2.2.2.2.2;rw[d,ZdI] at c;unfold ZaZ;split
 ·exact(ZyJ h d o).1
 split
 ·exact h
 split
 ·exact h
 split
 ·exact h
 split
 ·exact h
 split
 ·exact h
 ·refine ZdJ h ?_
  rw[d,ZdI];have i:=ZdX c.2 o.a;have g:=Zfj o.b
  have e:0<=ZeG o.b:=by
   unfold ZeG;split
   ·omega
   ·split <;> omega
  have f:0<=ZeG (Zde o.a s.L+ZeG o.b):=by
   unfold ZeG;split
   ·have:=e;unfold ZeG at this;omega
   ·split
    ·omega
    ·have:=e;unfold ZeG at this;omega
  exact Zwk c.1 c.2 (by omega) (by omega) f (Zfj _).2 (by assumption)
theorem ZnM (s:St) (o:Opn):(Zhn s o).1.kind=s.kind∧(Zhn s o).1.shut=s.shut∧(Zhn s o).1.eng=s.eng:=by
 unfold Zhn
 repeat' split
 all_goals exact⟨rfl,rfl,rfl⟩
theorem Zkm (s:St) (o:Opn):(Zcr s o).1.kind=s.kind∧(Zcr s o).1.shut=s.shut∧(Zcr s o).1.eng=s.eng:=by
 unfold Zcr
 repeat' split
 all_goals exact⟨rfl,rfl,rfl⟩
theorem Ziq (s:St) (o:Opn):(ZfF s o).1.kind=s.kind∧(ZfF s o).1.shut=s.shut∧(ZfF s o).1.eng=s.eng:=by
 unfold ZfF
 repeat' split
 all_goals exact⟨rfl,rfl,rfl⟩
theorem ZgQ (s:St) (o:Opn):(ZaZ s o).1.kind=s.kind∧(ZaZ s o).1.shut=s.shut∧(ZaZ s o).1.eng=s.eng:=by
 unfold ZaZ Zep
 repeat' split
 all_goals exact⟨rfl,rfl,rfl⟩
theorem Zkn {s:St} (h:ZcD s) (a:s.shut=true) (o:Opn):ZfO s o=(s,-1125899906842624):=by
 unfold ZfO;rw[if_neg (fun e=>e h),if_pos a]
theorem Zko {s:St} (h:ZcD s) (c:s.shut=false) (o:Opn) (b:o.code=10):ZfO s o=(⟨s.kind,s.L,true,if 0<=o.a∧o.a<=2 then o.a else s.eng⟩,0):=by
 unfold ZfO;rw[if_neg (fun e=>e h),if_neg (by simp[c]),if_pos b]
theorem ZyK {s:St} (h:¬ ZcD s) (o:Opn):ZfO s o=(s,0):=by
 unfold ZfO;rw[if_pos h]
theorem Zkp {s:St} (h:ZcD s) (b:s.shut=false) (o:Opn) (a:o.code≠10):ZfO s o=if s.kind<=1 then Zhn s o else if s.kind<=3 then Zcr s o else if s.kind=4 then ZfF s o else ZaZ s o:=by
 unfold ZfO;rw[if_neg (fun e=>e h),if_neg (by simp[b]),if_neg a]
theorem Zwm (s:St) (o:Opn):(ZfO s o).1.kind=s.kind:=by
 unfold ZfO;split
 ·rfl
 split
 ·rfl
 split
 ·rfl
 split
 ·exact(ZnM s o).1
 split
 ·exact(Zkm s o).1
 split
 ·exact(Ziq s o).1
 ·exact(ZgQ s o).1
theorem ZtV {s:St} (h:ZcD s) (o:Opn):(ZfO s o).1.shut=(s.shut || decide (o.code=10)):=by
 by_cases c:s.shut=true
 ·rw[Zkn h c,c]
  rfl
 ·have a:s.shut=false:=by simpa using c
  by_cases b:o.code=10
  ·rw[Zko h a o b,decide_eq_true b]
   simp
  ·rw[Zkp h a o b,decide_eq_false b,a]
   split
   ·rw[(ZnM s o).2.1,a];rfl
   split
   ·rw[(Zkm s o).2.1,a];rfl
   split
   ·rw[(Ziq s o).2.1,a];rfl
   ·rw[(ZgQ s o).2.1,a];rfl
theorem ZyL {s:St} (h:ZcD s) (o:Opn):ZcD (ZfO s o).1:=by
 by_cases d:s.shut=true
 ·rw[Zkn h d]
  exact h
 ·have b:s.shut=false:=by simpa using d
  by_cases c:o.code=10
  ·rw[Zko h b o c]
   refine⟨?_,?_,(fun e=>by cases e),h.2.2.2.1,h.2.2.2.2.1,h.2.2.2.2.2⟩
   ·show 0<=(if 0<=o.a∧o.a<=2 then o.a else s.eng)
    have:=h.1;split <;> omega
   ·show(if 0<=o.a∧o.a<=2 then o.a else s.eng)<=2
    have:=h.2.1;split <;> omega
  ·rw[Zkp h b o c]
   have g:=h.2.2.2.1;have f:=h.2.2.2.2.1;split
   ·exact ZAv h (by assumption) o
   split
   ·exact ZyI h (by assumption) (by assumption) o
   split
   ·exact Zwl h (by assumption) o
   ·exact ZtU h (by omega) o
theorem ZAw {k:IntKind} {a b:Int} (h:a=b):Ending.returned (.int k a)=.returned (.int k b):=by rw[h]
theorem ZbZ {b:Bool} (h:a=b):Ending.returned (.bool a)=.returned (.bool b):=by rw[h]
def StV (w:World) (v:Value) (s:St):Prop:=∃ vl,v=.agg #[.int .i64 s.kind,vl,.bool s.shut,.int .i64 s.eng]∧RdI w vl s.L∧I64 s.kind∧I64 s.eng
def opV (o:Opn):Value:=.agg #[.int .i64 o.code,.int .i64 o.a,.int .i64 o.b]
def ZAx (o:Opn):Prop:=I64 o.code∧I64 o.a∧I64 o.b
def ZoY (a b:St):Prop:=a.kind=b.kind∧a.shut=b.shut∧a.eng=b.eng∧a.L=b.L
instance (a b:St):Decidable (ZoY a b):=by unfold ZoY;infer_instance
def Zir (w:World) (vl:Value) (L:List Int) (r:St × Int) (e:Ending) (w':World):Prop:=
 ∃ vl',e=.returned (.tuple #[.agg #[.int .i64 r.1.kind,vl',.bool r.1.shut,.int .i64 r.1.eng],.int .i64 r.2])∧RdI w' vl' r.1.L∧I64 r.1.kind∧I64 r.1.eng∧((vl'=vl∧r.1.L=L)∨∀ b,vl'.ownBlock=some b->w.heap.size<=b)∧Below w.heap.size w w'
def lval:Value->Value
 | .agg ⟨[_,x,_,_]⟩=>x
 | v=>v
theorem ZsX (a x c d:Value):lval (.agg #[a,x,c,d])=x:=rfl
theorem Zrb {g a:Nat} (h:(Value.slice (some ⟨g,a,none⟩) n c).ownBlock=some b):b=g:=by
 injection h with h
 exact h.symm
theorem Zir.fresh {e vl':Value} {L L':List Int} (c:RdI w' vl' L') (i:I64 kind) (f:I64 g) (n:Int) (h:∀ b,vl'.ownBlock=some b->w.heap.size<=b) (d:Below w.heap.size w w'):
 Zir w e L (⟨kind,L',a,g⟩,n) (.returned (.tuple #[.agg #[.int .i64 kind,vl',.bool a,.int .i64 g],.int .i64 n])) w':=
 ⟨_,rfl,c,i,f,.inr h,d⟩
theorem ZAy (n:Int):I64 (ZeG n):=by
 have:=Zfj n;unfold I64;omega
theorem RdI.one (w:World) (x:Int) (h:I64 x):RdI (w.alloc (.cells #[.int .i64 x] 3)) (.slice (some ⟨w.heap.size,0,none⟩) 1 1) [x]:=by
 refine⟨some ⟨w.heap.size,0,none⟩,1,rfl,Nat.le_refl _,by decide,(fun e=>by cases e),?_,.inr ⟨w.heap.size,0,rfl,fun j b=>?_⟩⟩
 ·intro n a
  simp at a;rw[a];exact h
 ·have e:j=0:=by simpa using b
  subst e;rw[Nat.zero_add,cell_of_row _ w.heap.size 0 #[.int .i64 x] 3 (0,0) (heap_alloc_new w _)];rfl
theorem ZCg (w:World) (x y z:Obj):(((w.alloc x).alloc y).alloc z).heap.size=w.heap.size+1+1+1:=by simp
def Zec (w:World) (B:Nat) (s o r:Array Value):Prop:=
 w.heap[B]?=some (.cells s 38 (0,0))∧w.heap[B+1]?=some (.cells o 52 (0,0))∧w.heap[B+1+1]?=some (.cells r 38 (0,0))
theorem Zec.made (w:World) (s o r:Array Value):Zec (((w.alloc (.cells s 38)).alloc (.cells o 52)).alloc (.cells r 38)) w.heap.size s o r:=by
 refine⟨?_,?_,?_⟩
 ·rw[Below.heap_alloc _ _ _ (by simp;omega),Below.heap_alloc _ _ _ (by simp)]
  exact heap_alloc_new w _
 ·rw[Below.heap_alloc _ _ _ (by simp)]
  have h:=heap_alloc_new (w.alloc (.cells s 38)) (.cells o 52);have e:(w.alloc (.cells s 38)).heap.size=w.heap.size+1:=by simp
  rwa [e] at h
 ·have h:=heap_alloc_new ((w.alloc (.cells s 38)).alloc (.cells o 52)) (.cells r 38)
  have e:((w.alloc (.cells s 38)).alloc (.cells o 52)).heap.size=w.heap.size+1+1:=by simp
  rwa [e] at h
theorem Zec.below {s o r:Array Value} (h:Zec w B s o r) (a:Below C w w') (e:B+3<=C):Zec w' B s o r:=by
 obtain⟨d,c,b⟩:=h
 exact⟨by rw[a.block _ (by omega)];exact d,by rw[a.block _ (by omega)];exact c,by rw[a.block _ (by omega)];exact b⟩
-- 38
theorem Zec.s {s o r:Array Value} (h:Zec w B s o r) (j:Nat):w.cell? ⟨B,j,none⟩=s[j]?∧w.frozen? ⟨B,j,none⟩=false:=
 ⟨cell_of_row w B j _ _ _ h.1,frozen_of_row w B j _ _ h.1⟩
-- 38
theorem Zec.o {s o r:Array Value} (h:Zec w B s o r) (j:Nat):w.cell? ⟨B+1,j,none⟩=o[j]?∧w.frozen? ⟨B+1,j,none⟩=false:=
 ⟨cell_of_row w (B+1) j _ _ _ h.2.1,frozen_of_row w (B+1) j _ _ h.2.1⟩
-- 38
theorem Zec.r {s o r:Array Value} (h:Zec w B s o r) (j:Nat):w.cell? ⟨B+1+1,j,none⟩=r[j]?∧w.frozen? ⟨B+1+1,j,none⟩=false:=
 ⟨cell_of_row w (B+1+1) j _ _ _ h.2.2,frozen_of_row w (B+1+1) j _ _ h.2.2⟩
-- 38
theorem ZaB.shape (h:ZaB w B v l):∃ ao cap,v=.slice ao l.length cap:=by
 rcases h.2 with ⟨a,b⟩ | ⟨g,cap,cur,a,_⟩
 ·exact⟨none,0,by rw[a,b]⟩
 ·exact⟨_,_,a⟩
def ZsY (w:World) (B R:Nat) (x0 x1 x2 x3 x4:Value):World:=
 ((((w.setCell ⟨B,1,none⟩ x0).setCell ⟨R,0,none⟩ x1).setCell ⟨R,1,none⟩ x2).setCell ⟨R,2,none⟩ x3).setCell ⟨R,3,none⟩ x4
theorem ZaB.five (h:ZaB w C v l) (B R:Nat) (c:B<C) (a:R<C) (d g e b f:Value):ZaB (ZsY w B R d g e b f) C v l:=
 ownsRow_setCell_below (ownsRow_setCell_below (ownsRow_setCell_below (ownsRow_setCell_below (ownsRow_setCell_below h c _) a _) a _) a _) a _
theorem Zwn {b:World} (h:Below C b w) (B R:Nat) (d:C<=B) (a:C<=R) (e i g c f:Value):Below C b (ZsY w B R e i g c f):=
 ((((h.setCell d _).setCell a _).setCell a _).setCell a _).setCell a _
theorem ZcP {b:World} (h:Below C b w) (R:Nat) (a:C<=R) (f e c d:Value):Below C b ((((w.setCell ⟨R,0,none⟩ f).setCell ⟨R,1,none⟩ e).setCell ⟨R,2,none⟩ c).setCell ⟨R,3,none⟩ d):=
 (((h.setCell a _).setCell a _).setCell a _).setCell a _
theorem Zai {n:Int} (b:-2251799813685248<=n) (a:n<=2251799813685248):I64 n:=⟨by omega,by omega⟩
structure But (R T:Nat) (w w':World):Prop where
 os:w'.os=w.os
 tape:w'.tape=w.tape
 output:w'.output=w.output
 size:w.heap.size<=w'.heap.size
 block:∀ k,k<w.heap.size->k≠R->k≠T->w'.heap[k]?=w.heap[k]?
theorem But.refl (R T:Nat) (w:World):But R T w w:=⟨rfl,rfl,rfl,Nat.le_refl _,fun _ _ _ _=>rfl⟩
theorem But.set (h:But R T w w') (b i:Nat) (c:b=R∨b=T) (x:Value):But R T w (w'.setCell ⟨b,i,none⟩ x):=by
 have a:=(Below.refl 0 w').setCell (p:=⟨b,i,none⟩) (Nat.zero_le _) x;refine⟨a.os.trans h.os,a.tape.trans h.tape,a.output.trans h.output,Nat.le_trans h.size a.size,fun k e f d=>?_⟩
 rw[Below.heap_setCell _ _ _ _ (by rcases c with rfl | rfl <;> assumption)]
 exact h.block k e f d
theorem ZcQ {N:Nat} {wr:World} (h:Below N w wr) (a:But R T wr w') (d:N<=wr.heap.size) (e:N<=R) (c:N<=T):Below N w w':=
 ⟨a.os.trans h.os,a.tape.trans h.tape,a.output.trans h.output,Nat.le_trans h.size a.size,fun k b=>(a.block k (by omega) (by omega) (by omega)).trans (h.block k b)⟩
theorem But.four (h:But R T w w') (b:Nat) (a:b=R∨b=T) (f e c d:Value):But R T w ((((w'.setCell ⟨b,0,none⟩ f).setCell ⟨b,1,none⟩ e).setCell ⟨b,2,none⟩ c).setCell ⟨b,3,none⟩ d):=
 (((h.set b 0 a f).set b 1 a e).set b 2 a c).set b 3 a d
theorem RdI.block (h:RdI w v l):l=[]∨(l≠[]∧∃ b,v.ownBlock=some b∧b<w.heap.size):=by
 obtain⟨ao,cap,e,k,j,n,m,c⟩:=h;rcases c with c | ⟨b,f,d,g⟩
 ·exact .inl c
 ·by_cases a:l=[]
  ·exact .inl a
  ·right
   have i:0<l.length:=List.length_pos_iff.2 a;exact⟨a,b,by rw[e,d];rfl,World.block_lt_of_cell? w ⟨b,f+0,none⟩ (g 0 i)⟩
theorem RdI.but (h:RdI w v l) {R T:Nat} (n:But R T w w') (hn:l=[]∨∀ b,v.ownBlock=some b->b≠R∧b≠T):RdI w' v l:=by
 obtain⟨ao,cap,i,p,m,x,u,c⟩:=h;refine⟨ao,cap,i,p,m,x,u,?_⟩;rcases c with c | ⟨b,d,g,f⟩
 ·exact .inl c
 ·rcases hn with hn | hn
  ·exact .inl hn
  ·refine .inr ⟨b,d,g,fun j e=>?_⟩
   obtain⟨q,t⟩:=hn b (by rw[i,g];rfl)
   have k:=World.block_lt_of_cell? w ⟨b,d+j,none⟩ (f j e);rw[<-f j e];exact World.cell?_of_block (a:=⟨b,d+j,none⟩) (n.block b k q t)
theorem ZCh {c:Bool} (h:ZcD ⟨kind,l,c,g⟩) (b:kind<=1):l.length=1∧-1099511627776<=l.getD 0 0∧l.getD 0 0<=1099511627776:=by
 have a:=(ZaU (kind:=kind) (l:=l) (by omega) (by omega)).1 h.2.2.2.2.2
 have d:=a.2.1 b;exact⟨d,a.2.2 0 (by show 0<l.length;omega)⟩
theorem ZCi (h:ZcD ⟨kind,l,a,g⟩) (b:kind<=3):l.length<=64:=
 ((ZaU (kind:=kind) (l:=l) (by omega) (by omega)).1 h.2.2.2.2.2).1
theorem ZoZ:∀ {l:List Int} {lo:Int},-1<=lo->Zat 0 lo l->∀ x ∈ l,0<=x∧x<=1099511627776
 | [],_,_,_,x,hx=>by simp at hx
 | [_],_,_,h,_,_=>by simp[Zat] at h
 | a::b::r,lo,hlo,h,x,hx=>by
  unfold Zat at h;have c:=ZoZ (l:=r) (lo:=a) (by omega) h.2.2.2.2 x
  simp at hx;rcases hx with rfl | rfl | hx
  ·omega
  ·omega
  ·exact c hx
theorem Zwo (b:-1099511627776<=least) (a:Zat least lo l) (key:Int):I64 (ZtS key l):=by
 rw[Zra]
 cases h:Zcp key l with
 | none=>exact Zai (by decide) (by decide)
 | some v=>
  have:=ZnL a h;show I64 v;exact Zai (by omega) (by omega)
theorem ZAj (h:ZcN l) (j:Nat):I64 (l.getD j 0):=by
 by_cases a:j<l.length
 ·have:=h j a
  exact Zai (by omega) (by omega)
 ·have e:l.getD j 0=0:=by simp[List.getD,a]
  rw[e];exact Zai (by decide) (by decide)
theorem Zwp (s:St) (o:Opn):I64 (ZfO s o).2:=by
 have c:I64 0:=Zai (by decide) (by decide)
 have n:I64 1:=Zai (by decide) (by decide)
 have g:I64 (-1):=Zai (by decide) (by decide)
 have m:I64 (-2):=Zai (by decide) (by decide)
 by_cases b:ZcD s
 ·by_cases k:s.shut=true
  ·rw[Zkn b k]
   exact(Zai (by decide) (by decide):I64 (-1125899906842624))
  ·have j:s.shut=false:=by simpa using k
   by_cases l:o.code=10
   ·rw[Zko b j o l]
    exact c
   ·rw[Zkp b j o l]
    have u:=b.2.2.2.1;have t:=b.2.2.2.2.1;have d:=b.2.2.2.2.2;split
    ·have h:=((ZaU (by omega) (by omega)).1 d).2.2
     unfold Zhn
     repeat' split
     all_goals first | exact ZAj h 0 | exact c
    split
    ·have i:=(ZaU (by omega) (by omega)).1 d
     have h:=i.2.2;have p:I64 ((s.L.length:Int)):=Zai (by omega) (by have:=i.1;omega)
     have q:I64 ((s.L.length:Int)+1):=Zai (by omega) (by have:=i.1;omega)
     unfold Zcr
     repeat' split
     all_goals first | exact ZAj h _ | exact c | exact g | exact p | exact q
    split
    ·rename_i f
     rw[f,Zeu] at d;have e:=Zwo (by decide) d.2 o.a
     unfold ZfF
     repeat' split
     all_goals first | exact c | exact g | exact m | exact e
    ·have f:s.kind=5:=by omega
     rw[f,ZdI] at d;have e:=Zwo (by decide) d.2 o.a
     unfold ZaZ Zep
     repeat' split
     all_goals first | exact c | exact n | exact g | exact m | exact e | exact ZAy _
 ·rw[ZyK b]
  exact c
theorem ZaB.but (h:ZaB w B v l) {R T:Nat} (i:But R T w w') (m:∀ b,v.ownBlock=some b->b≠R∧b≠T):ZaB w' B v l:=by
 obtain⟨n,a⟩:=h;refine⟨n,?_⟩;rcases a with a | ⟨g,cap,cur,c,e,d,r⟩
 ·exact .inl a
 ·have f:g<w.heap.size:=(Array.getElem?_eq_some_iff.1 d).1
  obtain⟨j,k⟩:=m g (by rw[c];rfl)
  exact .inr ⟨g,cap,cur,c,e,by rw[i.block g f j k];exact d,r⟩
def Zrc (w:World) (B:Nat) (s r:Array Value):Prop:=
 w.heap[B]?=some (.cells s 38 (0,0))∧w.heap[B+1]?=some (.cells r 38 (0,0))
theorem Zrc.made (w:World) (s r:Array Value):Zrc ((w.alloc (.cells s 38)).alloc (.cells r 38)) w.heap.size s r:=by
 refine⟨?_,?_⟩
 ·rw[Below.heap_alloc _ _ _ (by simp)]
  exact heap_alloc_new w _
 ·have h:=heap_alloc_new (w.alloc (.cells s 38)) (.cells r 38)
  have e:(w.alloc (.cells s 38)).heap.size=w.heap.size+1:=by simp
  rwa [e] at h
theorem Zrc.below {s r:Array Value} (h:Zrc w B s r) (a:Below C w w') (d:B+2<=C):Zrc w' B s r:=by
 obtain⟨c,b⟩:=h
 exact⟨by rw[a.block _ (by omega)];exact c,by rw[a.block _ (by omega)];exact b⟩
-- 38
theorem Zrc.s {s r:Array Value} (h:Zrc w B s r) (j:Nat):w.cell? ⟨B,j,none⟩=s[j]?∧w.frozen? ⟨B,j,none⟩=false:=
 ⟨cell_of_row w B j _ _ _ h.1,frozen_of_row w B j _ _ h.1⟩
-- 38
theorem Zrc.r {s r:Array Value} (h:Zrc w B s r) (j:Nat):w.cell? ⟨B+1,j,none⟩=r[j]?∧w.frozen? ⟨B+1,j,none⟩=false:=
 ⟨cell_of_row w (B+1) j _ _ _ h.2,frozen_of_row w (B+1) j _ _ h.2⟩
-- 38
theorem Zhy (w:World) {e:Array Oper} {rest:List Oper} {o:Oper} {a:Act} {Q:Exit->Act->World->Prop} (G:o.guard=none) (s x:Operand)
 (M:o.op=.call { callee:=.builtin .append,args:=#[s,x],argTypes:=#[23,23] })
 (B:Nat) (v:Value) (l:List Int) (q:a.eval s=v) (I:ZaB w B v l) (n:Int) (N:Nat) (K:N=w.heap.size) (C:a.eval x=.slice (some ⟨N,0,none⟩) 1 1)
 (R:l.length<=1000000) (S:B<=w.heap.size)
 (h:∀ v' w',ZaB w' B v' (l++[n])->w.grownBy w' v.ownBlock->(v'.ownBlock=v.ownBlock∨∃ g,v'.ownBlock=some g∧w.heap.size<=g)->wpList prog e Q rest (a.put o.dst v') w'):wpList prog e Q (o::rest) a (w.alloc (.cells #[.int .i64 n] 3)):=
 wpList_plain G fun _ i=>by
  subst K;obtain⟨J,H,O,m,p⟩:=info_parts ZnK
  obtain⟨v',w',z,A,b,_,hat⟩:=run_append_own_at (P:=prog) (w.alloc (.cells #[.int .i64 n] 3)) B 23 o.type 3 J (.int .i64 0) 1 8 underlying23 H O m p rfl (by decide) v l.length (Zal l) (World.ownsRow.alloc I _)
   ⟨w.heap.size,0,none⟩ 1 1 [.int .i64 n] rfl (fun j u c=>by
    match j,c with
    | 0,c=>simp at c;subst c;simp[Addr.add]) (fun u d=>by simp at d;subst d;rfl) (by unfold maxLen;omega) (by omega) (by simp;omega)
  have E:ZaB w' B v' (l++[n]):=by
   unfold ZaB;have F:(l++[n]).length=l.length+1:=by simp
   have L:Zal (l++[n])=Zal l++[.int .i64 n]:=by simp[Zal]
   rw[F,L];exact A
  have y:w.grownBy w' v.ownBlock:=⟨b.os,b.tape,b.output,by have:=b.size;simp at this;omega,fun k t D=>by
   rw[b.block k (by simp;omega) D]
   exact Below.heap_alloc _ _ _ t⟩
  have f:v'.ownBlock=v.ownBlock∨∃ g,v'.ownBlock=some g∧w.heap.size<=g:=by
   rcases hat with hat | hat
   ·exact .inl hat
   ·exact .inr ⟨_,hat,by simp⟩
  unfold Oper.wp execOp;simp only [M,resolve,invoke,builtin,Sem.run_bind,Sem.run_pure,Result.andThen_ok,List.map_toArray,map_cons,map_nil,q,C,z];exact i _ _ (h v' w' E y f)
theorem ZsZ (w:World) (b i:Nat) (x:Value):(w.setCell ⟨b,i,none⟩ x).heap.size=w.heap.size:=by simp[World.setCell]
def Bx (w:World) (b:Nat) (cs:Array Value):Prop:=w.heap[b]?=some (.cells cs 38 (0,0))
def Bo (w:World) (b:Nat) (cs:Array Value):Prop:=w.heap[b]?=some (.cells cs 52 (0,0))
theorem Bx.lt (h:Bx w b cs):b<w.heap.size:=(Array.getElem?_eq_some_iff.1 h).1
-- 38
theorem Bx.below (h:Bx w b cs) (a:Below B w w') (c:w.heap.size<=B):Bx w' b cs:=(a.block b (by have:=h.lt;omega)).trans h
-- 38
theorem Bx.cell (h:Bx w b cs) (j:Nat):w.cell? ⟨b,j,none⟩=cs[j]?∧w.frozen? ⟨b,j,none⟩=false:=⟨cell_of_row w b j _ _ _ h,frozen_of_row w b j _ _ h⟩
-- 38
theorem Bo.lt (h:Bo w b cs):b<w.heap.size:=(Array.getElem?_eq_some_iff.1 h).1
theorem Bo.below (h:Bo w b cs) (a:Below B w w') (c:w.heap.size<=B):Bo w' b cs:=(a.block b (by have:=h.lt;omega)).trans h
theorem Bo.cell (h:Bo w b cs) (j:Nat):w.cell? ⟨b,j,none⟩=cs[j]?∧w.frozen? ⟨b,j,none⟩=false:=⟨cell_of_row w b j _ _ _ h,frozen_of_row w b j _ _ h⟩
theorem ZaB.four (h:ZaB w C v l) (R:Nat) (a:R<C) (e d b c:Value):ZaB ((((w.setCell ⟨R,0,none⟩ e).setCell ⟨R,1,none⟩ d).setCell ⟨R,2,none⟩ b).setCell ⟨R,3,none⟩ c) C v l:=
 ownsRow_setCell_below (ownsRow_setCell_below (ownsRow_setCell_below (ownsRow_setCell_below h a _) a _) a _) a _
theorem ZaB.fresh (h:ZaB w B v l):∀ b,v.ownBlock=some b->B<=b:=fun b a=>(World.ownsRow.lt h b a).1
theorem ZeV {n:Int} (h:I64 n):Lib.zigzag n<18446744073709551616:=by
 obtain⟨b,a⟩:=h;unfold Lib.zigzag;split <;> omega
theorem Zrd {u:Nat} (h:u<18446744073709551616):I64 (zag u):=Zwi u h
theorem Zcj (l:List UInt8):(Zab l).2<=l.length:=by
 rcases Zay l with h | h
 ·rw[h];exact Nat.zero_le _
 ·exact h.2.2.1
def ZaX (o:Opn):List UInt8:=Lib.uvarint o.code.toNat++(Lib.uvarint (Lib.zigzag o.a)++Lib.uvarint (Lib.zigzag o.b))
def ZaC (l:List UInt8):Opn × Nat:=
 if(Zab l).2=0∨(Zah (l.drop (Zab l).2)).2=0∨(Zah (l.drop ((Zab l).2+(Zah (l.drop (Zab l).2)).2))).2=0∨¬ Zdy ⟨((Zab l).1:Int),zag (Zah (l.drop (Zab l).2)).1,zag (Zah (l.drop ((Zab l).2+(Zah (l.drop (Zab l).2)).2))).1⟩ then(⟨0,0,0⟩,0)
 else(⟨((Zab l).1:Int),zag (Zah (l.drop (Zab l).2)).1,zag (Zah (l.drop ((Zab l).2+(Zah (l.drop (Zab l).2)).2))).1⟩,(Zab l).2+(Zah (l.drop (Zab l).2)).2+(Zah (l.drop ((Zab l).2+(Zah (l.drop (Zab l).2)).2))).2)
theorem ZdK {o:Opn} (h:Zdy o):I64 o.a∧I64 o.b:=by
 obtain⟨_,_,f,d,c,e⟩:=h;exact⟨Zai (by omega) (by omega),Zai (by omega) (by omega)⟩
theorem Zhz (u:Nat):(Lib.uvarint u).length≠0:=by have:=Lib.uvarint_pos u;omega
theorem Zpa (o:Opn) (h:Zdy o) (t:List UInt8):ZaC (ZaX o++t)=(o,(ZaX o).length):=by
 obtain⟨e,d⟩:=ZdK h;have l:=h.1;have n:=h.2.1
 have i:Zab (ZaX o++t)=(o.code.toNat,(Lib.uvarint o.code.toNat).length):=by
  unfold ZaX;rw[append_assoc];exact ZaT _ _ (by omega)
 have g:(ZaX o++t).drop (Lib.uvarint o.code.toNat).length=Lib.uvarint (Lib.zigzag o.a)++(Lib.uvarint (Lib.zigzag o.b)++t):=by
  unfold ZaX;rw[append_assoc,List.drop_left,append_assoc]
 have k:=ZbN (Lib.zigzag o.a) (Lib.uvarint (Lib.zigzag o.b)++t) (ZeV e)
 have j:(ZaX o++t).drop ((Lib.uvarint o.code.toNat).length+(Lib.uvarint (Lib.zigzag o.a)).length)=Lib.uvarint (Lib.zigzag o.b)++t:=by
  rw[<-drop_drop,g,List.drop_left]
 have m:=ZbN (Lib.zigzag o.b) t (ZeV d)
 have f:(⟨((o.code.toNat:Nat):Int),zag (Lib.zigzag o.a),zag (Lib.zigzag o.b)⟩:Opn)=o:=by
  rw[ZdU _ e.1 e.2,ZdU _ d.1 d.2];obtain⟨c,a,b⟩:=o;simp only [Opn.mk.injEq,and_true];simp only at l;omega
 unfold ZaC;simp only [i,g,k,j,m];rw[if_neg,f]
 ·simp only [Prod.mk.injEq,true_and]
  unfold ZaX;simp only [length_append];omega
 ·rw[f]
  rintro(h1 | h1 | h1 | h1)
  ·exact Zhz _ h1
  ·exact Zhz _ h1
  ·exact Zhz _ h1
  ·exact h1 h
theorem Zta (l:List UInt8):(ZaC l).2<=l.length:=by
 unfold ZaC;split
 ·exact Nat.zero_le _
 ·have c:=Zcj l
  have b:=ZcM (l.drop (Zab l).2);have a:=ZcM (l.drop ((Zab l).2+(Zah (l.drop (Zab l).2)).2));simp only [List.length_drop] at b a;show(Zab l).2+_+_<=_;omega
theorem ZtW {l:List UInt8} (h:(ZaC l).2=0):(ZaC l).1=⟨0,0,0⟩:=by
 unfold ZaC at h ⊢;split
 ·rfl
 ·rename_i a
  rw[if_neg a] at h;simp only at h;omega
theorem Zis (l:List UInt8) (i j:Nat):l.take (i+j)=l.take i++(l.drop i).take j:=by
 rw[List.take_add]
theorem Zkq {l:List UInt8} (h:(ZaC l).2≠0):Zdy (ZaC l).1∧ZaX (ZaC l).1=l.take (ZaC l).2:=by
 unfold ZaC at h ⊢;by_cases a:(Zab l).2=0∨(Zah (l.drop (Zab l).2)).2=0∨(Zah (l.drop ((Zab l).2+(Zah (l.drop (Zab l).2)).2))).2=0∨¬ Zdy ⟨((Zab l).1:Int),zag (Zah (l.drop (Zab l).2)).1,zag (Zah (l.drop ((Zab l).2+(Zah (l.drop (Zab l).2)).2))).1⟩
 ·rw[if_pos a] at h
  exact absurd rfl h
 ·rw[if_neg a]
  have d:(Zab l).2≠0:=fun e=>a (.inl e)
  have c:(Zah (l.drop (Zab l).2)).2≠0:=fun e=>a (.inr (.inl e))
  have b:(Zah (l.drop ((Zab l).2+(Zah (l.drop (Zab l).2)).2))).2≠0:=fun e=>a (.inr (.inr (.inl e)))
  have g:Zdy ⟨((Zab l).1:Int),zag (Zah (l.drop (Zab l).2)).1,zag (Zah (l.drop ((Zab l).2+(Zah (l.drop (Zab l).2)).2))).1⟩:=Classical.byContradiction fun e=>a (.inr (.inr (.inr e)))
  refine⟨g,?_⟩
  have i:l.take (Zab l).2=Lib.uvarint (Zab l).1:=by
   rcases Zay l with e | e
   ·rw[e] at d;exact absurd rfl d
   ·exact e.2.2.2
  have j:(l.drop (Zab l).2).take (Zah (l.drop (Zab l).2)).2=Lib.uvarint (Zah (l.drop (Zab l).2)).1:=by
   rcases ZbO (l.drop (Zab l).2) with e | e
   ·rw[e] at c;exact absurd rfl c
   ·exact e.2.2.2
  have f:(l.drop ((Zab l).2+(Zah (l.drop (Zab l).2)).2)).take (Zah (l.drop ((Zab l).2+(Zah (l.drop (Zab l).2)).2))).2=Lib.uvarint (Zah (l.drop ((Zab l).2+(Zah (l.drop (Zab l).2)).2))).1:=by
   rcases ZbO (l.drop ((Zab l).2+(Zah (l.drop (Zab l).2)).2)) with e | e
   ·rw[e] at b;exact absurd rfl b
   ·exact e.2.2.2
  unfold ZaX;simp only [ZeT];rw[Zis,Zis,i,j,f,append_assoc];rfl
def ZcR:List Int->List UInt8
 | []=>[]
 | x::r=>Lib.uvarint (Lib.zigzag x)++ZcR r
def ZeH (s:St):Nat:=if s.shut=true then s.eng.toNat+1 else 0
def ZjP (s:St):List UInt8:=Lib.uvarint s.kind.toNat++(Lib.uvarint (ZeH s)++(Lib.uvarint s.L.length++ZcR s.L))
def ZdL:Nat->List UInt8->Option (List Int × Nat)
 | 0,_=>some ([],0)
 | n+1,l=>if(Zah l).2=0 then none else(ZdL n (l.drop (Zah l).2)).map fun x=>(zag (Zah l).1::x.1,(Zah l).2+x.2)
def mkS (kind sl:Nat) (xs:List Int):St:=⟨kind,xs,decide (0<sl),if 0<sl then(sl:Int)-1 else 0⟩
def ZfQ:St:=⟨0,[],false,0⟩
def Zpb (kind sl many:Nat) (l:List UInt8):St × Int:=
 match ZdL many l with
 | none=>(ZfQ,3)
 | some (xs,u)=>if u≠l.length then(ZfQ,3) else if ZcD (mkS kind sl xs) then(mkS kind sl xs,0) else(ZfQ,1)
def Zil (l:List UInt8):St × Int:=
 if(Zab l).2=0∨(Zab (l.drop (Zab l).2)).2=0∨(Zab (l.drop ((Zab l).2+(Zab (l.drop (Zab l).2)).2))).2=0∨3<(Zab (l.drop (Zab l).2)).1∨128<(Zab (l.drop ((Zab l).2+(Zab (l.drop (Zab l).2)).2))).1 then(ZfQ,3)
 else Zpb (Zab l).1 (Zab (l.drop (Zab l).2)).1 (Zab (l.drop ((Zab l).2+(Zab (l.drop (Zab l).2)).2))).1 (l.drop ((Zab l).2+(Zab (l.drop (Zab l).2)).2+(Zab (l.drop ((Zab l).2+(Zab (l.drop (Zab l).2)).2))).2))
theorem Zfk:∀ (n:Nat) (l:List UInt8) (xs:List Int) (u:Nat),ZdL n l=some (xs,u)->xs.length=n∧u<=l.length∧ZcR xs=l.take u∧∀ x ∈ xs,I64 x
 | 0,l,xs,u,h=>by
  simp only [ZdL,Option.some.injEq,Prod.mk.injEq] at h;obtain⟨rfl,rfl⟩:=h;exact⟨rfl,Nat.zero_le _,by simp[ZcR],fun x hx=>by simp at hx⟩
 | n+1,l,xs,u,h=>by
  rw[ZdL] at h;by_cases a:(Zah l).2=0
  ·rw[if_pos a] at h;cases h
  ·rw[if_neg a] at h
   obtain⟨⟨j,k⟩,i,b⟩:=Option.map_eq_some_iff.1 h;simp only [Prod.mk.injEq] at b;obtain⟨rfl,rfl⟩:=b;obtain⟨m,d,c,g⟩:=Zfk n _ j k i;rcases ZbO l with e | ⟨f,t,q,p⟩
   ·rw[e] at a;exact absurd rfl a
   ·simp only [List.length_drop] at d
    refine⟨by simp[m],by omega,?_,?_⟩
    ·rw[ZcR,ZeT,c,Zis,p]
    ·intro x hx
     rcases List.mem_cons.1 hx with rfl | hx
     ·exact Zrd f
     ·exact g x hx
theorem Ztb {s:St} (h:ZcD s):ZeH s<=3:=by
 have:=h.1;have:=h.2.1;unfold ZeH;split <;> omega
theorem Zkr {s:St} (h:ZcD s):s.kind.toNat<4611686018427387904∧s.L.length<=128∧∀ x ∈ s.L,I64 x:=by
 have k:=h.2.2.2.1;have j:=h.2.2.2.2.1;have c:=h.2.2.2.2.2;by_cases e:s.kind=4
 ·rw[e,Zeu] at c
  refine⟨by omega,c.1,fun x d=>?_⟩
  have i:∀ (l:List Int) (lo:Int),-1<=lo->Zat (-1099511627776) lo l->∀ x ∈ l,I64 x:=by
   intro l
   match l with
   | []=>intro _ _ _ x d;simp at d
   | [_]=>intro _ _ h;simp[Zat] at h
   | a::b::r=>exact pairsW a b r
  exact i s.L (-1) (by decide) c.2 x d
 ·by_cases f:s.kind=5
  ·rw[f,ZdI] at c
   exact⟨by omega,c.1,fun x d=>by have:=ZoZ (by decide) c.2 x d;exact Zai (by omega) (by omega)⟩
  ·have g:=(ZaU e f).1 c
   exact⟨by omega,by omega,fun x d=>by have:=(Zcb _).1 g.2.2 x d;exact Zai (by omega) (by omega)⟩
where
 pairsW (a b:Int) (r:List Int):∀ (lo:Int),-1<=lo->Zat (-1099511627776) lo (a::b::r)->∀ x ∈ a::b::r,I64 x:=by
  intro lo hlo h x hx;unfold Zat at h;simp at hx;rcases hx with rfl | rfl | hx
  ·exact Zai (by omega) (by omega)
  ·exact Zai (by omega) (by omega)
  ·match r,hx,h with
   | a2::b2::r2,hx,h=>exact pairsW a2 b2 r2 a (by omega) h.2.2.2.2 x hx
   | [c],_,h=>simp[Zat] at h
theorem ZtX (l:List UInt8):(Zil l).2=0∨((Zil l).1=ZfQ∧((Zil l).2=3∨(Zil l).2=1)):=by
 unfold Zil;split
 ·exact .inr ⟨rfl,.inl rfl⟩
 ·unfold Zpb
  split
  ·exact .inr ⟨rfl,.inl rfl⟩
  ·split
   ·exact .inr ⟨rfl,.inl rfl⟩
   ·split
    ·exact .inl rfl
    ·exact .inr ⟨rfl,.inr rfl⟩
theorem ZtY {l:List UInt8} (h:(Zil l).2=0):ZcD (Zil l).1∧ZjP (Zil l).1=l:=by
 unfold Zil at h ⊢;by_cases b:(Zab l).2=0∨(Zab (l.drop (Zab l).2)).2=0∨(Zab (l.drop ((Zab l).2+(Zab (l.drop (Zab l).2)).2))).2=0∨3<(Zab (l.drop (Zab l).2)).1∨128<(Zab (l.drop ((Zab l).2+(Zab (l.drop (Zab l).2)).2))).1
 ·rw[if_pos b] at h
  cases h
 ·rw[if_neg b] at h ⊢
  have g:(Zab l).2≠0:=fun e=>b (.inl e)
  have n:(Zab (l.drop (Zab l).2)).2≠0:=fun e=>b (.inr (.inl e))
  have f:(Zab (l.drop ((Zab l).2+(Zab (l.drop (Zab l).2)).2))).2≠0:=fun e=>b (.inr (.inr (.inl e)))
  have q:l.take (Zab l).2=Lib.uvarint (Zab l).1:=by
   rcases Zay l with e | e
   ·rw[e] at g;exact absurd rfl g
   ·exact e.2.2.2
  have v:(l.drop (Zab l).2).take (Zab (l.drop (Zab l).2)).2=Lib.uvarint (Zab (l.drop (Zab l).2)).1:=by
   rcases Zay (l.drop (Zab l).2) with e | e
   ·rw[e] at n;exact absurd rfl n
   ·exact e.2.2.2
  have B:(l.drop ((Zab l).2+(Zab (l.drop (Zab l).2)).2)).take (Zab (l.drop ((Zab l).2+(Zab (l.drop (Zab l).2)).2))).2=Lib.uvarint (Zab (l.drop ((Zab l).2+(Zab (l.drop (Zab l).2)).2))).1:=by
   rcases Zay (l.drop ((Zab l).2+(Zab (l.drop (Zab l).2)).2)) with e | e
   ·rw[e] at f;exact absurd rfl f
   ·exact e.2.2.2
  generalize (Zab (l.drop ((Zab l).2+(Zab (l.drop (Zab l).2)).2))).2=k at *;generalize (Zab (l.drop ((Zab l).2+(Zab (l.drop (Zab l).2)).2))).1=C at *;generalize (Zab (l.drop (Zab l).2)).2=j at *;generalize (Zab (l.drop (Zab l).2)).1=a at *;generalize (Zab l).2=i at *;generalize (Zab l).1=kind at *;unfold Zpb at h ⊢
  cases hr:ZdL C (l.drop (i+j+k)) with
  | none=>rw[hr] at h;cases h
  | some x=>
   obtain⟨xs,u⟩:=x;rw[hr] at h;simp only at h ⊢;obtain⟨A,E,p,F⟩:=Zfk _ _ _ _ hr;by_cases d:u≠(l.drop (i+j+k)).length
   ·rw[if_pos d] at h;cases h
   ·rw[if_neg d] at h ⊢
    by_cases c:ZcD (mkS kind a xs)
    ·rw[if_pos c]
     refine⟨c,?_⟩;have t:u=(l.drop (i+j+k)).length:=Classical.byContradiction d;rw[t,List.take_length] at p;have z:(mkS kind a xs).kind.toNat=kind:=by simp[mkS]
     have w:ZeH (mkS kind a xs)=a:=by
      unfold ZeH mkS;by_cases m:0<a
      ·simp[m];omega
      ·simp[m];omega
     show Lib.uvarint (mkS kind a xs).kind.toNat++(Lib.uvarint (ZeH (mkS kind a xs))++(Lib.uvarint xs.length++ZcR xs))=l;rw[z,w,A,p,<-q,<-v,<-B];have D:l.drop (i+j)=(l.drop i).drop j:=by rw[drop_drop]
     have y:l.drop (i+j+k)=((l.drop i).drop j).drop k:=by rw[drop_drop,drop_drop,Nat.add_assoc]
     rw[D,y,List.take_append_drop,List.take_append_drop,List.take_append_drop]
    ·rw[if_neg c] at h;cases h
end Go.Proofs.YtnahjngbneicaaaGreatDoor
