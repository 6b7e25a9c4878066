import Derived.Test.YtnahjngbneicaaaGreatDoorRows
import Derived.WalkKit
import Derived.ProofKit
import Derived.Lib.VarintMem
import Derived.Lib.Zigzag
import Derived.Lib.Endian
import Derived.Lib.VarintBits
import Derived.BigQuiet
import Derived.Deep.DeepCutAuto
import Derived.Deep.RegionHeld
import Derived.Maps.AppendAt
namespace Go.Proofs.YtnahjngbneicaaaGreatDoor
open _root_.Go.Proofs.Tryz
open List (append_assoc cons_append drop_drop foldl_append getElem_mem length_append length_cons length_take map_cons map_nil mem_cons_of_mem mem_cons_self pairwise_cons)
set_option maxRecDepth 100000
variable {p:Prop} {B B' C R T b c cap f m m' n:Nat} {a:Bool} {w w':World} {g key kind least lo:Int} {v:Value} {l:List Int} {x:Addr} {cs:Array Value}
theorem _root_.Go.RowKit.Hid.o (h:Go.RowKit.Hid p):p:=h
theorem zL:n<=n:=Nat.le_refl n
open Go.RowKit
theorem Xn {a:World} (h:Below B a w) (n:Nat):Below B a (w.drewN n):=⟨h.os,h.tape,h.output,h.size,h.block⟩
theorem ZZ (h:p):Hid p:=h
theorem ZdY {b:Bool} (h:a=b):Ending.returned (.bool a)=.returned (.bool b):=by rw[h]
structure Fl where
 b:List UInt8
 k:Nat
inductive Ch where
 | give (n:Int) (f:Nat)
 | move (n tz:Int) (f:Nat)
 | take (n:Int)
abbrev Dir:=List (Int × Nat)
def Y5 (l:Dir):Prop:=l.Pairwise (fun p q=>p.1<q.1)
def ZbC (l:Dir):Prop:=l.Pairwise (fun p q=>p.2≠q.2)
def look:Dir->Int->Option Nat
 | [],_=>none
 | p::l,n=>if p.1=n then some p.2 else look l n
def ZiR (n:Int) (f:Nat):Bool->Dir->Dir
 | done,[]=>if done then[] else[(n,f)]
 | done,p::l=>(if !done && decide (p.1>n) then[(n,f)] else[])++((if p.1≠n then[p] else[])++ZiR n f (done || decide (p.1>n)) l)
def ZfH (l:Dir) (n:Int):Option Nat->Dir
 | some f=>ZiR n f false l
 | none=>ZiR n 0 true l
theorem ZgL {α:Type} (c:Prop) [Decidable c] (x p:α):p ∈ (if c then[x] else[])↔c∧p=x:=by
 split <;> simp_all
theorem Zbh (n:Int) (f:Nat) (p:Int × Nat):∀ (l:Dir) (done:Bool),p ∈ ZiR n f done l↔(p ∈ l∧p.1≠n)∨(done=false∧p=(n,f))
 | [],done=>by cases done <;> simp[ZiR]
 | q::l,done=>by
  rw[ZiR,List.mem_append,List.mem_append,Zbh n f p l,ZgL,ZgL,List.mem_cons]
  cases done <;> grind
theorem ZcW (l:Dir) (n:Int) (o:Option Nat) (p:Int × Nat):p ∈ ZfH l n o↔(p ∈ l∧p.1≠n)∨(p.1=n∧o=some p.2):=by
 cases o with
 | none=>rw[ZfH,Zbh];simp
 | some f=>
  rw[ZfH,Zbh];constructor
  ·rintro(h | ⟨_,h⟩)
   ·exact .inl h
   ·exact .inr (by rw[h];exact⟨rfl,rfl⟩)
  ·rintro(h | ⟨h1,h2⟩)
   ·exact .inl h
   ·refine .inr ⟨rfl,?_⟩
    obtain⟨a,b⟩:=p;simp only [Option.some.injEq] at h2;simp only at h1;rw[h1,h2]
theorem Zdx (n:Int) (f:Nat):∀ (l:Dir) (done:Bool),Y5 l->(done=true->∀ p ∈ l,p.1>n)->Y5 (ZiR n f done l)
 | [],done,_,_=>by cases done <;> simp[ZiR,Y5]
 | q::l,done,h,hd=>by
  unfold Y5 at h;rw[pairwise_cons] at h;rw[ZiR];unfold Y5;by_cases a:q.1>n
  ·have c:q.1≠n:=by omega
   have b:=Zdx n f l true h.2 (fun _ p hp=>by have:=h.1 p hp;omega)
   have e:(done || decide (q.1>n))=true:=by rw[decide_eq_true a,Bool.or_true]
   rw[e,if_pos c]
   have d:(q::ZiR n f true l).Pairwise (fun p q=>p.1<q.1):=by
    refine List.pairwise_cons.2 ⟨fun p hp=>?_,b⟩
    rcases(Zbh n f p l true).1 hp with ⟨hp,_⟩ | ⟨hp,_⟩
    ·exact h.1 p hp
    ·cases hp
   cases done
   ·rw[if_pos (by simp[a])]
    refine List.pairwise_cons.2 ⟨fun p hp=>?_,d⟩
    rcases List.mem_cons.1 hp with rfl | hp
    ·exact a
    ·rcases(Zbh n f p l true).1 hp with ⟨hp,_⟩ | ⟨hp,_⟩
     ·have:=h.1 p hp;simp only;omega
     ·cases hp
   ·rw[if_neg (by simp)]
    exact d
  ·have e:(done || decide (q.1>n))=done:=by rw[decide_eq_false a,Bool.or_false]
   have i:done=false:=by
    cases done
    ·rfl
    ·exact absurd (hd rfl q (mem_cons_self ..)) a
   subst i;rw[e,if_neg (by simp[a])]
   have b:=Zdx n f l false h.2 (fun g=>by cases g)
   by_cases c:q.1=n
   ·rw[if_neg (by simp[c])]
    exact b
   ·rw[if_pos c]
    refine List.pairwise_cons.2 ⟨fun p hp=>?_,b⟩
    rcases(Zbh n f p l false).1 hp with ⟨hp,_⟩ | ⟨_,hp⟩
    ·exact h.1 p hp
    ·rw[hp];simp only;omega
theorem ZdZ (n:Int) (f:Nat):∀ l:Dir,ZiR n f true l=l.filter (fun p=>decide (p.1≠n))
 | []=>rfl
 | q::l=>by
  rw[ZiR,Bool.true_or,ZdZ n f l,List.filter_cons];by_cases h:q.1=n <;> simp[h]
theorem Jv {l:Dir} (h:Y5 l) (n:Int) (o:Option Nat):Y5 (ZfH l n o):=by
 cases o with
 | none=>
  rw[ZfH,ZdZ];exact h.sublist List.filter_sublist
 | some f=>exact Zdx n f l false h (fun a=>by cases a)
theorem Zdy (n:Int) (f:Nat):∀ (l:Dir) (done:Bool),(ZiR n f done l).length<=l.length+(if done then 0 else 1)
 | [],done=>by cases done <;> simp[ZiR]
 | q::l,done=>by
  have a:=Zdy n f l (done || decide (q.1>n));rw[ZiR,length_append,length_append,length_cons]
  cases done <;> grind
theorem Zdz (l:Dir) (n:Int) (o:Option Nat):(ZfH l n o).length<=l.length+1:=by
 cases o with
 | none=>have:=Zdy n 0 l true;simp at this;rw[ZfH];omega
 | some f=>have:=Zdy n f l false;simpa[ZfH] using this
theorem Je {l:Dir} (h:Y5 l) (n:Int) (f:Nat):look l n=some f↔(n,f) ∈ l:=by
 induction l with
 | nil=>simp[look]
 | cons p l d=>
  unfold Y5 at h;rw[pairwise_cons] at h;rw[look];by_cases e:p.1=n
  ·rw[if_pos e]
   constructor
   ·intro c
    have:p=(n,f):=by
     obtain⟨a,b⟩:=p;simp only [Option.some.injEq] at c;simp only at e;rw[e,c]
    rw[this];exact mem_cons_self ..
   ·intro hm
    rcases List.mem_cons.1 hm with hm | hm
    ·rw[<-hm]
    ·have:=h.1 _ hm
     simp only at this;omega
  ·rw[if_neg e,d h.2]
   constructor
   ·exact fun hm=>mem_cons_of_mem _ hm
   ·intro hm
    rcases List.mem_cons.1 hm with hm | hm
    ·exact absurd (by rw[<-hm]) e
    ·exact hm
theorem Zcx {l:Dir} (h:Y5 l) (n:Int) (o:Option Nat) (m:Int):look (ZfH l n o) m=if m=n then o else look l m:=by
 have c:=Jv h n o;apply Option.ext;intro f;rw[Je c,ZcW];by_cases e:m=n
 ·rw[if_pos e]
  constructor
  ·rintro(⟨_,b⟩ | ⟨_,b⟩)
   ·exact absurd e b
   ·exact b
  ·exact fun b=>.inr ⟨e,b⟩
 ·rw[if_neg e,Je h]
  constructor
  ·rintro(⟨a,_⟩ | ⟨a,_⟩)
   ·exact a
   ·exact absurd a e
  ·exact fun a=>.inl ⟨a,e⟩
theorem ZfI {l:Dir} (h:Y5 l):(l.map Prod.fst).Pairwise (·<·):=by
 rw[List.pairwise_map];exact h
theorem ZfJ:∀ {a b:List Int},a.Pairwise (·<·)->b.Pairwise (·<·)->(∀ x,x ∈ a↔x ∈ b)->a=b
 | [],[],_,_,_=>rfl
 | [],y::b,_,_,h=>by have:=(h y).2 (mem_cons_self ..);cases this
 | x::a,[],_,_,h=>by have:=(h x).1 (mem_cons_self ..);cases this
 | x::a,y::b,ha,hb,h=>by
  rw[pairwise_cons] at ha hb
  have d:x=y:=by
   rcases List.mem_cons.1 ((h x).1 (mem_cons_self ..)) with e | hx
   ·exact e
   ·rcases List.mem_cons.1 ((h y).2 (mem_cons_self ..)) with e | hy
    ·exact e.symm
    ·have:=ha.1 y hy
     have:=hb.1 x hx;omega
  subst d;rw[ZfJ ha.2 hb.2 fun z=>?_]
  constructor
  ·intro c
   rcases List.mem_cons.1 ((h z).1 (mem_cons_of_mem _ c)) with e | hz'
   ·have:=ha.1 z c;omega
   ·exact hz'
  ·intro c
   rcases List.mem_cons.1 ((h z).2 (mem_cons_of_mem _ c)) with e | hz'
   ·have:=hb.1 z c;omega
   ·exact hz'
theorem Zjs (n:Int) (f:Nat):∀ (l:Dir) (done:Bool),ZbC l->(done=false->∀ p ∈ l,p.1≠n->p.2≠f)->ZbC (ZiR n f done l)
 | [],done,_,_=>by cases done <;> simp[ZiR,ZbC]
 | q::l,done,h,hd=>by
  unfold ZbC at h;rw[pairwise_cons] at h;rw[ZiR];have c:=Zjs n f l (done || decide (q.1>n)) h.2 (fun e p hp g=>hd (by cases done <;> simp_all) p (mem_cons_of_mem _ hp) g)
  have d:∀ a:q.1≠n,(q::ZiR n f (done || decide (q.1>n)) l).Pairwise (fun p q=>p.2≠q.2):=by
   intro a;refine List.pairwise_cons.2 ⟨fun p hp=>?_,c⟩
   rcases(Zbh n f p l _).1 hp with ⟨hp,_⟩ | ⟨hdn,hp⟩
   ·exact h.1 p hp
   ·rw[hp]
    exact hd (by cases done <;> simp_all) q (mem_cons_self ..) a
  unfold ZbC;by_cases a:q.1=n
  ·rw[if_neg (by simp[a]),if_neg (by simp[a])]
   exact c
  ·rw[if_pos a]
   by_cases b:(!done && decide (q.1>n))=true
   ·rw[if_pos b]
    simp only [Bool.and_eq_true,Bool.not_eq_true',decide_eq_true_eq] at b;refine List.pairwise_cons.2 ⟨fun p hp=>?_,d a⟩
    rcases List.mem_cons.1 hp with rfl | hp
    ·exact fun e=>hd b.1 p (mem_cons_self ..) a e.symm
    ·rcases(Zbh n f p l _).1 hp with ⟨hp,i⟩ | ⟨hdn,_⟩
     ·exact fun e=>hd b.1 p (mem_cons_of_mem _ hp) i e.symm
     ·rw[decide_eq_true b.2] at hdn
      simp at hdn
   ·rw[if_neg b]
    exact d a
theorem Zjt {l:Dir} (h:ZbC l) (n:Int) (f:Nat) (a:∀ p ∈ l,p.1≠n->p.2≠f):ZbC (ZfH l n (some f)):=
 Zjs n f l false h fun _=>a
theorem Zju {l:Dir} (h:ZbC l) (n:Int):ZbC (ZfH l n none):=by
 rw[ZfH,ZdZ];exact h.sublist List.filter_sublist
def chD (l:Dir):Ch->Dir
 | .give n f=>ZfH l n (some f)
 | .move n tz f=>ZfH (ZfH l n none) tz (some f)
 | .take n=>ZfH l n none
theorem ZeX {l:Dir} (h:Y5 l) (c:Ch):Y5 (chD l c):=by
 cases c with
 | give n f=>rw[chD];exact Jv h _ _
 | move n tz f=>rw[chD];exact Jv (Jv h _ _) _ _
 | take n=>rw[chD];exact Jv h _ _
theorem ZqA (l:Dir) (c:Ch):(chD l c).length<=l.length+1:=by
 cases c with
 | give n f=>rw[chD];exact Zdz _ _ _
 | move n tz f=>
  have b:=Zdz (ZfH l n none) tz (some f);have a:(ZfH l n none).length<=l.length:=by rw[ZfH,ZdZ];exact List.length_filter_le _ _
  rw[chD];omega
 | take n=>rw[chD];exact Zdz _ _ _
def chF (f:Int->Option Nat):Ch->Int->Option Nat
 | .give n x=>fun m=>if m=n then some x else f m
 | .move n tz x=>fun m=>if m=n then none else if m=tz then some x else f m
 | .take n=>fun m=>if m=n then none else f m
theorem ZcX {l:Dir} (h:Y5 l) (c:Ch) (b:∀ n a f,c=.move n a f->n≠a) (m:Int):look (chD l c) m=chF (look l) c m:=by
 cases c with
 | give n f=>rw[chD];exact Zcx h _ _ _
 | move n a f=>
  have d:=b n a f rfl;rw[chD,Zcx (Jv h _ _),Zcx h];show _=(if m=n then none else if m=a then some f else look l m)
  grind
 | take n=>rw[chD];exact Zcx h _ _ _
def Zx (a:Int) (all:Nat):Nat:=if a<0 then 0 else(a % ((all:Int)+1)).toNat
theorem Zea (a:Int) (b:Nat):Zx a b<=b:=by
 unfold Zx;split
 ·omega
 ·have:=Int.emod_lt_of_pos a (show(0:Int)<(b:Int)+1 by omega)
  omega
def Zgl (keep:List Int) (i:Nat):Int:=if keep.length=0 then 0 else keep.getD (i % keep.length) 0
def Zjv (x:Fl) (a:Int):Fl:=⟨x.b.take (x.k+Zx a (x.b.length-x.k)),x.k+Zx a (x.b.length-x.k)⟩
def fl (fs:List Fl) (f:Nat):Fl:=fs.getD f ⟨[],0⟩
def Qu (keep:List Int):Dir->Nat->List Fl->List Fl
 | [],_,fs=>fs
 | p::l,i,fs=>Qu keep l (i+1) (fs.set p.2 (Zjv (fl fs p.2) (Zgl keep i)))
theorem Jj (keep:List Int):∀ (l:Dir) (i:Nat) (fs:List Fl),(Qu keep l i fs).length=fs.length
 | [],_,_=>rfl
 | p::l,i,fs=>by rw[Qu,Jj keep l,List.length_set]
theorem ZgM (keep:List Int):∀ (l:Dir) (p:Int × Nat) (i:Nat) (fs:List Fl),Qu keep (l++[p]) i fs=(Qu keep l i fs).set p.2 (Zjv (fl (Qu keep l i fs) p.2) (Zgl keep (i+l.length)))
 | [],p,i,fs=>by simp[Qu]
 | q::l,p,i,fs=>by
  rw[cons_append,Qu,Qu,ZgM keep l p (i+1)];rw[length_cons,show i+1+l.length=i+(l.length+1) by omega]
theorem ZbR {fs:List Fl} (h:f<fs.length) (x:Fl):fl (fs.set f x) f=x:=by
 unfold fl;simp[List.getD,h]
theorem Zab {fs:List Fl} {g:Nat} (h:f≠g) (x:Fl):fl (fs.set f x) g=fl fs g:=by
 unfold fl;simp[List.getD,h]
theorem Zbi (keep:List Int):∀ (l:Dir) (i:Nat) (fs:List Fl) (g:Nat),(∀ p ∈ l,p.2≠g)->fl (Qu keep l i fs) g=fl fs g
 | [],_,_,_,_=>rfl
 | p::l,i,fs,g,h=>by
  rw[Qu,Zbi keep l (i+1) _ g fun q a=>h q (mem_cons_of_mem _ a),Zab (h p (mem_cons_self ..))]
structure Dk where
 room:Int
 files:List Fl
 kept:Dir
 waits:List Ch
 power:Int
def Zy (d:Dk) (k:Nat):Dir:=(d.waits.take k).foldl chD d.kept
def Q6 (d:Dk):Dir:=d.waits.foldl chD d.kept
def Y1 (fs:List Fl) (l:Dir):Nat:=(l.map fun p=>(fl fs p.2).b.length).sum
def Zj (d:Dk):Nat:=Y1 d.files (Q6 d)
def totF (fs:List Fl):Nat:=(fs.map fun x=>x.b.length).sum
def Zcv (p:Int):Int:=if p>0 then p-1 else p
def ZfK (n:Int):Bool:=decide (0<=n) && decide (n<1048576)
def ZiS (room:Int):Dk:=⟨room,[],[],[],-1⟩
def Zk (d:Dk) (n:Int):Dk:={ d with files:=d.files++[⟨[],0⟩],waits:=d.waits++[.give n d.files.length] }
def ZbD (fs:List Fl) (f:Nat) (b:List UInt8):List Fl:=fs.set f ⟨(fl fs f).b++b,(fl fs f).k⟩
def appendTo (d:Dk) (f:Nat) (b:List UInt8):Dk:={ d with files:=ZbD d.files f b,power:=Zcv d.power }
def Xe (d:Dk) (n:Int) (b:List UInt8):Dk × Int:=
 if d.power=0 then(d,11) else if ZfK n=false then(d,1) else if(Zj d:Int)+b.length>d.room then(d,10) else
 match look (Q6 d) n with
 | some f=>(appendTo d f b,0)
 | none=>(appendTo (Zk d n) d.files.length b,0)
def Z1 (d:Dk) (n:Int):List UInt8 × Int:=
 if d.power=0 then([],11) else
 match look (Q6 d) n with
 | some f=>((fl d.files f).b,0)
 | none=>([],8)
def Zeb (fs:List Fl) (f:Nat):List Fl:=fs.set f ⟨(fl fs f).b,(fl fs f).b.length⟩
def Jf (d:Dk) (n:Int):Dk × Int:=
 if d.power=0 then(d,11) else
 match look (Q6 d) n with
 | some f=>({ d with files:=Zeb d.files f,power:=Zcv d.power },0)
 | none=>(d,8)
def Zam (d:Dk) (n tz:Int):Dk × Int:=
 if d.power=0 then(d,11) else
 match look (Q6 d) n with
 | some f=>if ZfK tz=false then(d,1) else if n=tz then({ d with power:=Zcv d.power },0) else
  ({ d with waits:=d.waits++[.move n tz f],power:=Zcv d.power },0)
 | none=>(d,8)
def Qp (d:Dk) (n:Int):Dk × Int:=
 if d.power=0 then(d,11) else
 match look (Q6 d) n with
 | some _=>({ d with waits:=d.waits++[.take n],power:=Zcv d.power },0)
 | none=>(d,8)
def Xs (d:Dk):Dk × Int:=
 if d.power=0 then(d,11) else({ d with kept:=Q6 d,waits:=[],power:=Zcv d.power },0)
def Zvn (d:Dk) (n:Int):Dk:={ d with power:=if d.power=0 then 0 else max n 0 }
def Zl (d:Dk) (names:Int) (keep:List Int):Dk:=
 let l:=Zy d (Zx names d.waits.length)
 { d with files:=Qu keep l 0 d.files,kept:=l,waits:=[],power:=-1 }
def ZsI (m:Nat):Ch->Prop
 | .give n f=>ZfK n=true∧f<m
 | .move n tz f=>ZfK n=true∧ZfK tz=true∧n≠tz∧f<m
 | .take n=>ZfK n=true
structure OkL (m:Nat) (l:Dir):Prop where
 rise:Y5 l
 apart:ZbC l
 may:∀ p ∈ l,ZfK p.1=true∧p.2<m
structure OkD (d:Dk):Prop where
 dirs:∀ k,OkL d.files.length (Zy d k)
 chs:∀ c ∈ d.waits,ZsI d.files.length c
 keep:∀ x ∈ d.files,x.k<=x.b.length
theorem ZcY (d:Dk):Zy d d.waits.length=Q6 d:=by rw[Zy,Q6,List.take_length]
theorem ZlC (d:Dk):Zy d 0=d.kept:=by rw[Zy];rfl
theorem ZsM (d:Dk) {k:Nat} (h:k<d.waits.length):Zy d (k+1)=chD (Zy d k) d.waits[k]:=by
 rw[Zy,Zy,List.take_succ_eq_append_getElem h,foldl_append];rfl
theorem OkD.dir {d:Dk} (h:OkD d):OkL d.files.length (Q6 d):=by rw[<-ZcY];exact h.dirs _
theorem OkD.kept {d:Dk} (h:OkD d):OkL d.files.length d.kept:=by rw[<-ZlC];exact h.dirs _
theorem OkL.more {l:Dir} (h:OkL m l) (b:m<=m'):OkL m' l:=
 ⟨h.rise,h.apart,fun p a=>⟨(h.may p a).1,by have:=(h.may p a).2;omega⟩⟩
theorem ZsI.more {c:Ch} (h:ZsI m c) (a:m<=m'):ZsI m' c:=by
 cases c with
 | give n f=>exact⟨h.1,by have:=h.2;omega⟩
 | move n tz f=>exact⟨h.1,h.2.1,h.2.2.1,by have:=h.2.2.2;omega⟩
 | take n=>exact h
theorem Zxc (m:Nat):OkL m []:=⟨List.Pairwise.nil,List.Pairwise.nil,fun p a=>by cases a⟩
theorem ZsN (room:Int):OkD (ZiS room):=by
 refine⟨fun k=>?_,(fun c b=>by cases b),(fun x a=>by cases a)⟩
 rw[Zy];show OkL 0 ((([]:List Ch).take k).foldl chD []);rw[List.take_nil];exact Zxc _
theorem OkD.wait {d:Dk} (h:OkD d) {c:Ch} {fs:List Fl} {p:Int} (a:d.files.length<=fs.length) (g:∀ x ∈ fs,x.k<=x.b.length) (i:ZsI fs.length c) (e:OkL fs.length (chD (Q6 d) c)):
 OkD { d with files:=fs,waits:=d.waits++[c],power:=p }:=by
 refine⟨fun k=>?_,fun c' hc'=>?_,g⟩
 ·show OkL fs.length (((d.waits++[c]).take k).foldl chD d.kept)
  by_cases f:k<=d.waits.length
  ·rw[List.take_append_of_le_length f]
   exact(h.dirs k).more a
  ·rw[List.take_of_length_le (by simp;omega),foldl_append]
   exact e
 ·rcases List.mem_append.1 hc' with hc' | hc'
  ·exact(h.chs c' hc').more a
  ·rw[List.mem_singleton.1 hc']
   exact i
theorem OkD.bytes {d:Dk} (h:OkD d) {fs:List Fl} {p:Int} (a:d.files.length=fs.length) (e:∀ x ∈ fs,x.k<=x.b.length):OkD { d with files:=fs,power:=p }:=by
 refine⟨fun k=>?_,fun c f=>?_,e⟩
 ·show OkL fs.length (Zy d k)
  rw[<-a];exact h.dirs k
 ·show ZsI fs.length c
  rw[<-a];exact h.chs c f
theorem OkD.power {d:Dk} (h:OkD d) (p:Int):OkD { d with power:=p }:=h.bytes (fs:=d.files) rfl h.keep
theorem Zgx {d:Dk} {fs:List Fl} {l:Dir} {p:Int} (a:OkL fs.length l) (e:∀ x ∈ fs,x.k<=x.b.length):OkD { d with files:=fs,kept:=l,waits:=[],power:=p }:=by
 refine⟨fun k=>?_,(fun c f=>by cases f),e⟩
 show OkL fs.length ((([]:List Ch).take k).foldl chD l);rw[List.take_nil];exact a
theorem OkD.fresh {d:Dk} (h:OkD d) {n:Int} (c:ZfK n=true):OkD (Zk d n):=by
 have b:=h.dir;refine OkD.wait (p:=d.power) h (by simp) (fun x hx=>?_) ⟨c,by simp⟩ ⟨?_,?_,?_⟩
 ·rcases List.mem_append.1 hx with hx | hx
  ·exact h.keep x hx
  ·rw[List.mem_singleton.1 hx];exact Nat.le_refl _
 ·exact ZeX b.rise _
 ·rw[chD]
  exact Zjt b.apart n _ fun p a _=>by have:=(b.may p a).2;omega
 ·intro p a
  rw[chD,ZcW] at a;simp only [length_append,List.length_singleton];rcases a with ⟨a,_⟩ | ⟨a,e⟩
  ·exact⟨(b.may p a).1,by have:=(b.may p a).2;omega⟩
  ·rw[a]
   have:=Option.some.inj e;exact⟨c,by omega⟩
theorem ZqB {d:Dk} (h:OkD d) (n:Int):look (Q6 (Zk d n)) n=some d.files.length:=by
 have e:Q6 (Zk d n)=chD (Q6 d) (.give n d.files.length):=by
  show(d.waits++[_]).foldl chD d.kept=_;rw[foldl_append];rfl
 rw[e,ZcX h.dir.rise _ (fun _ _ _ a=>by cases a)]
 show(if n=n then _ else _)=_
 rw[if_pos rfl]
theorem Zjw (d:Dk) (n:Int):Q6 (Zk d n)=chD (Q6 d) (.give n d.files.length):=by
 show(d.waits++[_]).foldl chD d.kept=_;rw[foldl_append];rfl
theorem ZbE {fs:List Fl} (h:f<fs.length):fl fs f ∈ fs:=by
 unfold fl;rw[List.getD,List.getElem?_eq_getElem h];exact getElem_mem h
theorem Zgy {fs:List Fl} (h:∀ x ∈ fs,x.k<=x.b.length) (f:Nat) {y:Fl} (c:y.k<=y.b.length):∀ x ∈ fs.set f y,x.k<=x.b.length:=by
 intro x a;rcases List.mem_or_eq_of_mem_set a with a | rfl
 ·exact h x a
 ·exact c
theorem ZgN {fs:List Fl} (h:∀ x ∈ fs,x.k<=x.b.length) (f:Nat):(fl fs f).k<=(fl fs f).b.length:=by
 by_cases a:f<fs.length
 ·exact h _ (ZbE a)
 ·unfold fl
  rw[List.getD,List.getElem?_eq_none (by omega)]
  exact Nat.le_refl _
theorem OkD.appendTo {d:Dk} (h:OkD d) (f:Nat) (b:List UInt8):OkD (appendTo d f b):=by
 refine h.bytes (by simp[ZbD]) (Zgy h.keep f ?_)
 have:=ZgN h.keep f;simp only [length_append];omega
theorem OkD.append {d:Dk} (h:OkD d) (n:Int) (b:List UInt8):OkD (Xe d n b).1:=by
 unfold Xe;split
 ·exact h
 ·split
  ·exact h
  ·rename_i a
   split
   ·exact h
   ·split
    ·exact h.appendTo _ b
    ·exact(h.fresh (by simpa using a)).appendTo _ b
theorem OkD.sync {d:Dk} (h:OkD d) (n:Int):OkD (Jf d n).1:=by
 unfold Jf;split
 ·exact h
 ·split
  ·exact h.bytes (by simp[Zeb]) (Zgy h.keep _ zL)
  ·exact h
theorem OkL.mayOf {l:Dir} (h:OkL m l) {n:Int} {f:Nat} (e:look l n=some f):ZfK n=true∧f<m:=h.may (n,f) ((Je h.rise n f).1 e)
theorem ZpE:∀ {l:Dir},ZbC l->∀ {p q:Int × Nat},p ∈ l->q ∈ l->p≠q->p.2≠q.2
 | [],_,_,_,hp,_,_=>by cases hp
 | a::l,h,p,q,hp,hq,hne=>by
  unfold ZbC at h;rw[pairwise_cons] at h;rcases List.mem_cons.1 hp with c | hp1
  ·rcases List.mem_cons.1 hq with b | hq1
   ·exact absurd (c.trans b.symm) hne
   ·rw[c];exact h.1 q hq1
  ·rcases List.mem_cons.1 hq with b | hq1
   ·rw[b];exact fun e=>h.1 p hp1 e.symm
   ·exact ZpE (l:=l) h.2 hp1 hq1 hne
theorem OkD.moved {d:Dk} (h:OkD d) {n m:Int} {f:Nat} (g:look (Q6 d) n=some f) (i:ZfK m=true) (k:n≠m) (q:Int):OkD { d with waits:=d.waits++[.move n m f],power:=q }:=by
 have b:=h.dir;have c:=b.mayOf g;refine OkD.wait (fs:=d.files) h zL h.keep ⟨c.1,i,k,c.2⟩ ⟨ZeX b.rise _,?_,?_⟩
 ·rw[chD]
  refine Zjt (Zju b.apart n) m f fun p a _=>?_
  rw[ZcW] at a;rcases a with ⟨a,j⟩ | ⟨_,a⟩
  ·intro e
   have l:=(Je b.rise n f).1 g;have:=ZpE b.apart a l (by intro e;rw[e] at j;exact j rfl)
   exact this e
  ·cases a
 ·intro p a
  rw[chD,ZcW,ZcW] at a;rcases a with ⟨⟨a,_⟩ | ⟨_,a⟩,_⟩ | ⟨a,e⟩
  ·exact b.may p a
  ·cases a
  ·rw[a]
   exact⟨i,by rw[<-Option.some.inj e];exact c.2⟩
theorem OkD.rename {d:Dk} (h:OkD d) (n m:Int):OkD (Zam d n m).1:=by
 unfold Zam;split
 ·exact h
 ·split
  ·rename_i f b
   split
   ·exact h
   ·rename_i c
    split
    ·exact h.power _
    ·rename_i a
     exact h.moved b (by simpa using c) a _
  ·exact h
theorem OkD.taken {d:Dk} (h:OkD d) {n:Int} {f:Nat} (c:look (Q6 d) n=some f) (q:Int):OkD { d with waits:=d.waits++[.take n],power:=q }:=by
 have b:=h.dir;have e:=b.mayOf c;refine OkD.wait (fs:=d.files) h zL h.keep e.1 ⟨ZeX b.rise _,?_,?_⟩
 ·rw[chD];exact Zju b.apart n
 ·intro p a
  rw[chD,ZcW] at a;rcases a with ⟨a,_⟩ | ⟨_,a⟩
  ·exact b.may p a
  ·cases a
theorem OkD.remove {d:Dk} (h:OkD d) (n:Int):OkD (Qp d n).1:=by
 unfold Qp;split
 ·exact h
 ·split
  ·rename_i f a
   exact h.taken a _
  ·exact h
theorem OkD.syncDir {d:Dk} (h:OkD d):OkD (Xs d).1:=by
 unfold Xs;split
 ·exact h
 ·exact Zgx (fs:=d.files) h.dir h.keep
theorem OkD.cut {d:Dk} (h:OkD d) (n:Int):OkD (Zvn d n):=h.power _
theorem ZsO {x:Fl} (h:x.k<=x.b.length) (a:Int):(Zjv x a).k<=(Zjv x a).b.length:=by
 have:=Zea a (x.b.length-x.k);unfold Zjv;simp only [length_take];omega
theorem ZpF {x:Fl} (h:x.k<=x.b.length) (a:Int):(Zjv x a).b.length=(Zjv x a).k:=by
 have:=Zea a (x.b.length-x.k);unfold Zjv;simp only [length_take];omega
theorem ZgO (keep:List Int):∀ (l:Dir) (i:Nat) (fs:List Fl),(∀ x ∈ fs,x.k<=x.b.length)->∀ x ∈ Qu keep l i fs,x.k<=x.b.length
 | [],_,_,h=>h
 | p::l,i,fs,h=>by
  rw[Qu];exact ZgO keep l (i+1) _ (Zgy h _ (ZsO (ZgN h _) _))
theorem OkD.crash {d:Dk} (h:OkD d) (names:Int) (keep:List Int):OkD (Zl d names keep):=
 Zgx (fs:=Qu keep (Zy d (Zx names d.waits.length)) 0 d.files) (by rw[Jj];exact h.dirs _) (ZgO keep _ 0 _ h.keep)
def val:List UInt8->Nat
 | []=>0
 | c::r=>c.toNat % 128+128*val r
def dec:Nat->List UInt8->Option (Nat × Nat)
 | 0,_=>none
 | _+1,[]=>none
 | n+1,c::r=>if c.toNat<128 then some (c.toNat,1) else
  match dec n r with
  | some (v+1,k)=>some (c.toNat % 128+128*(v+1),k+1)
  | _=>none
def Qd (l:List UInt8):Nat × Nat:=
 match dec 10 l with
 | some (v,k)=>if v<18446744073709551616 then(v,k) else(0,0)
 | none=>(0,0)
def Qb (l:List UInt8):Nat × Nat:=if(Qd l).1<4611686018427387904 then Qd l else(0,0)
theorem ZwS:∀ l:List UInt8,val l<128 ^ l.length
 | []=>by simp[val]
 | c::r=>by
  have h:=ZwS r;simp only [val,length_cons,Nat.pow_succ];omega
theorem ZpG:∀ (l:List UInt8) (c:UInt8),val (l++[c])=val l+c.toNat % 128*128 ^ l.length
 | [],c=>by simp[val]
 | d::r,c=>by
  have h:=ZpG r c;simp only [cons_append,val,length_cons,Nat.pow_succ,h];rw[Nat.mul_add,<-Nat.mul_assoc,Nat.mul_comm 128 (c.toNat % 128),Nat.mul_assoc,Nat.mul_comm 128 (128 ^ r.length)];omega
theorem ZgP (l:List UInt8) (k:Nat) (h:k<l.length):l.take (k+1)=l.take k++[l.getD k 0]:=by
 rw[List.take_succ_eq_append_getElem h];simp[List.getD,h]
theorem Zec (l:List UInt8) (k:Nat) (h:k<l.length):val (l.take (k+1))=val (l.take k)+(l.getD k 0).toNat % 128*128 ^ k:=by
 rw[ZgP l k h,ZpG,length_take,Nat.min_eq_left (by omega)]
theorem ZsP:∀ (k n:Nat) (l:List UInt8),k<n->k<l.length->(∀ j,j<k->128<=(l.getD j 0).toNat)->(l.getD k 0).toNat<128->
 dec n l=if 0<k∧(l.getD k 0).toNat=0 then none else some (val (l.take (k+1)),k+1)
 | 0,n+1,c::r,_,_,_,h=>by
  have q:c.toNat<128:=by simpa using h
  simp only [dec,q,if_true];simp[val];omega
 | k+1,n+1,c::r,hn,hl,hj,h=>by
  have x:128<=c.toNat:=by simpa using hj 0 (by omega)
  have b:=ZsP k n r (by omega) (by simpa using hl) (fun j y=>by simpa using hj (j+1) (by omega)) (by simpa using h)
  have u:((c::r).getD (k+1) 0)=r.getD k 0:=by simp
  simp only [dec];rw[if_neg (show ¬ c.toNat<128 by omega),u]
  have d:k<r.length:=by simpa using hl
  have p:(r.getD k 0).toNat % 128=(r.getD k 0).toNat:=Nat.mod_eq_of_lt (by simpa using h)
  by_cases a:(r.getD k 0).toNat=0
  ·rw[if_pos ⟨Nat.succ_pos k,a⟩]
   have v:dec n r=none∨dec n r=some (0,1):=by
    by_cases f:0<k
    ·exact .inl (by rw[b,if_pos ⟨f,a⟩])
    ·obtain rfl:k=0:=by omega
     have g:val (r.take (0+1))=0:=by
      rw[Zec r 0 d,a];simp[val]
     exact .inr (by rw[b,if_neg (fun e=>f e.1),g])
   rcases v with e | e <;> rw[e]
  ·have g:0<val (r.take (k+1)):=by
    rw[Zec r k d,p];have t:0<128 ^ k:=Nat.pow_pos (by decide)
    have w:0<(r.getD k 0).toNat*128 ^ k:=Nat.mul_pos (by omega) t
    omega
   obtain⟨m,i⟩:∃ m,val (r.take (k+1))=m+1:=⟨val (r.take (k+1))-1,by omega⟩
   have e:dec n r=some (m+1,k+1):=by rw[b,if_neg (fun e=>a e.2),i]
   rw[e,if_neg (fun e=>a e.2)]
   simp only [List.take_succ_cons,val,i]
theorem Zkr:∀ (n:Nat) (l:List UInt8),(∀ j,j<n->j<l.length->128<=(l.getD j 0).toNat)->dec n l=none
 | 0,_,_=>rfl
 | n+1,[],_=>rfl
 | n+1,c::r,h=>by
  have e:128<=c.toNat:=by simpa using h 0 (by omega) (by simp)
  have a:=Zkr n r (fun j d b=>by simpa using h (j+1) (by omega) (by simpa using b))
  simp only [dec];rw[if_neg (by omega),a]
theorem ZgQ:∀ (n u:Nat) (t:List UInt8),(Lib.uvarint u).length<=n->dec n (Lib.uvarint u++t)=some (u,(Lib.uvarint u).length)
 | 0,u,_,h=>by have:=Lib.uvarint_pos u;omega
 | n+1,u,t,h=>by
  by_cases b:u<128
  ·rw[Lib.uvarint_small b]
   have e:(u.toUInt8).toNat=u:=Lib.toUInt8_toNat (by omega)
   simp only [cons_append,dec,e,b,if_true];simp
  ·rw[Lib.uvarint_big (by omega)] at h ⊢
   have e:((u % 128+128).toUInt8).toNat=u % 128+128:=Lib.toUInt8_toNat (by omega)
   have a:=ZgQ n (u / 128) t (by simpa using h)
   obtain⟨m,c⟩:∃ m,u / 128=m+1:=⟨u / 128-1,by omega⟩
   rw[c] at a ⊢;simp only [cons_append,dec,e];rw[if_neg (by omega),a]
   simp only [length_cons,Option.some.injEq,Prod.mk.injEq,and_true];omega
theorem ZlD:∀ (n:Nat) (l:List UInt8) (v k:Nat),dec n l=some (v,k)->k<=l.length∧1<=k∧l.take k=Lib.uvarint v
 | 0,_,_,_,h=>by simp[dec] at h
 | n+1,[],_,_,h=>by simp[dec] at h
 | n+1,c::r,v,k,h=>by
  simp only [dec] at h;by_cases a:c.toNat<128
  ·rw[if_pos a] at h
   simp only [Option.some.injEq,Prod.mk.injEq] at h;obtain⟨rfl,rfl⟩:=h;refine⟨by simp,by omega,?_⟩
   rw[Lib.uvarint_small a];simp
  ·rw[if_neg a] at h
   cases hd:dec n r with
   | none=>rw[hd] at h;simp at h
   | some p=>
    obtain⟨v',f⟩:=p;rw[hd] at h
    cases v' with
    | zero=>simp at h
    | succ m=>
     simp only [Option.some.injEq,Prod.mk.injEq] at h;obtain⟨rfl,rfl⟩:=h;have b:=ZlD n r (m+1) f hd;have g:=c.toNat_lt;refine⟨by simpa using b.1,by omega,?_⟩
     rw[Lib.uvarint_big (by omega),List.take_succ_cons,b.2.2]
     have d:(c.toNat % 128+128*(m+1)) % 128+128=c.toNat:=by omega
     have e:(c.toNat % 128+128*(m+1)) / 128=m+1:=by omega
     rw[d,e];simp
theorem Zu (u:Nat) (t:List UInt8) (h:u<18446744073709551616):Qd (Lib.uvarint u++t)=(u,(Lib.uvarint u).length):=by
 unfold Qd;rw[ZgQ 10 u t (Lib.uvarint_length64 h)];simp[h]
theorem X3 (u:Nat) (t:List UInt8) (h:u<4611686018427387904):Qb (Lib.uvarint u++t)=(u,(Lib.uvarint u).length):=by
 unfold Qb;rw[Zu u t (by omega)]
 simp[h]
theorem Zo (l:List UInt8):Qd l=(0,0)∨((Qd l).1<18446744073709551616∧1<=(Qd l).2∧(Qd l).2<=l.length∧l.take (Qd l).2=Lib.uvarint (Qd l).1):=by
 unfold Qd
 cases h:dec 10 l with
 | none=>exact .inl rfl
 | some p=>
  obtain⟨v,k⟩:=p;have a:=ZlD 10 l v k h;by_cases b:v<18446744073709551616
  ·simp only [b,if_true]
   exact .inr ⟨trivial,a.2.1,a.1,a.2.2⟩
  ·simp only [b,if_false]
   exact .inl trivial
theorem Zks (l:List UInt8):(Qd l).1<18446744073709551616:=by
 rcases Zo l with h | h
 ·rw[h];decide
 ·exact h.1
theorem Jz (l:List UInt8):(Qd l).2<=l.length:=by
 rcases Zo l with h | h
 ·rw[h];exact Nat.zero_le _
 ·exact h.2.2.1
theorem Q4 (l:List UInt8):Qb l=(0,0)∨((Qb l).1<4611686018427387904∧1<=(Qb l).2∧(Qb l).2<=l.length∧l.take (Qb l).2=Lib.uvarint (Qb l).1):=by
 unfold Qb;by_cases h:(Qd l).1<4611686018427387904
 ·rw[if_pos h]
  rcases Zo l with e | e
  ·exact .inl e
  ·exact .inr ⟨h,e.2⟩
 ·rw[if_neg h]
  exact .inl rfl
theorem pow7 (k:Nat):2 ^ (7*k)=128 ^ k:=by rw[Nat.pow_mul]
theorem ZfL:∀ (n u j:Nat),(Lib.uvarint u).length<=n->j+1<(Lib.uvarint u).length->128<=((Lib.uvarint u).getD j 0).toNat
 | 0,u,_,h,_=>by have:=Lib.uvarint_pos u;omega
 | n+1,u,j,h,hj=>by
  by_cases a:u<128
  ·rw[Lib.uvarint_small a] at hj
   simp at hj
  ·rw[Lib.uvarint_big (by omega)] at h hj ⊢
   cases j with
   | zero=>
    have e:((u % 128+128).toUInt8).toNat=u % 128+128:=Lib.toUInt8_toNat (by omega)
    simp only [List.getD_cons_zero,e];omega
   | succ j=>
    simp only [length_cons] at h hj;simp only [List.getD_cons_succ];exact ZfL n (u / 128) j (by omega) (by omega)
def Rd (w:World) (v:Value) (l:List UInt8):Prop:=
 ∃ ao cap,v=.slice ao l.length cap∧l.length<=cap∧cap<=maxLen∧(ao=none->cap=0)∧
  (l=[]∨∃ b off,ao=some ⟨b,off,none⟩∧∀ j,j<l.length->w.cell? ⟨b,off+j,none⟩=some (.int .u8 (l.getD j 0).toNat))
def Own (w:World) (B:Nat) (v:Value) (l:List UInt8):Prop:=w.ownsRow B 5 1 v l.length (Lib.byteCells l)
theorem Yi (l:List UInt8):(Lib.byteCells l).length=l.length:=by simp[Lib.byteCells]
theorem ZbS (l:List UInt8) (j:Nat) (h:j<l.length):(Lib.byteCells l)[j]?=some (.int .u8 (l.getD j 0).toNat):=by
 simp[Lib.byteCells,List.getD,h]
theorem ZaD (l:List UInt8):∀ u ∈ Lib.byteCells l,u.oneCell'=true:=by
 intro u a;obtain⟨_,_,rfl⟩:=List.mem_map.1 a;rfl
theorem Rd.nil (w:World):Rd w (.slice none 0 0) []:=⟨none,0,rfl,Nat.le_refl _,Nat.zero_le _,fun _=>rfl,.inl rfl⟩
theorem Rd.below {l:List UInt8} (h:Rd w v l) {B:Nat} (e:Below B w w') (m:w.heap.size<=B):Rd w' v l:=by
 obtain⟨ao,cap,n,g,t,q,c⟩:=h;refine⟨ao,cap,n,g,t,q,?_⟩;rcases c with c | ⟨b,a,k,u⟩
 ·exact .inl c
 ·refine .inr ⟨b,a,k,fun j i=>?_⟩
  have d:=u j i;have f:b<w.heap.size:=World.block_lt_of_cell? w ⟨b,a+j,none⟩ d;rw[e.cell (p:=⟨b,a+j,none⟩) (by exact Nat.lt_of_lt_of_le f m)]
  exact d
theorem Rd.at {l:List UInt8} (h:Rd w (.slice (some ⟨b,f,none⟩) n cap) l) (j:Nat) (c:j<l.length):w.cell? ⟨b,f+j,none⟩=some (.int .u8 (l.getD j 0).toNat):=by
 obtain⟨ao,k,e,_,_,_,a⟩:=h;simp only [Value.slice.injEq] at e;obtain⟨rfl,_,rfl⟩:=e;rcases a with a | ⟨b',i,d,g⟩
 ·subst a
  simp at c
 ·simp only [Option.some.injEq,Addr.mk.injEq,and_true] at d
  obtain⟨rfl,rfl⟩:=d;exact g j c
theorem Rd.ofRow {a:List Int} (C:c<=cap) (k:cap<=maxLen) (D:a.length=cap) (f:∀ i,i<a.length->w.cell? (x.add i)=some (.int .u8 (a.getD i 0))) (u:∀ n ∈ a,(Lit.int .u8 n).wf=true):
 Rd w (.slice (some x) c cap) ((a.take c).map fun n=>UInt8.ofNat n.toNat):=by
 have z:((a.take c).map fun n=>UInt8.ofNat n.toNat).length=c:=by simp;omega
 refine⟨some x,cap,by rw[z],by omega,k,(fun e=>by cases e),?_⟩
 by_cases p:c=0
 ·exact .inl (by rw[p];rfl)
 ·obtain⟨b,v,spot⟩:=x
  have m:=f 0 (by omega)
  have t:spot=none:=by simpa[Addr.add] using World.cell?_spot m
  subst t;refine .inr ⟨b,v,rfl,fun j B=>?_⟩
  have d:j<a.length:=by omega
  have g:=f j d;rw[Addr.add_lit] at g;rw[g];have q:a[j] ∈ a:=getElem_mem d;have l:=u _ q;have A:0<=a[j]∧a[j]<=255:=by simpa[Lit.wf,IntKind.min,IntKind.max,IntKind.signed,IntKind.bits] using l
  have e:(((a.take c).map fun n=>UInt8.ofNat n.toNat).getD j 0)=UInt8.ofNat (a[j]).toNat:=by
   simp[List.getD,d,show j<c by omega]
  rw[e];have y:a.getD j 0=a[j]:=by simp[List.getD,d]
  rw[y,UInt8.toNat_ofNat']
  congr 2
  omega
theorem Own.rd {l:List UInt8} (h:Own w B v l):Rd w v l:=by
 rcases h.2 with ⟨a,b⟩ | ⟨g,cap,cur,a,i,n,d,f,m,k⟩
 ·exact⟨none,0,by rw[a,b],by omega,Nat.zero_le _,fun _=>rfl,.inl (List.eq_nil_of_length_eq_zero b)⟩
 ·refine⟨some ⟨g,0,none⟩,cap,a,d,f,(fun e=>by cases e),.inr ⟨g,0,rfl,fun j c=>?_⟩⟩
  have:=World.ownsRow.cells h (g:=g) (by rw[a];rfl) j _ (ZbS l j c)
  rw[Addr.add_lit] at this;exact this
theorem Own.mono {l:List UInt8} (h:Own w B v l) (e:B'<=B):Own w B' v l:=by
 obtain⟨b,a⟩:=h;refine⟨b,?_⟩;rcases a with a | ⟨g,cap,cur,c,d,r⟩
 ·exact .inl a
 ·exact .inr ⟨g,cap,cur,c,by omega,r⟩
theorem Own.below {l:List UInt8} (h:Own w B v l) (c:Below B' w w') (j:w.heap.size<=B'):Own w' B v l:=by
 obtain⟨d,a⟩:=h;refine⟨d,?_⟩;rcases a with a | ⟨g,cap,cur,e,f,b,r⟩
 ·exact .inl a
 ·have i:g<w.heap.size:=(Array.getElem?_eq_some_iff.1 b).1
  exact .inr ⟨g,cap,cur,e,f,by rw[c.block g (by omega)];exact b,r⟩
theorem Rd.cells {ao:Option Addr} {l:List UInt8} (h:l=[]∨∃ b c,ao=some ⟨b,c,none⟩∧∀ j,j<l.length->w.cell? ⟨b,c+j,none⟩=some (.int .u8 (l.getD j 0).toNat)):
 ∀ d,ao=some d->∀ j u,(Lib.byteCells l)[j]?=some u->w.cell? (d.add j)=some u:=by
 intro d f j u e
 have a:j<l.length:=by
  have:=(List.getElem?_eq_some_iff.1 e).1;simpa[Lib.byteCells] using this
 rcases h with rfl | ⟨b,c,g,i⟩
 ·simp at a
 ·rw[g] at f
  obtain rfl:=Option.some.inj f;rw[Addr.add_lit,i j a,<-ZbS l j a,e]
theorem Own.mk' {xs:List Value} {l:List UInt8} (h:w.ownsRow B 5 1 v n xs) (b:n=l.length) (a:xs=Lib.byteCells l):Own w B v l:=by
 subst b a;exact h
theorem Zkt:(prog.info? 5).map (fun i=>(i.zero,i.size,i.bytes))=some (some (.int .u8 0),1,1):=by kernel_rfl
theorem ZbT {k:IntKind} {a b:Int} (h:a=b):Ending.returned (.int k a)=.returned (.int k b):=by rw[h]
theorem ZsQ (n:Int) (d:-9223372036854775808<=n) (c:n<=9223372036854775807):
 bits .xor .u64 (IntKind.u64.wrap (IntKind.u64.wrap n*2)) (IntKind.u64.wrap (n / 9223372036854775808))=((Lib.zigzag n:Nat):Int):=by
 by_cases h:0<=n
 ·have b:IntKind.u64.wrap (IntKind.u64.wrap n*2)=(((2*n).toNat:Nat):Int):=by
   rw[IntKind.wrap_u64,IntKind.wrap_u64];omega
  have a:IntKind.u64.wrap (n / 9223372036854775808)=((0:Nat):Int):=by
   rw[IntKind.wrap_u64];omega
  rw[b,a,bits_xor_u64_nat _ _ (by omega) (by decide)]
  unfold Lib.zigzag;rw[if_pos h];simp
 ·have b:IntKind.u64.wrap (IntKind.u64.wrap n*2)=(((2*n+18446744073709551616).toNat:Nat):Int):=by
   rw[IntKind.wrap_u64,IntKind.wrap_u64];omega
  have a:IntKind.u64.wrap (n / 9223372036854775808)=((2 ^ 64-1:Nat):Int):=by
   rw[IntKind.wrap_u64];omega
  rw[b,a,bits_xor_u64_nat _ _ (by omega) (by decide),Nat.xor_comm,Lib.xor_ones64 _ (by omega)]
  unfold Lib.zigzag;rw[if_neg h];omega
def zag (u:Nat):Int:=if u % 2=0 then((u / 2:Nat):Int) else -((u / 2:Nat):Int)-1
theorem ZlE (x:Nat) (c:x<9223372036854775808):bits .xor .i64 (x:Int) (-1)=-(x:Int)-1:=by
 show IntKind.i64.wrap ((BitVec.ofInt 64 (x:Int) ^^^ BitVec.ofInt 64 (-1)).toNat:Int)=_;have b:(BitVec.ofInt 64 (-1)).toNat=2 ^ 64-1:=by decide
 have a:(BitVec.ofInt 64 (x:Int)).toNat=x:=by
  rw[BitVec.ofInt_natCast,BitVec.toNat_ofNat];exact Nat.mod_eq_of_lt (by omega)
 rw[BitVec.toNat_xor,b,a,Nat.xor_comm,Lib.xor_ones64 x (by omega),IntKind.wrap_i64]
 omega
theorem ZlF (x:Nat) (c:x<9223372036854775808):bits .xor .i64 (x:Int) 0=(x:Int):=by
 show IntKind.i64.wrap ((BitVec.ofInt 64 (x:Int) ^^^ BitVec.ofInt 64 0).toNat:Int)=_;have b:(BitVec.ofInt 64 0).toNat=0:=by decide
 have a:(BitVec.ofInt 64 (x:Int)).toNat=x:=by
  rw[BitVec.ofInt_natCast,BitVec.toNat_ofNat];exact Nat.mod_eq_of_lt (by omega)
 rw[BitVec.toNat_xor,b,a,Nat.xor_zero,IntKind.wrap_i64];omega
theorem ZsR (u:Nat) (h:u<18446744073709551616):
 bits .xor .i64 ((u:Int) / 2) (wrap64 (-wrap64 (bits .and .u64 (u:Int) 1)))=zag u:=by
 rw[Lib.u64_and1 _ (by omega) (by omega)]
 have e:(u:Int) / 2=((u / 2:Nat):Int):=by omega
 rw[e];unfold zag;by_cases b:u % 2=0
 ·have a:wrap64 (-wrap64 ((u:Int) % 2))=0:=by
   have:(u:Int) % 2=0:=by omega
   rw[this];unfold wrap64;omega
  rw[a,if_pos b,ZlF _ (by omega)]
 ·have a:wrap64 (-wrap64 ((u:Int) % 2))=-1:=by
   have:(u:Int) % 2=1:=by omega
   rw[this];unfold wrap64;omega
  rw[a,if_neg b,ZlE _ (by omega)]
theorem ZaM (n:Int) (b:-9223372036854775808<=n) (a:n<=9223372036854775807):zag (Lib.zigzag n)=n:=by
 unfold zag Lib.zigzag;split <;> split <;> omega
theorem ZbF (u:Nat):Lib.zigzag (zag u)=u:=by
 unfold zag Lib.zigzag;split <;> split <;> omega
theorem ZsS (u:Nat) (h:u<18446744073709551616):-9223372036854775808<=zag u∧zag u<=9223372036854775807:=by
 unfold zag;split <;> omega
theorem Zxd (n:Int) (w:World) (b:-9223372036854775808<=n) (a:n<=9223372036854775807):
 Calls prog 191 #[.int .i64 n] w fun e w'=>e=.returned (.int .u64 (Lib.zigzag n:Nat))∧w'=w:=by
 have H:Hid (bits .xor .u64 (IntKind.u64.wrap (IntKind.u64.wrap n*2)) (IntKind.u64.wrap (n / 9223372036854775808))=((Lib.zigzag n:Nat):Int)):=ZsQ n b a
 go_enter func191,ntmps191
 go_wp2;go_ret;exact⟨ZbT H.out,rfl⟩
theorem Zxe (u:Nat) (w:World) (h:u<18446744073709551616):
 Calls prog 220 #[.int .u64 (u:Int)] w fun e w'=>e=.returned (.int .i64 (zag u))∧w'=w:=by
 have H:Hid (bits .xor .i64 ((u:Int) / 2) (wrap64 (-wrap64 (bits .and .u64 (u:Int) 1)))=zag u):=ZsR u h
 go_enter func220,ntmps220
 go_wp2;go_ret;exact⟨ZbT H.out,rfl⟩
theorem Qc (h:p):Hid p:=h
def I64 (n:Int):Prop:=-9223372036854775808<=n∧n<=9223372036854775807
def RdI (w:World) (v:Value) (l:List Int):Prop:=
 ∃ ao cap,v=.slice ao l.length cap∧l.length<=cap∧cap<=maxLen∧(ao=none->cap=0)∧(∀ n ∈ l,I64 n)∧
  (l=[]∨∃ b off,ao=some ⟨b,off,none⟩∧∀ j,j<l.length->w.cell? ⟨b,off+j,none⟩=some (.int .i64 (l.getD j 0)))
def Qn (l:List Int):List Value:=l.map (Value.int .i64)
def Qo (w:World) (B:Nat) (v:Value) (l:List Int):Prop:=w.ownsRow B 3 1 v l.length (Qn l)
theorem Yw (l:List Int):(Qn l).length=l.length:=by simp[Qn]
theorem Y3 (l:List Int) (j:Nat) (h:j<l.length):(Qn l)[j]?=some (.int .i64 (l.getD j 0)):=by
 simp[Qn,List.getD,h]
theorem ZlG (l:List Int):∀ u ∈ Qn l,u.oneCell'=true:=by
 intro u a;obtain⟨_,_,rfl⟩:=List.mem_map.1 a;rfl
theorem RdI.nil (w:World):RdI w (.slice none 0 0) []:=⟨none,0,rfl,Nat.le_refl _,Nat.zero_le _,fun _=>rfl,(fun n h=>by simp at h),.inl rfl⟩
theorem Qo.nil (w:World) (B:Nat):Qo w B (.slice none 0 0) []:=World.ownsRow_nil w B 3 1
theorem RdI.i64 (h:RdI w v l):∀ n ∈ l,I64 n:=by
 obtain⟨_,_,_,_,_,_,h,_⟩:=h;exact h
theorem Zvr (h:∀ n ∈ l,I64 n) (j:Nat):I64 (l.getD j 0):=by
 by_cases a:j<l.length
 ·have e:l.getD j 0=l[j]:=by simp[List.getD,a]
  rw[e];exact h _ (getElem_mem a)
 ·have e:l.getD j 0=0:=by simp[List.getD,a]
  rw[e];exact⟨by decide,by decide⟩
theorem RdI.below (h:RdI w v l) {B:Nat} (e:Below B w w') (n:w.heap.size<=B):RdI w' v l:=by
 obtain⟨ao,cap,q,g,u,t,m,c⟩:=h;refine⟨ao,cap,q,g,u,t,m,?_⟩;rcases c with c | ⟨b,a,k,x⟩
 ·exact .inl c
 ·refine .inr ⟨b,a,k,fun j i=>?_⟩
  have d:=x j i;have f:b<w.heap.size:=World.block_lt_of_cell? w ⟨b,a+j,none⟩ d;rw[e.cell (p:=⟨b,a+j,none⟩) (by exact Nat.lt_of_lt_of_le f n)]
  exact d
theorem RdI.ofRow {a:Nat} {c:List Int} (z:a<=cap) (g:cap<=maxLen) (A:c.length=cap) (d:∀ i,i<c.length->w.cell? (x.add i)=some (.int .i64 (c.getD i 0))) (t:∀ n ∈ c,(Lit.int .i64 n).wf=true):
 RdI w (.slice (some x) a cap) (c.take a):=by
 have v:(c.take a).length=a:=by simp;omega
 refine⟨some x,cap,by rw[v],by omega,g,(fun e=>by cases e),fun n p=>?_,?_⟩
 ·have:=t n (List.mem_of_mem_take p)
  simpa[I64,Lit.wf,IntKind.min,IntKind.max,IntKind.signed,IntKind.bits] using this
 ·by_cases m:a=0
  ·exact .inl (by rw[m];rfl)
  ·obtain⟨b,u,spot⟩:=x
   have k:=d 0 (by omega)
   have q:spot=none:=by simpa[Addr.add] using World.cell?_spot k
   subst q;refine .inr ⟨b,u,rfl,fun j y=>?_⟩
   have f:=d j (by omega)
   rw[Addr.add_lit] at f;rw[f];have l:j<a:=by omega
   simp[List.getD,l]
theorem Qo.rd (h:Qo w B v l) (b:∀ n ∈ l,I64 n):RdI w v l:=by
 rcases h.2 with ⟨a,c⟩ | ⟨g,cap,cur,a,k,q,f,i,p,m⟩
 ·exact⟨none,0,by rw[a,c],by omega,Nat.zero_le _,fun _=>rfl,b,.inl (List.eq_nil_of_length_eq_zero c)⟩
 ·refine⟨some ⟨g,0,none⟩,cap,a,f,i,(fun e=>by cases e),b,.inr ⟨g,0,rfl,fun j d=>?_⟩⟩
  have:=World.ownsRow.cells h (g:=g) (by rw[a];rfl) j _ (Y3 l j d)
  rw[Addr.add_lit] at this;exact this
theorem Qo.mono (h:Qo w B v l) (e:B'<=B):Qo w B' v l:=by
 obtain⟨b,a⟩:=h;refine⟨b,?_⟩;rcases a with a | ⟨g,cap,cur,c,d,r⟩
 ·exact .inl a
 ·exact .inr ⟨g,cap,cur,c,by omega,r⟩
theorem Qo.below (h:Qo w B v l) (c:Below B' w w') (j:w.heap.size<=B'):Qo w' B v l:=by
 obtain⟨d,a⟩:=h;refine⟨d,?_⟩;rcases a with a | ⟨g,cap,cur,e,f,b,r⟩
 ·exact .inl a
 ·have i:g<w.heap.size:=(Array.getElem?_eq_some_iff.1 b).1
  exact .inr ⟨g,cap,cur,e,f,by rw[c.block g (by omega)];exact b,r⟩
theorem Zku:(prog.info? 3).map (fun i=>(i.zero,i.size,i.bytes))=some (some (.int .i64 0),1,8):=by kernel_rfl
theorem ZiV (w:World) (ty:TypeId) (B:Nat) (v:Value) (l:List Int) (h:Qo w B v l) (n:Int) (z:l.length<=1000000) (p:B<=w.heap.size):
 ∃ v' w',(Builtin.append_ #[23,23] ty #[v,.slice (some ⟨w.heap.size,0,none⟩) 1 1]).run prog (w.alloc (.cells #[.int .i64 n] 3))=.ok v' w'∧Qo w' B v' (l++[n])∧Below B w w':=by
 obtain⟨y,g,t,f,d⟩:=info_parts Zku
 obtain⟨v',w',q,x,i,_⟩:=run_append_own (P:=prog) (w.alloc (.cells #[.int .i64 n] 3)) B 23 ty 3 y (.int .i64 0) 1 8 underlying23 g t f d rfl (by decide) v l.length (Qn l) (World.ownsRow.alloc h _)
  ⟨w.heap.size,0,none⟩ 1 1 [.int .i64 n] rfl (fun j u a=>by
   match j,a with
   | 0,a=>simp at a;subst a;simp[Addr.add]) (fun u b=>by simp at b;subst b;rfl) (by unfold maxLen;omega) (by omega) (by simp;omega)
 refine⟨v',w',q,?_,?_⟩
 ·unfold Qo
  have e:(l++[n]).length=l.length+1:=by simp
  have m:Qn (l++[n])=Qn l++[.int .i64 n]:=by simp[Qn]
  rw[e,m];exact x
 ·exact((Below.refl _ _).alloc p _).grown i (by simp;omega) (fun k c=>(World.ownsRow.lt h k c).1)
theorem ZeY (w:World) {b:Array Oper} {rest:List Oper} {o:Oper} {a:Act} {Q:Exit->Act->World->Prop} (j:o.guard=none) (s x:Operand)
 (q:o.op=.call { callee:=.builtin .append,args:=#[s,x],argTypes:=#[23,23] })
 (B:Nat) (v:Value) (l:List Int) (g:a.eval s=v) (e:Qo w B v l) (n:Int) (k:a.eval x=.slice (some ⟨w.heap.size,0,none⟩) 1 1)
 (f:l.length<=1000000) (m:B<=w.heap.size)
 (h:∀ v' w',Qo w' B v' (l++[n])->Below B w w'->wpList prog b Q rest (a.put o.dst v') w'):wpList prog b Q (o::rest) a (w.alloc (.cells #[.int .i64 n] 3)):=
 wpList_plain j fun _ d=>by
  obtain⟨v',w',p,c,i⟩:=ZiV w o.type B v l e n f m;unfold Oper.wp execOp;simp only [q,resolve,invoke,builtin,Sem.run_bind,Sem.run_pure,Result.andThen_ok,List.map_toArray,map_cons,map_nil,g,k,p];exact d _ _ (h v' w' c i)
def Zz (n:Int):Int:=if n < -1099511627776 then -1099511627776 else if 1099511627776<n then 1099511627776 else n
theorem ZbU (n:Int):-1099511627776<=Zz n∧Zz n<=1099511627776:=by
 unfold Zz;split
 ·omega
 ·split <;> omega
structure St where
 kind:Int
 L:List Int
 shut:Bool
 eng:Int
structure Opn where
 code:Int
 a:Int
 b:Int
def ZgR (least:Int) (l:List Int) (k:Nat):Prop:=
 0<=l.getD k 0∧l.getD k 0<=255∧(0<k->l.getD (k-2) 0<l.getD k 0)∧least<=l.getD (k+1) 0∧l.getD (k+1) 0<=1099511627776
instance (least:Int) (l:List Int) (k:Nat):Decidable (ZgR least l k):=by unfold ZgR;infer_instance
def Zan (least:Int) (l:List Int):Prop:=l.length % 2=0∧l.length<=128∧∀ k,k<l.length->k % 2=0->ZgR least l k
instance (least:Int) (l:List Int):Decidable (Zan least l):=by unfold Zan;infer_instance
def J0 (l:List Int):Prop:=∀ j,j<l.length->-1099511627776<=l.getD j 0∧l.getD j 0<=1099511627776
instance (l:List Int):Decidable (J0 l):=by unfold J0;infer_instance
def Yq (kind:Int) (l:List Int):Prop:=
 if kind=4 then Zan (-1099511627776) l else if kind=5 then Zan 0 l else l.length<=64∧(kind<=1->l.length=1)∧J0 l
instance (kind:Int) (l:List Int):Decidable (Yq kind l):=by unfold Yq;infer_instance
def X8 (s:St):Prop:=0<=s.eng∧s.eng<=2∧(s.shut=false->s.eng=0)∧0<=s.kind∧s.kind<6∧Yq s.kind s.L
instance (s:St):Decidable (X8 s):=by unfold X8;infer_instance
def Jg (o:Opn):Prop:=0<=o.code∧o.code<=10∧-1099511627776<=o.a∧o.a<=1099511627776∧-1099511627776<=o.b∧o.b<=1099511627776
instance (o:Opn):Decidable (Jg o):=by unfold Jg;infer_instance
def Jo (kind:Int):St:=if kind<0∨6<=kind then⟨0,[],false,0⟩ else⟨kind,if kind<=1 then[0] else[],false,0⟩
def Z8 (key:Int):Nat->List Int->Int
 | k,a::_::r=>if a=key then(k:Int) else Z8 key (k+2) r
 | _,_=>-1
def Q5 (key n:Int):Bool->List Int->List Int
 | done,a::b::r=>(if done=false∧key<=a then[key,n] else[])++((if a≠key then[a,b] else[])++Q5 key n (done || decide (key<=a)) r)
 | done,_=>if done then[] else[key,n]
def X9 (key:Int):List Int->List Int
 | a::b::r=>(if a≠key then[a,b] else[])++X9 key r
 | _=>[]
theorem ZsT (l:List Int) (k:Nat) (h:k+1<l.length):l.drop k=l.getD k 0::l.getD (k+1) 0::l.drop (k+2):=by
 rw[List.drop_eq_getElem_cons (show k<l.length by omega),List.drop_eq_getElem_cons h]
 simp[List.getD,h,show k<l.length by omega]
theorem ZfM (key n:Int):∀ (l:List Int) (done:Bool),(Q5 key n done l).length<=l.length+2
 | [],done=>by unfold Q5;split <;> simp
 | [a],done=>by unfold Q5;split <;> simp
 | a::b::r,done=>by
  have c:=ZfM key n r (done || decide (key<=a));unfold Q5
  have f:(if done=false∧key<=a then[key,n] else([]:List Int)).length+(Q5 key n (done || decide (key<=a)) r).length<=r.length+2:=by
   by_cases h:done=false∧key<=a
   ·rw[if_pos h]
    have e:(done || decide (key<=a))=true:=by simp[h.2]
    rw[e];have d:=withF_true key n r;simp;omega
   ·rw[if_neg h]
    simpa using c
  have d:(if a≠key then[a,b] else([]:List Int)).length<=2:=by split <;> simp
  simp only [length_append,length_cons];omega
where
 withF_true (key n:Int):∀ (l:List Int),(Q5 key n true l).length<=l.length
 | []=>by simp[Q5]
 | [a]=>by simp[Q5]
 | a::b::r=>by
  have ih:=withF_true key n r;unfold Q5;simp only [Bool.true_or];split <;> split <;> simp_all <;> omega
def ZdX (s:St) (o:Opn):St × Int:=
 if s.kind=0∧o.code=1 then(⟨s.kind,[Zz (s.L.getD 0 0+Zz o.a)],s.shut,s.eng⟩,s.L.getD 0 0) else
 if s.kind=1∧o.code=2 then(⟨s.kind,[Zz o.a],s.shut,s.eng⟩,s.L.getD 0 0) else
 if o.code=7 then(s,s.L.getD 0 0) else(s,0)
def Yy (s:St) (o:Opn):St × Int:=
 if o.code=3 then(if s.L.length=64 then(s,-1) else(⟨s.kind,s.L++[Zz o.a],s.shut,s.eng⟩,(s.L.length:Int)+1)) else
 if o.code=4 then(if s.L.length=0 then(s,-1) else if s.kind=2 then(⟨s.kind,s.L.drop 1,s.shut,s.eng⟩,s.L.getD 0 0) else(⟨s.kind,s.L.take (s.L.length-1),s.shut,s.eng⟩,s.L.getD (s.L.length-1) 0)) else
 if o.code=7 then(s,(s.L.length:Int)) else(s,0)
def ZqC (key:Int) (l:List Int):Int:=if 0<=Z8 key 0 l then l.getD ((Z8 key 0 l).toNat+1) 0 else -1
def Zcq (s:St) (o:Opn):St × Int:=
 if o.code≠7∧o.code≠6∧o.code≠5 then(s,0) else
 if o.a<0∨255<o.a then(s,-1) else
 if o.code=6 then(⟨s.kind,X9 o.a s.L,s.shut,s.eng⟩,ZqC o.a s.L) else
 if o.code=5 then(if Z8 o.a 0 s.L<0∧s.L.length=128 then(s,-2) else(⟨s.kind,Q5 o.a (Zz o.b) false s.L,s.shut,s.eng⟩,ZqC o.a s.L)) else
 (s,ZqC o.a s.L)
def Yh (key:Int) (l:List Int):Int:=if 0<=Z8 key 0 l then l.getD ((Z8 key 0 l).toNat+1) 0 else 0
def Zbe (s:St) (o:Opn):St × Int:=
 if o.a<0∨65535<o.a∨o.b<0 then(s,0) else
 if Z8 (o.a / 256) 0 s.L<0∨Yh (o.a / 256) s.L<o.b then(s,0) else
 if o.a / 256=o.a % 256 then(s,1) else
 if(Z8 (o.a % 256) 0 s.L<0∧s.L.length=128)∨1099511627776<Yh (o.a % 256) s.L+o.b then(s,0) else
 (⟨s.kind,Q5 (o.a % 256) (Yh (o.a % 256) s.L+o.b) false (Q5 (o.a / 256) (Yh (o.a / 256) s.L-o.b) false s.L),s.shut,s.eng⟩,1)
def Xv (s:St) (o:Opn):St × Int:=
 if o.code=9 then Zbe s o else
 if o.code≠7∧o.code≠8 then(s,0) else
 if o.a<0∨255<o.a then(s,-1) else
 if o.code=7 then(s,ZqC o.a s.L) else
 if o.b<0 then(s,-1) else
 if Z8 o.a 0 s.L<0∧s.L.length=128 then(s,-2) else
 (⟨s.kind,Q5 o.a (Zz (Yh o.a s.L+Zz o.b)) false s.L,s.shut,s.eng⟩,Zz (Yh o.a s.L+Zz o.b))
def Zcy (s:St) (o:Opn):St × Int:=
 if ¬ X8 s then(s,0) else
 if s.shut=true then(s,-1125899906842624) else
 if o.code=10 then(⟨s.kind,s.L,true,if 0<=o.a∧o.a<=2 then o.a else s.eng⟩,0) else
 if s.kind<=1 then ZdX s o else if s.kind<=3 then Yy s o else if s.kind=4 then Zcq s o else Xv s o
def Qr (least:Int):Int->List Int->Prop
 | lo,a::b::r=>lo<a∧a<=255∧least<=b∧b<=1099511627776∧Qr least a r
 | _,[]=>True
 | _,[_]=>False
def Zed (least lo:Int) (l:List Int) (k:Nat):Prop:=
 (if k=0 then lo else l.getD (k-2) 0)<l.getD k 0∧l.getD k 0<=255∧least<=l.getD (k+1) 0∧l.getD (k+1) 0<=1099511627776
theorem Zee (least lo a b:Int) (r:List Int) (k:Nat) (d:k % 2=0):Zed least lo (a::b::r) (k+2)↔Zed least a r k:=by
 unfold Zed;rw[if_neg (by omega)]
 by_cases c:k=0
 ·subst c
  rw[if_pos rfl];exact Iff.rfl
 ·rw[if_neg c]
  obtain⟨j,rfl⟩:∃ j,k=j+2:=⟨k-2,by omega⟩
  exact Iff.rfl
theorem ZcZ (least:Int):∀ (l:List Int) (lo:Int),Qr least lo l↔l.length % 2=0∧∀ k,k<l.length->k % 2=0->Zed least lo l k
 | [],lo=>by simp[Qr]
 | [a],lo=>by simp[Qr]
 | a::b::r,lo=>by
  have f:=ZcZ least r a;unfold Qr;rw[f];constructor
  ·rintro⟨h1,h2,h3,h4,h5,h6⟩
   refine⟨by simp;omega,fun k d e=>?_⟩
   by_cases c:k=0
   ·subst c
    exact⟨by rw[if_pos rfl];exact h1,h2,h3,h4⟩
   ·obtain⟨j,rfl⟩:∃ j,k=j+2:=⟨k-2,by omega⟩
    rw[Zee least lo a b r j (by omega)]
    exact h6 j (by simp at d;omega) (by omega)
  ·rintro⟨h1,h2⟩
   have c:=h2 0 (by simp) rfl
   unfold Zed at c;rw[if_pos rfl] at c;refine⟨c.1,c.2.1,c.2.2.1,c.2.2.2,by simp at h1;omega,fun k d e=>?_⟩
   rw[<-Zee least lo a b r k e];exact h2 (k+2) (by simp;omega) (by omega)
theorem ZgS (least:Int):∀ (l:List Int) (lo:Int) (k:Nat),Qr least lo l->k<l.length->k % 2=0->lo<l.getD k 0
 | [],_,_,_,hk,_=>by simp at hk
 | [a],_,_,h,_,_=>by simp[Qr] at h
 | a::b::r,lo,k,h,hk,hk2=>by
  unfold Qr at h;by_cases c:k=0
  ·subst c
   exact h.1
  ·obtain⟨j,rfl⟩:∃ j,k=j+2:=⟨k-2,by omega⟩
   have:=ZgS least r a j h.2.2.2.2 (by simp at hk;omega) (by omega)
   have e:(a::b::r).getD (j+2) 0=r.getD j 0:=rfl;rw[e];have:=h.1;omega
theorem ZgT (least:Int) (l:List Int):Zan least l↔l.length<=128∧Qr least (-1) l:=by
 constructor
 ·rintro⟨h1,h2,b⟩
  refine⟨h2,(ZcZ least l (-1)).2 ⟨h1,fun k a c=>?_⟩⟩
  obtain⟨i,d,e,f,g⟩:=b k a c;refine⟨?_,d,f,g⟩;split
  ·omega
  ·exact e (by omega)
 ·rintro⟨h1,h2⟩
  have b:=(ZcZ least l (-1)).1 h2;refine⟨b.1,h1,fun k a c=>?_⟩
  obtain⟨i,d,e,f⟩:=b.2 k a c;have g:=ZgS least l (-1) k h2 a c;refine⟨by omega,d,fun h=>?_,e,f⟩
  rwa [if_neg (by omega)] at i
theorem ZbG (h:Qr least lo l):l.length % 2=0:=((ZcZ least l lo).1 h).1
def Xx (key:Int):List Int->Option Int
 | a::b::r=>if a=key then some b else Xx key r
 | _=>none
theorem Jn (key a b:Int) (r:List Int):Xx key (a::b::r)=if a=key then some b else Xx key r:=rfl
theorem Zef (key:Int):∀ (l:List Int) (k:Nat),(Z8 key k l=-1∧Xx key l=none)∨(∃ j,Z8 key k l=((k+j:Nat):Int)∧j+1<l.length∧Xx key l=some (l.getD (j+1) 0)∧l.getD j 0=key)
 | [],_=>.inl ⟨rfl,rfl⟩
 | [_],_=>.inl ⟨rfl,rfl⟩
 | a::b::r,k=>by
  by_cases h:a=key
  ·right
   refine⟨0,by unfold Z8;rw[if_pos h];rfl,by simp,by unfold Xx;rw[if_pos h];rfl,h⟩
  ·rcases Zef key r (k+2) with ⟨c,d⟩ | ⟨j,c,d,f,e⟩
   ·left
    exact⟨by unfold Z8;rw[if_neg h];exact c,by unfold Xx;rw[if_neg h];exact d⟩
   ·right
    refine⟨j+2,?_,by simp;omega,?_,e⟩
    ·unfold Z8
     rw[if_neg h,c]
     congr 1
     omega
    ·unfold Xx
     rw[if_neg h,f];rfl
theorem Zeg (key:Int) (l:List Int):Z8 key 0 l<0↔Xx key l=none:=by
 rcases Zef key l 0 with ⟨a,b⟩ | ⟨j,a,b,c,d⟩
 ·rw[a,b]
  simp
 ·rw[a,c]
  simp
theorem ZnK (key:Int) (l:List Int):ZqC key l=(Xx key l).getD (-1):=by
 unfold ZqC;rcases Zef key l 0 with ⟨a,b⟩ | ⟨j,a,b,c,d⟩
 ·rw[a,b,if_neg (by omega)]
  rfl
 ·rw[a,c,if_pos (by omega)]
  simp
theorem ZgU (key:Int) (l:List Int):Yh key l=(Xx key l).getD 0:=by
 unfold Yh;rcases Zef key l 0 with ⟨a,b⟩ | ⟨j,a,b,c,d⟩
 ·rw[a,b,if_neg (by omega)]
  rfl
 ·rw[a,c,if_pos (by omega)]
  simp
theorem ZaN:∀ {l:List Int} {lo:Int},Qr least lo l->key<=lo->Xx key l=none
 | [],_,_,_=>rfl
 | [_],_,h,_=>by simp[Qr] at h
 | a::b::r,lo,h,hk=>by
  unfold Qr at h;unfold Xx;rw[if_neg (by omega)]
  exact ZaN h.2.2.2.2 (by omega)
theorem Zkv {v:Int}:∀ {l:List Int} {lo:Int},Qr least lo l->Xx key l=some v->lo<key∧key<=255∧least<=v∧v<=1099511627776
 | [],_,_,h=>by simp[Xx] at h
 | [_],_,h,_=>by simp[Qr] at h
 | a::b::r,lo,h,hg=>by
  unfold Qr at h;unfold Xx at hg;by_cases e:a=key
  ·rw[if_pos e] at hg
   injection hg with hg
   omega
  ·rw[if_neg e] at hg
   have:=Zkv h.2.2.2.2 hg;omega
theorem ZeZ (key n least:Int):∀ (l:List Int) (lo:Int),Qr least lo l->key<=lo->Q5 key n true l=l
 | [],_,_,_=>rfl
 | [_],_,h,_=>by simp[Qr] at h
 | a::b::r,lo,h,hk=>by
  unfold Qr at h;unfold Q5;rw[if_neg (by simp),if_pos (by omega),Bool.true_or,ZeZ key n least r a h.2.2.2.2 (by omega)]
  rfl
theorem ZaO (key n least a b:Int) (r:List Int) (lo:Int) (h:Qr least lo (a::b::r)):
 Q5 key n false (a::b::r)=if key<a then key::n::a::b::r else if key=a then key::n::r else a::b::Q5 key n false r:=by
 unfold Qr at h
 conv=>lhs;unfold Q5
 by_cases c:key<a
 ·rw[if_pos c,if_pos ⟨rfl,by omega⟩,if_pos (by omega),decide_eq_true (by omega),Bool.false_or,ZeZ key n least r a h.2.2.2.2 (by omega)]
  rfl
 ·rw[if_neg c]
  by_cases d:key=a
  ·rw[if_pos d,if_pos ⟨rfl,by omega⟩,if_neg (by omega),decide_eq_true (by omega),Bool.false_or,ZeZ key n least r a h.2.2.2.2 (by omega)]
   rfl
  ·rw[if_neg d,if_neg (by omega),if_pos (by omega),decide_eq_false (by omega),Bool.false_or]
   rfl
theorem ZaT (key n least:Int) (c:least<=n) (d:n<=1099511627776) (f:key<=255):∀ (l:List Int) (lo:Int),Qr least lo l->lo<key->Qr least lo (Q5 key n false l)
 | [],lo,_,hlo=>by
  simp[Q5,Qr];omega
 | [_],_,h,_=>by simp[Qr] at h
 | a::b::r,lo,h,hlo=>by
  have g:=ZaT key n least c d f r a;rw[ZaO key n least a b r lo h];unfold Qr at h;split
  ·unfold Qr
   refine⟨hlo,f,c,d,?_⟩;unfold Qr;exact⟨by assumption,h.2⟩
  ·split
   ·rename_i e
    subst e;unfold Qr;exact⟨hlo,f,c,d,h.2.2.2.2⟩
   ·unfold Qr
    exact⟨h.1,h.2.1,h.2.2.1,h.2.2.2.1,g h.2.2.2.2 (by omega)⟩
theorem Zeh (key n least:Int):∀ (l:List Int) (lo:Int),Qr least lo l->(Q5 key n false l).length=if Xx key l=none then l.length+2 else l.length
 | [],lo,_=>by simp[Q5,Xx]
 | [_],_,h=>by simp[Qr] at h
 | a::b::r,lo,h=>by
  have g:=Zeh key n least r a;rw[ZaO key n least a b r lo h];unfold Qr at h;by_cases f:key<a
  ·have e:Xx key (a::b::r)=none:=by rw[Jn,if_neg (by omega),ZaN h.2.2.2.2 (by omega)]
   rw[if_pos f,if_pos e];simp
  ·rw[if_neg f]
   by_cases d:key=a
   ·have e:Xx key (a::b::r)≠none:=by rw[Jn,if_pos d.symm];simp
    rw[if_pos d,if_neg e];simp
   ·have e:Xx key (a::b::r)=Xx key r:=by rw[Jn,if_neg (by omega)]
    rw[if_neg d,e];have:=g h.2.2.2.2;simp only [length_cons,this];by_cases c:Xx key r=none
    ·rw[if_pos c,if_pos c]
    ·rw[if_neg c,if_neg c]
theorem ZlH (key n least:Int):∀ (l:List Int) (lo:Int),Qr least lo l->∀ k,Xx k (Q5 key n false l)=if k=key then some n else Xx k l
 | [],lo,_,k=>by
  simp[Q5,Xx,eq_comm]
 | [_],_,h,_=>by simp[Qr] at h
 | a::b::r,lo,h,k=>by
  have d:=ZlH key n least r a;rw[ZaO key n least a b r lo h];unfold Qr at h;by_cases f:key<a
  ·rw[if_pos f]
   by_cases e:k=key
   ·subst e
    rw[if_pos rfl,Xx,if_pos rfl]
   ·rw[if_neg e,Xx,if_neg (by omega)]
  ·rw[if_neg f]
   by_cases c:key=a
   ·rw[if_pos c]
    subst c;by_cases e:k=key
    ·subst e
     rw[if_pos rfl,Xx,if_pos rfl]
    ·rw[if_neg e,Xx,if_neg (by omega),Xx,if_neg (by omega)]
   ·rw[if_neg c]
    by_cases e:k=key
    ·subst e
     rw[if_pos rfl,Xx,if_neg (by omega),d h.2.2.2.2 k,if_pos rfl]
    ·rw[if_neg e,Xx]
     conv=>rhs;rw[Xx]
     rw[d h.2.2.2.2 k,if_neg e]
theorem Zad (key a b:Int) (r:List Int):X9 key (a::b::r)=if a≠key then a::b::X9 key r else X9 key r:=by
 rw[X9];split <;> rfl
theorem Zdm (key least:Int):∀ (l:List Int) (lo:Int),Qr least lo l->Qr least lo (X9 key l)
 | [],_,_=>by simp[X9,Qr]
 | [_],_,h=>by simp[Qr] at h
 | a::b::r,lo,h=>by
  have c:=Zdm key least r;rw[Zad];unfold Qr at h;split
  ·unfold Qr
   exact⟨h.1,h.2.1,h.2.2.1,h.2.2.2.1,c a h.2.2.2.2⟩
  ·exact lower (c a h.2.2.2.2) (by omega)
where
 lower {least lo lo':Int}:∀ {l:List Int},Qr least lo l->lo'<=lo->Qr least lo' l
 | [],_,_=>trivial
 | [_],h,_=>by simp[Qr] at h
 | a::b::r,h,hl=>by
  unfold Qr at h ⊢;exact⟨by omega,h.2⟩
theorem Zcz (key:Int):∀ (l:List Int),(X9 key l).length<=l.length
 | []=>by simp[X9]
 | [_]=>by simp[X9]
 | a::b::r=>by
  have c:=Zcz key r;rw[Zad];split <;> simp <;> omega
def ZsJ:List Int->Int
 | _::b::r=>b+ZsJ r
 | _=>0
theorem ZgV (key n least:Int):∀ (l:List Int) (lo:Int),Qr least lo l->ZsJ (Q5 key n false l)=ZsJ l+n-(Xx key l).getD 0
 | [],lo,_=>by simp[Q5,Xx,ZsJ]
 | [_],_,h=>by simp[Qr] at h
 | a::b::r,lo,h=>by
  have e:=ZgV key n least r a;rw[ZaO key n least a b r lo h];unfold Qr at h;by_cases d:key<a
  ·rw[if_pos d,Xx,if_neg (by omega),ZaN h.2.2.2.2 (by omega)]
   simp[ZsJ];omega
  ·rw[if_neg d]
   by_cases c:key=a
   ·rw[if_pos c,Xx,if_pos c.symm]
    simp[ZsJ];omega
   ·rw[if_neg c,Xx,if_neg (by omega),ZsJ,e h.2.2.2.2]
    simp[ZsJ];omega
theorem Ja (l:List Int):J0 l↔∀ x ∈ l,-1099511627776<=x∧x<=1099511627776:=by
 unfold J0;constructor
 ·intro h x b
  obtain⟨j,a,rfl⟩:=List.getElem_of_mem b;have:=h j a;simpa[List.getD,a] using this
 ·intro h j a
  have:=h l[j] (getElem_mem a);simpa[List.getD,a] using this
theorem Xz (a:kind≠4) (b:kind≠5):Yq kind l↔l.length<=64∧(kind<=1->l.length=1)∧J0 l:=by
 unfold Yq;rw[if_neg a,if_neg b]
theorem Zbj (l:List Int):Yq 4 l↔l.length<=128∧Qr (-1099511627776) (-1) l:=by
 unfold Yq;rw[if_pos rfl];exact ZgT _ _
theorem ZaE (l:List Int):Yq 5 l↔l.length<=128∧Qr 0 (-1) l:=by
 unfold Yq;rw[if_neg (by decide),if_pos rfl]
 exact ZgT _ _
theorem ZaF {s:St} (h:X8 s) {L:List Int} (a:Yq s.kind L):X8 ⟨s.kind,L,s.shut,s.eng⟩:=
 ⟨h.1,h.2.1,h.2.2.1,h.2.2.2.1,h.2.2.2.2.1,a⟩
theorem Zxf {s:St} (h:X8 s) (b:s.kind<=1) (o:Opn):X8 (ZdX s o).1:=by
 have c:=h.2.2.2.1;have one:∀ x:Int,Yq s.kind [Zz x]:=fun x=>(Xz (by omega) (by omega)).2 ⟨by simp,fun _=>rfl,(Ja _).2 (fun y a=>by rw[List.mem_singleton.1 a];exact ZbU x)⟩
 unfold ZdX;split
 ·exact ZaF h (one _)
 split
 ·exact ZaF h (one _)
 split
 ·exact h
 ·exact h
theorem Zvs {s:St} (h:X8 s) (c:¬ s.kind<=1) (d:s.kind<=3) (o:Opn):X8 (Yy s o).1:=by
 have a:=(Xz (by omega) (by omega)).1 h.2.2.2.2.2
 have b:=(Ja _).1 a.2.2;unfold Yy;split
 ·split
  ·exact h
  ·refine ZaF h ((Xz (by omega) (by omega)).2 ⟨?_,fun e=>absurd e c,(Ja _).2 fun x hx=>?_⟩)
   ·have:=a.1
    simp;omega
   ·rcases List.mem_append.1 hx with hx | hx
    ·exact b x hx
    ·rw[List.mem_singleton.1 hx];exact ZbU _
 split
 ·split
  ·exact h
  split
  ·refine ZaF h ((Xz (by omega) (by omega)).2 ⟨?_,fun e=>absurd e c,(Ja _).2 fun x hx=>b x (List.mem_of_mem_drop hx)⟩)
   have:=a.1;simp;omega
  ·refine ZaF h ((Xz (by omega) (by omega)).2 ⟨?_,fun e=>absurd e c,(Ja _).2 fun x hx=>b x (List.mem_of_mem_take hx)⟩)
   have:=a.1;simp;omega
 split
 ·exact h
 ·exact h
theorem ZsU (g:l.length<=128) (a:Qr least (-1) l) {key n:Int} (i:0<=key) (d:key<=255) (c:least<=n) (f:n<=1099511627776) (b:¬ (Z8 key 0 l<0∧l.length=128)):
 (Q5 key n false l).length<=128∧Qr least (-1) (Q5 key n false l):=by
 refine⟨?_,ZaT key n least c f d l (-1) a (by omega)⟩
 rw[Zeh key n least l (-1) a];have j:=ZbG a;rw[Zeg] at b;split
 ·rename_i h
  have:l.length≠128:=fun e=>b ⟨h,e⟩
  omega
 ·exact g
theorem ZsV {s:St} (h:X8 s) (c:s.kind=4) (o:Opn):X8 (Zcq s o).1:=by
 have b:=h.2.2.2.2.2;rw[c,Zbj] at b;unfold Zcq;split
 ·exact h
 split
 ·exact h
 split
 ·refine ZaF h ?_
  rw[c,Zbj];refine⟨?_,Zdm _ _ _ _ b.2⟩;have:=Zcz o.a s.L;omega
 split
 ·split
  ·exact h
  ·refine ZaF h ?_
   rw[c,Zbj];exact ZsU b.1 b.2 (by omega) (by omega) (ZbU _).1 (ZbU _).2 (by assumption)
 ·exact h
theorem ZaP (a:Qr 0 (-1) l) (key:Int):0<=Yh key l∧Yh key l<=1099511627776:=by
 rw[ZgU]
 cases h:Xx key l with
 | none=>simp
 | some v=>
  have:=Zkv a h;exact⟨this.2.2.1,this.2.2.2⟩
theorem ZqD (n:l.length<=128) (d:Qr 0 (-1) l) (a c b:Int) (z:0<=a) (q:a<=255) (C:0<=c) (m:c<=255) (x:0<=b) (g:¬ (Z8 a 0 l<0∨Yh a l<b)) (t:¬ a=c)
 (w:¬ ((Z8 c 0 l<0∧l.length=128)∨1099511627776<Yh c l+b)):
 (Q5 c (Yh c l+b) false (Q5 a (Yh a l-b) false l)).length<=128∧
 Qr 0 (-1) (Q5 c (Yh c l+b) false (Q5 a (Yh a l-b) false l))∧
 ZsJ (Q5 c (Yh c l+b) false (Q5 a (Yh a l-b) false l))=ZsJ l:=by
 have B:=ZaP d a;have A:=ZaP d c;have u:Xx a l≠none:=fun e=>g (.inl ((Zeg _ _).2 e))
 have y:¬ Yh a l<b:=fun e=>g (.inr e)
 have f:Qr 0 (-1) (Q5 a (Yh a l-b) false l):=ZaT _ _ _ (by omega) (by omega) q _ _ d (by omega)
 have p:(Q5 a (Yh a l-b) false l).length=l.length:=by rw[Zeh _ _ _ _ _ d,if_neg u]
 have v:=ZgV a (Yh a l-b) 0 l (-1) d;have j:Xx c (Q5 a (Yh a l-b) false l)=Xx c l:=by rw[ZlH _ _ _ _ _ d,if_neg (fun e=>t e.symm)]
 have k:=Zeh c (Yh c l+b) 0 _ (-1) f;have i:=ZgV c (Yh c l+b) 0 _ (-1) f;rw[j,p] at k;rw[j,v,<-ZgU,<-ZgU] at i;refine⟨?_,ZaT _ _ _ (by omega) (by omega) m _ _ f (by omega),by rw[i];omega⟩
 rw[k];have D:=ZbG d;split
 ·rename_i h
  have:l.length≠128:=fun e=>w (.inl ⟨(Zeg _ _).2 h,e⟩)
  omega
 ·exact n
theorem Zvt {s:St} (h:X8 s) (d:s.kind=5) (o:Opn):X8 (Zbe s o).1∧ZsJ (Zbe s o).1.L=ZsJ s.L∧((Zbe s o).2≠1->(Zbe s o).1=s)∧(Zbe s o).1.kind=s.kind∧(Zbe s o).1.shut=s.shut:=by
 have c:=h.2.2.2.2.2;rw[d,ZaE] at c;unfold Zbe;split
 ·exact⟨h,rfl,fun _=>rfl,rfl,rfl⟩
 split
 ·exact⟨h,rfl,fun _=>rfl,rfl,rfl⟩
 split
 ·exact⟨h,rfl,fun _=>rfl,rfl,rfl⟩
 split
 ·exact⟨h,rfl,fun _=>rfl,rfl,rfl⟩
 ·have:=ZqD c.1 c.2 (o.a / 256) (o.a % 256) o.b (by omega) (by omega) (by omega) (by omega) (by omega) (by assumption) (by assumption) (by assumption)
  refine⟨ZaF h ?_,this.2.2,fun e=>absurd rfl e,rfl,rfl⟩
  rw[d,ZaE];exact⟨this.1,this.2.1⟩
theorem ZqE {s:St} (h:X8 s) (d:s.kind=5) (o:Opn):X8 (Xv s o).1:=by
 have c:=h.2.2.2.2.2;rw[d,ZaE] at c;unfold Xv;split
 ·exact(Zvt h d o).1
 split
 ·exact h
 split
 ·exact h
 split
 ·exact h
 split
 ·exact h
 split
 ·exact h
 ·refine ZaF h ?_
  rw[d,ZaE];have i:=ZaP c.2 o.a;have g:=ZbU o.b
  have e:0<=Zz o.b:=by
   unfold Zz;split
   ·omega
   ·split <;> omega
  have f:0<=Zz (Yh o.a s.L+Zz o.b):=by
   unfold Zz;split
   ·have:=e;unfold Zz at this;omega
   ·split
    ·omega
    ·have:=e;unfold Zz at this;omega
  exact ZsU c.1 c.2 (by omega) (by omega) f (ZbU _).2 (by assumption)
theorem Zkw (s:St) (o:Opn):(ZdX s o).1.kind=s.kind∧(ZdX s o).1.shut=s.shut∧(ZdX s o).1.eng=s.eng:=by
 unfold ZdX
 repeat' split
 all_goals exact⟨rfl,rfl,rfl⟩
theorem ZgW (s:St) (o:Opn):(Yy s o).1.kind=s.kind∧(Yy s o).1.shut=s.shut∧(Yy s o).1.eng=s.eng:=by
 unfold Yy
 repeat' split
 all_goals exact⟨rfl,rfl,rfl⟩
theorem Zfa (s:St) (o:Opn):(Zcq s o).1.kind=s.kind∧(Zcq s o).1.shut=s.shut∧(Zcq s o).1.eng=s.eng:=by
 unfold Zcq
 repeat' split
 all_goals exact⟨rfl,rfl,rfl⟩
theorem ZdA (s:St) (o:Opn):(Xv s o).1.kind=s.kind∧(Xv s o).1.shut=s.shut∧(Xv s o).1.eng=s.eng:=by
 unfold Xv Zbe
 repeat' split
 all_goals exact⟨rfl,rfl,rfl⟩
theorem ZgX {s:St} (h:X8 s) (a:s.shut=true) (o:Opn):Zcy s o=(s,-1125899906842624):=by
 unfold Zcy;rw[if_neg (fun e=>e h),if_pos a]
theorem ZgY {s:St} (h:X8 s) (b:s.shut=false) (o:Opn) (c:o.code=10):Zcy s o=(⟨s.kind,s.L,true,if 0<=o.a∧o.a<=2 then o.a else s.eng⟩,0):=by
 unfold Zcy;rw[if_neg (fun e=>e h),if_neg (by simp[b]),if_pos c]
theorem Zvu {s:St} (h:¬ X8 s) (o:Opn):Zcy s o=(s,0):=by
 unfold Zcy;rw[if_pos h]
theorem ZgZ {s:St} (h:X8 s) (a:s.shut=false) (o:Opn) (b:o.code≠10):Zcy s o=if s.kind<=1 then ZdX s o else if s.kind<=3 then Yy s o else if s.kind=4 then Zcq s o else Xv s o:=by
 unfold Zcy;rw[if_neg (fun e=>e h),if_neg (by simp[a]),if_neg b]
theorem ZsW (s:St) (o:Opn):(Zcy s o).1.kind=s.kind:=by
 unfold Zcy;split
 ·rfl
 split
 ·rfl
 split
 ·rfl
 split
 ·exact(Zkw s o).1
 split
 ·exact(ZgW s o).1
 split
 ·exact(Zfa s o).1
 ·exact(ZdA s o).1
theorem ZqF {s:St} (h:X8 s) (o:Opn):(Zcy s o).1.shut=(s.shut || decide (o.code=10)):=by
 by_cases c:s.shut=true
 ·rw[ZgX h c,c]
  rfl
 ·have a:s.shut=false:=by simpa using c
  by_cases b:o.code=10
  ·rw[ZgY h a o b,decide_eq_true b]
   simp
  ·rw[ZgZ h a o b,decide_eq_false b,a]
   split
   ·rw[(Zkw s o).2.1,a];rfl
   split
   ·rw[(ZgW s o).2.1,a];rfl
   split
   ·rw[(Zfa s o).2.1,a];rfl
   ·rw[(ZdA s o).2.1,a];rfl
theorem Zvv {s:St} (h:X8 s) (o:Opn):X8 (Zcy s o).1:=by
 by_cases b:s.shut=true
 ·rw[ZgX h b]
  exact h
 ·have c:s.shut=false:=by simpa using b
  by_cases d:o.code=10
  ·rw[ZgY h c o d]
   refine⟨?_,?_,(fun e=>by cases e),h.2.2.2.1,h.2.2.2.2.1,h.2.2.2.2.2⟩
   ·show 0<=(if 0<=o.a∧o.a<=2 then o.a else s.eng)
    have:=h.1;split <;> omega
   ·show(if 0<=o.a∧o.a<=2 then o.a else s.eng)<=2
    have:=h.2.1;split <;> omega
  ·rw[ZgZ h c o d]
   have f:=h.2.2.2.1;have g:=h.2.2.2.2.1;split
   ·exact Zxf h (by assumption) o
   split
   ·exact Zvs h (by assumption) (by assumption) o
   split
   ·exact ZsV h (by assumption) o
   ·exact ZqE h (by omega) o
theorem Zxg {k:IntKind} {a b:Int} (h:a=b):Ending.returned (.int k a)=.returned (.int k b):=by rw[h]
theorem Yk {b:Bool} (h:a=b):Ending.returned (.bool a)=.returned (.bool b):=by rw[h]
def StV (w:World) (v:Value) (s:St):Prop:=∃ vl,v=.agg #[.int .i64 s.kind,vl,.bool s.shut,.int .i64 s.eng]∧RdI w vl s.L∧I64 s.kind∧I64 s.eng
def opV (o:Opn):Value:=.agg #[.int .i64 o.code,.int .i64 o.a,.int .i64 o.b]
def Zxh (o:Opn):Prop:=I64 o.code∧I64 o.a∧I64 o.b
def ZlI (a b:St):Prop:=a.kind=b.kind∧a.shut=b.shut∧a.eng=b.eng∧a.L=b.L
instance (a b:St):Decidable (ZlI a b):=by unfold ZlI;infer_instance
def Zfb (w:World) (vl:Value) (L:List Int) (r:St × Int) (e:Ending) (w':World):Prop:=
 ∃ vl',e=.returned (.tuple #[.agg #[.int .i64 r.1.kind,vl',.bool r.1.shut,.int .i64 r.1.eng],.int .i64 r.2])∧RdI w' vl' r.1.L∧I64 r.1.kind∧I64 r.1.eng∧((vl'=vl∧r.1.L=L)∨∀ b,vl'.ownBlock=some b->w.heap.size<=b)∧Below w.heap.size w w'
def lval:Value->Value
 | .agg ⟨[_,x,_,_]⟩=>x
 | v=>v
theorem ZpH (a x c d:Value):lval (.agg #[a,x,c,d])=x:=rfl
theorem ZnL {g a:Nat} (h:(Value.slice (some ⟨g,a,none⟩) n c).ownBlock=some b):b=g:=by
 injection h with h
 exact h.symm
theorem Zfb.fresh {i vl':Value} {L L':List Int} (j:RdI w' vl' L') (f:I64 kind) (c:I64 g) (n:Int) (d:∀ b,vl'.ownBlock=some b->w.heap.size<=b) (e:Below w.heap.size w w'):
 Zfb w i L (⟨kind,L',a,g⟩,n) (.returned (.tuple #[.agg #[.int .i64 kind,vl',.bool a,.int .i64 g],.int .i64 n])) w':=
 ⟨_,rfl,j,f,c,.inr d,e⟩
theorem Zxi (n:Int):I64 (Zz n):=by
 have:=ZbU n;unfold I64;omega
theorem RdI.one (w:World) (x:Int) (h:I64 x):RdI (w.alloc (.cells #[.int .i64 x] 3)) (.slice (some ⟨w.heap.size,0,none⟩) 1 1) [x]:=by
 refine⟨some ⟨w.heap.size,0,none⟩,1,rfl,Nat.le_refl _,by decide,(fun e=>by cases e),?_,.inr ⟨w.heap.size,0,rfl,fun j b=>?_⟩⟩
 ·intro n a
  simp at a;rw[a];exact h
 ·have e:j=0:=by simpa using b
  subst e;rw[Nat.zero_add,cell_of_row _ w.heap.size 0 #[.int .i64 x] 3 (0,0) (heap_alloc_new w _)];rfl
theorem ZyQ (w:World) (x y z:Obj):(((w.alloc x).alloc y).alloc z).heap.size=w.heap.size+1+1+1:=by simp
def J2 (w:World) (B:Nat) (s o r:Array Value):Prop:=
 w.heap[B]?=some (.cells s 38 (0,0))∧w.heap[B+1]?=some (.cells o 52 (0,0))∧w.heap[B+1+1]?=some (.cells r 38 (0,0))
theorem J2.made (w:World) (s o r:Array Value):J2 (((w.alloc (.cells s 38)).alloc (.cells o 52)).alloc (.cells r 38)) w.heap.size s o r:=by
 refine⟨?_,?_,?_⟩
 ·rw[Below.heap_alloc _ _ _ (by simp;omega),Below.heap_alloc _ _ _ (by simp)]
  exact heap_alloc_new w _
 ·rw[Below.heap_alloc _ _ _ (by simp)]
  have h:=heap_alloc_new (w.alloc (.cells s 38)) (.cells o 52);have e:(w.alloc (.cells s 38)).heap.size=w.heap.size+1:=by simp
  rwa [e] at h
 ·have h:=heap_alloc_new ((w.alloc (.cells s 38)).alloc (.cells o 52)) (.cells r 38)
  have e:((w.alloc (.cells s 38)).alloc (.cells o 52)).heap.size=w.heap.size+1+1:=by simp
  rwa [e] at h
theorem J2.below {s o r:Array Value} (h:J2 w B s o r) (a:Below C w w') (e:B+3<=C):J2 w' B s o r:=by
 obtain⟨b,c,d⟩:=h
 exact⟨by rw[a.block _ (by omega)];exact b,by rw[a.block _ (by omega)];exact c,by rw[a.block _ (by omega)];exact d⟩
-- 38
theorem J2.s {s o r:Array Value} (h:J2 w B s o r) (j:Nat):w.cell? ⟨B,j,none⟩=s[j]?∧w.frozen? ⟨B,j,none⟩=false:=
 ⟨cell_of_row w B j _ _ _ h.1,frozen_of_row w B j _ _ h.1⟩
-- 38
theorem J2.o {s o r:Array Value} (h:J2 w B s o r) (j:Nat):w.cell? ⟨B+1,j,none⟩=o[j]?∧w.frozen? ⟨B+1,j,none⟩=false:=
 ⟨cell_of_row w (B+1) j _ _ _ h.2.1,frozen_of_row w (B+1) j _ _ h.2.1⟩
-- 38
theorem J2.r {s o r:Array Value} (h:J2 w B s o r) (j:Nat):w.cell? ⟨B+1+1,j,none⟩=r[j]?∧w.frozen? ⟨B+1+1,j,none⟩=false:=
 ⟨cell_of_row w (B+1+1) j _ _ _ h.2.2,frozen_of_row w (B+1+1) j _ _ h.2.2⟩
-- 38
theorem Qo.shape (h:Qo w B v l):∃ ao cap,v=.slice ao l.length cap:=by
 rcases h.2 with ⟨a,b⟩ | ⟨g,cap,cur,a,_⟩
 ·exact⟨none,0,by rw[a,b]⟩
 ·exact⟨_,_,a⟩
def ZpI (w:World) (B R:Nat) (x0 x1 x2 x3 x4:Value):World:=
 ((((w.setCell ⟨B,1,none⟩ x0).setCell ⟨R,0,none⟩ x1).setCell ⟨R,1,none⟩ x2).setCell ⟨R,2,none⟩ x3).setCell ⟨R,3,none⟩ x4
theorem Qo.five (h:Qo w C v l) (B R:Nat) (f:B<C) (a:R<C) (c d b g e:Value):Qo (ZpI w B R c d b g e) C v l:=
 ownsRow_setCell_below (ownsRow_setCell_below (ownsRow_setCell_below (ownsRow_setCell_below (ownsRow_setCell_below h f _) a _) a _) a _) a _
theorem ZsX {b:World} (h:Below C b w) (B R:Nat) (g:C<=B) (a:C<=R) (d e c i f:Value):Below C b (ZpI w B R d e c i f):=
 ((((h.setCell g _).setCell a _).setCell a _).setCell a _).setCell a _
theorem Zae {b:World} (h:Below C b w) (R:Nat) (a:C<=R) (d c f e:Value):Below C b ((((w.setCell ⟨R,0,none⟩ d).setCell ⟨R,1,none⟩ c).setCell ⟨R,2,none⟩ f).setCell ⟨R,3,none⟩ e):=
 (((h.setCell a _).setCell a _).setCell a _).setCell a _
theorem Qk {n:Int} (b:-2251799813685248<=n) (a:n<=2251799813685248):I64 n:=⟨by omega,by omega⟩
structure But (R T:Nat) (w w':World):Prop where
 os:w'.os=w.os
 tape:w'.tape=w.tape
 output:w'.output=w.output
 size:w.heap.size<=w'.heap.size
 block:∀ k,k<w.heap.size->k≠R->k≠T->w'.heap[k]?=w.heap[k]?
theorem But.refl (R T:Nat) (w:World):But R T w w:=⟨rfl,rfl,rfl,Nat.le_refl _,fun _ _ _ _=>rfl⟩
theorem But.set (h:But R T w w') (b i:Nat) (d:b=R∨b=T) (x:Value):But R T w (w'.setCell ⟨b,i,none⟩ x):=by
 have a:=(Below.refl 0 w').setCell (p:=⟨b,i,none⟩) (Nat.zero_le _) x;refine⟨a.os.trans h.os,a.tape.trans h.tape,a.output.trans h.output,Nat.le_trans h.size a.size,fun k f c e=>?_⟩
 rw[Below.heap_setCell _ _ _ _ (by rcases d with rfl | rfl <;> assumption)]
 exact h.block k f c e
theorem Zaf {N:Nat} {wr:World} (h:Below N w wr) (a:But R T wr w') (c:N<=wr.heap.size) (e:N<=R) (d:N<=T):Below N w w':=
 ⟨a.os.trans h.os,a.tape.trans h.tape,a.output.trans h.output,Nat.le_trans h.size a.size,fun k b=>(a.block k (by omega) (by omega) (by omega)).trans (h.block k b)⟩
theorem But.four (h:But R T w w') (b:Nat) (a:b=R∨b=T) (d c f e:Value):But R T w ((((w'.setCell ⟨b,0,none⟩ d).setCell ⟨b,1,none⟩ c).setCell ⟨b,2,none⟩ f).setCell ⟨b,3,none⟩ e):=
 (((h.set b 0 a d).set b 1 a c).set b 2 a f).set b 3 a e
theorem RdI.block (h:RdI w v l):l=[]∨(l≠[]∧∃ b,v.ownBlock=some b∧b<w.heap.size):=by
 obtain⟨ao,cap,d,j,m,k,n,a⟩:=h;rcases a with a | ⟨b,i,f,g⟩
 ·exact .inl a
 ·by_cases c:l=[]
  ·exact .inl c
  ·right
   have e:0<l.length:=List.length_pos_iff.2 c;exact⟨c,b,by rw[d,f];rfl,World.block_lt_of_cell? w ⟨b,i+0,none⟩ (g 0 e)⟩
theorem RdI.but (h:RdI w v l) {R T:Nat} (k:But R T w w') (hn:l=[]∨∀ b,v.ownBlock=some b->b≠R∧b≠T):RdI w' v l:=by
 obtain⟨ao,cap,g,p,t,x,u,d⟩:=h;refine⟨ao,cap,g,p,t,x,u,?_⟩;rcases d with d | ⟨b,c,f,i⟩
 ·exact .inl d
 ·rcases hn with hn | hn
  ·exact .inl hn
  ·refine .inr ⟨b,c,f,fun j e=>?_⟩
   obtain⟨m,q⟩:=hn b (by rw[g,f];rfl)
   have n:=World.block_lt_of_cell? w ⟨b,c+j,none⟩ (i j e);rw[<-i j e];exact World.cell?_of_block (a:=⟨b,c+j,none⟩) (k.block b n m q)
theorem ZyR {d:Bool} (h:X8 ⟨kind,l,d,g⟩) (c:kind<=1):l.length=1∧-1099511627776<=l.getD 0 0∧l.getD 0 0<=1099511627776:=by
 have a:=(Xz (kind:=kind) (l:=l) (by omega) (by omega)).1 h.2.2.2.2.2
 have b:=a.2.1 c;exact⟨b,a.2.2 0 (by show 0<l.length;omega)⟩
theorem ZyS (h:X8 ⟨kind,l,a,g⟩) (b:kind<=3):l.length<=64:=
 ((Xz (kind:=kind) (l:=l) (by omega) (by omega)).1 h.2.2.2.2.2).1
theorem ZlJ:∀ {l:List Int} {lo:Int},-1<=lo->Qr 0 lo l->∀ x ∈ l,0<=x∧x<=1099511627776
 | [],_,_,_,x,hx=>by simp at hx
 | [_],_,_,h,_,_=>by simp[Qr] at h
 | a::b::r,lo,hlo,h,x,hx=>by
  unfold Qr at h;have c:=ZlJ (l:=r) (lo:=a) (by omega) h.2.2.2.2 x
  simp at hx;rcases hx with rfl | rfl | hx
  ·omega
  ·omega
  ·exact c hx
theorem ZsY (b:-1099511627776<=least) (a:Qr least lo l) (key:Int):I64 (ZqC key l):=by
 rw[ZnK]
 cases h:Xx key l with
 | none=>exact Qk (by decide) (by decide)
 | some v=>
  have:=Zkv a h;show I64 v;exact Qk (by omega) (by omega)
theorem ZwT (h:J0 l) (j:Nat):I64 (l.getD j 0):=by
 by_cases a:j<l.length
 ·have:=h j a
  exact Qk (by omega) (by omega)
 ·have e:l.getD j 0=0:=by simp[List.getD,a]
  rw[e];exact Qk (by decide) (by decide)
theorem ZsZ (s:St) (o:Opn):I64 (Zcy s o).2:=by
 have d:I64 0:=Qk (by decide) (by decide)
 have p:I64 1:=Qk (by decide) (by decide)
 have i:I64 (-1):=Qk (by decide) (by decide)
 have l:I64 (-2):=Qk (by decide) (by decide)
 by_cases b:X8 s
 ·by_cases n:s.shut=true
  ·rw[ZgX b n]
   exact(Qk (by decide) (by decide):I64 (-1125899906842624))
  ·have m:s.shut=false:=by simpa using n
   by_cases k:o.code=10
   ·rw[ZgY b m o k]
    exact d
   ·rw[ZgZ b m o k]
    have u:=b.2.2.2.1;have v:=b.2.2.2.2.1;have c:=b.2.2.2.2.2;split
    ·have e:=((Xz (by omega) (by omega)).1 c).2.2
     unfold ZdX
     repeat' split
     all_goals first | exact ZwT e 0 | exact d
    split
    ·have g:=(Xz (by omega) (by omega)).1 c
     have e:=g.2.2;have t:I64 ((s.L.length:Int)):=Qk (by omega) (by have:=g.1;omega)
     have q:I64 ((s.L.length:Int)+1):=Qk (by omega) (by have:=g.1;omega)
     unfold Yy
     repeat' split
     all_goals first | exact ZwT e _ | exact d | exact i | exact t | exact q
    split
    ·rename_i f
     rw[f,Zbj] at c;have j:=ZsY (by decide) c.2 o.a
     unfold Zcq
     repeat' split
     all_goals first | exact d | exact i | exact l | exact j
    ·have f:s.kind=5:=by omega
     rw[f,ZaE] at c;have j:=ZsY (by decide) c.2 o.a
     unfold Xv Zbe
     repeat' split
     all_goals first | exact d | exact p | exact i | exact l | exact j | exact Zxi _
 ·rw[Zvu b]
  exact d
theorem Qo.but (h:Qo w B v l) {R T:Nat} (e:But R T w w') (m:∀ b,v.ownBlock=some b->b≠R∧b≠T):Qo w' B v l:=by
 obtain⟨j,a⟩:=h;refine⟨j,?_⟩;rcases a with a | ⟨g,cap,cur,c,n,d,r⟩
 ·exact .inl a
 ·have i:g<w.heap.size:=(Array.getElem?_eq_some_iff.1 d).1
  obtain⟨f,k⟩:=m g (by rw[c];rfl)
  exact .inr ⟨g,cap,cur,c,n,by rw[e.block g i f k];exact d,r⟩
def ZnM (w:World) (B:Nat) (s r:Array Value):Prop:=
 w.heap[B]?=some (.cells s 38 (0,0))∧w.heap[B+1]?=some (.cells r 38 (0,0))
theorem ZnM.made (w:World) (s r:Array Value):ZnM ((w.alloc (.cells s 38)).alloc (.cells r 38)) w.heap.size s r:=by
 refine⟨?_,?_⟩
 ·rw[Below.heap_alloc _ _ _ (by simp)]
  exact heap_alloc_new w _
 ·have h:=heap_alloc_new (w.alloc (.cells s 38)) (.cells r 38)
  have e:(w.alloc (.cells s 38)).heap.size=w.heap.size+1:=by simp
  rwa [e] at h
theorem ZnM.below {s r:Array Value} (h:ZnM w B s r) (a:Below C w w') (d:B+2<=C):ZnM w' B s r:=by
 obtain⟨b,c⟩:=h
 exact⟨by rw[a.block _ (by omega)];exact b,by rw[a.block _ (by omega)];exact c⟩
-- 38
theorem ZnM.s {s r:Array Value} (h:ZnM w B s r) (j:Nat):w.cell? ⟨B,j,none⟩=s[j]?∧w.frozen? ⟨B,j,none⟩=false:=
 ⟨cell_of_row w B j _ _ _ h.1,frozen_of_row w B j _ _ h.1⟩
-- 38
theorem ZnM.r {s r:Array Value} (h:ZnM w B s r) (j:Nat):w.cell? ⟨B+1,j,none⟩=r[j]?∧w.frozen? ⟨B+1,j,none⟩=false:=
 ⟨cell_of_row w (B+1) j _ _ _ h.2,frozen_of_row w (B+1) j _ _ h.2⟩
-- 38
theorem Zei (w:World) {d:Array Oper} {rest:List Oper} {o:Oper} {a:Act} {Q:Exit->Act->World->Prop} (F:o.guard=none) (s x:Operand)
 (M:o.op=.call { callee:=.builtin .append,args:=#[s,x],argTypes:=#[23,23] })
 (B:Nat) (v:Value) (l:List Int) (D:a.eval s=v) (z:Qo w B v l) (n:Int) (N:Nat) (J:N=w.heap.size) (I:a.eval x=.slice (some ⟨N,0,none⟩) 1 1)
 (R:l.length<=1000000) (S:B<=w.heap.size)
 (h:∀ v' w',Qo w' B v' (l++[n])->w.grownBy w' v.ownBlock->(v'.ownBlock=v.ownBlock∨∃ g,v'.ownBlock=some g∧w.heap.size<=g)->wpList prog d Q rest (a.put o.dst v') w'):wpList prog d Q (o::rest) a (w.alloc (.cells #[.int .i64 n] 3)):=
 wpList_plain F fun _ m=>by
  subst J;obtain⟨O,E,L,A,p⟩:=info_parts Zku
  obtain⟨v',w',K,y,b,_,hat⟩:=run_append_own_at (P:=prog) (w.alloc (.cells #[.int .i64 n] 3)) B 23 o.type 3 O (.int .i64 0) 1 8 underlying23 E L A p rfl (by decide) v l.length (Qn l) (World.ownsRow.alloc z _)
   ⟨w.heap.size,0,none⟩ 1 1 [.int .i64 n] rfl (fun j u c=>by
    match j,c with
    | 0,c=>simp at c;subst c;simp[Addr.add]) (fun u e=>by simp at e;subst e;rfl) (by unfold maxLen;omega) (by omega) (by simp;omega)
  have f:Qo w' B v' (l++[n]):=by
   unfold Qo;have q:(l++[n]).length=l.length+1:=by simp
   have G:Qn (l++[n])=Qn l++[.int .i64 n]:=by simp[Qn]
   rw[q,G];exact y
  have C:w.grownBy w' v.ownBlock:=⟨b.os,b.tape,b.output,by have:=b.size;simp at this;omega,fun k i t=>by
   rw[b.block k (by simp;omega) t]
   exact Below.heap_alloc _ _ _ i⟩
  have H:v'.ownBlock=v.ownBlock∨∃ g,v'.ownBlock=some g∧w.heap.size<=g:=by
   rcases hat with hat | hat
   ·exact .inl hat
   ·exact .inr ⟨_,hat,by simp⟩
  unfold Oper.wp execOp;simp only [M,resolve,invoke,builtin,Sem.run_bind,Sem.run_pure,Result.andThen_ok,List.map_toArray,map_cons,map_nil,D,I,K];exact m _ _ (h v' w' f C H)
theorem ZpJ (w:World) (b i:Nat) (x:Value):(w.setCell ⟨b,i,none⟩ x).heap.size=w.heap.size:=by simp[World.setCell]
def Bx (w:World) (b:Nat) (cs:Array Value):Prop:=w.heap[b]?=some (.cells cs 38 (0,0))
def Bo (w:World) (b:Nat) (cs:Array Value):Prop:=w.heap[b]?=some (.cells cs 52 (0,0))
theorem Bx.lt (h:Bx w b cs):b<w.heap.size:=(Array.getElem?_eq_some_iff.1 h).1
-- 38
theorem Bx.below (h:Bx w b cs) (a:Below B w w') (c:w.heap.size<=B):Bx w' b cs:=(a.block b (by have:=h.lt;omega)).trans h
-- 38
theorem Bx.cell (h:Bx w b cs) (j:Nat):w.cell? ⟨b,j,none⟩=cs[j]?∧w.frozen? ⟨b,j,none⟩=false:=⟨cell_of_row w b j _ _ _ h,frozen_of_row w b j _ _ h⟩
-- 38
theorem Bo.lt (h:Bo w b cs):b<w.heap.size:=(Array.getElem?_eq_some_iff.1 h).1
theorem Bo.below (h:Bo w b cs) (a:Below B w w') (c:w.heap.size<=B):Bo w' b cs:=(a.block b (by have:=h.lt;omega)).trans h
theorem Bo.cell (h:Bo w b cs) (j:Nat):w.cell? ⟨b,j,none⟩=cs[j]?∧w.frozen? ⟨b,j,none⟩=false:=⟨cell_of_row w b j _ _ _ h,frozen_of_row w b j _ _ h⟩
theorem Qo.four (h:Qo w C v l) (R:Nat) (a:R<C) (c b e d:Value):Qo ((((w.setCell ⟨R,0,none⟩ c).setCell ⟨R,1,none⟩ b).setCell ⟨R,2,none⟩ e).setCell ⟨R,3,none⟩ d) C v l:=
 ownsRow_setCell_below (ownsRow_setCell_below (ownsRow_setCell_below (ownsRow_setCell_below h a _) a _) a _) a _
theorem Qo.fresh (h:Qo w B v l):∀ b,v.ownBlock=some b->B<=b:=fun b a=>(World.ownsRow.lt h b a).1
theorem ZbH {n:Int} (h:I64 n):Lib.zigzag n<18446744073709551616:=by
 obtain⟨b,a⟩:=h;unfold Lib.zigzag;split <;> omega
theorem ZnN {u:Nat} (h:u<18446744073709551616):I64 (zag u):=ZsS u h
theorem Z3 (l:List UInt8):(Qb l).2<=l.length:=by
 rcases Q4 l with h | h
 ·rw[h];exact Nat.zero_le _
 ·exact h.2.2.1
def Xo (o:Opn):List UInt8:=Lib.uvarint o.code.toNat++(Lib.uvarint (Lib.zigzag o.a)++Lib.uvarint (Lib.zigzag o.b))
def Q0 (l:List UInt8):Opn × Nat:=
 if(Qb l).2=0∨(Qd (l.drop (Qb l).2)).2=0∨(Qd (l.drop ((Qb l).2+(Qd (l.drop (Qb l).2)).2))).2=0∨¬ Jg ⟨((Qb l).1:Int),zag (Qd (l.drop (Qb l).2)).1,zag (Qd (l.drop ((Qb l).2+(Qd (l.drop (Qb l).2)).2))).1⟩ then(⟨0,0,0⟩,0)
 else(⟨((Qb l).1:Int),zag (Qd (l.drop (Qb l).2)).1,zag (Qd (l.drop ((Qb l).2+(Qd (l.drop (Qb l).2)).2))).1⟩,(Qb l).2+(Qd (l.drop (Qb l).2)).2+(Qd (l.drop ((Qb l).2+(Qd (l.drop (Qb l).2)).2))).2)
theorem ZaG {o:Opn} (h:Jg o):I64 o.a∧I64 o.b:=by
 obtain⟨_,_,d,e,f,c⟩:=h;exact⟨Qk (by omega) (by omega),Qk (by omega) (by omega)⟩
theorem Zej (u:Nat):(Lib.uvarint u).length≠0:=by have:=Lib.uvarint_pos u;omega
theorem ZlK (o:Opn) (h:Jg o) (t:List UInt8):Q0 (Xo o++t)=(o,(Xo o).length):=by
 obtain⟨d,e⟩:=ZaG h;have m:=h.1;have n:=h.2.1
 have j:Qb (Xo o++t)=(o.code.toNat,(Lib.uvarint o.code.toNat).length):=by
  unfold Xo;rw[append_assoc];exact X3 _ _ (by omega)
 have f:(Xo o++t).drop (Lib.uvarint o.code.toNat).length=Lib.uvarint (Lib.zigzag o.a)++(Lib.uvarint (Lib.zigzag o.b)++t):=by
  unfold Xo;rw[append_assoc,List.drop_left,append_assoc]
 have l:=Zu (Lib.zigzag o.a) (Lib.uvarint (Lib.zigzag o.b)++t) (ZbH d)
 have i:(Xo o++t).drop ((Lib.uvarint o.code.toNat).length+(Lib.uvarint (Lib.zigzag o.a)).length)=Lib.uvarint (Lib.zigzag o.b)++t:=by
  rw[<-drop_drop,f,List.drop_left]
 have k:=Zu (Lib.zigzag o.b) t (ZbH e)
 have g:(⟨((o.code.toNat:Nat):Int),zag (Lib.zigzag o.a),zag (Lib.zigzag o.b)⟩:Opn)=o:=by
  rw[ZaM _ d.1 d.2,ZaM _ e.1 e.2];obtain⟨c,a,b⟩:=o;simp only [Opn.mk.injEq,and_true];simp only at m;omega
 unfold Q0;simp only [j,f,l,i,k];rw[if_neg,g]
 ·simp only [Prod.mk.injEq,true_and]
  unfold Xo;simp only [length_append];omega
 ·rw[g]
  rintro(h1 | h1 | h1 | h1)
  ·exact Zej _ h1
  ·exact Zej _ h1
  ·exact Zej _ h1
  ·exact h1 h
theorem ZpK (l:List UInt8):(Q0 l).2<=l.length:=by
 unfold Q0;split
 ·exact Nat.zero_le _
 ·have c:=Z3 l
  have b:=Jz (l.drop (Qb l).2);have a:=Jz (l.drop ((Qb l).2+(Qd (l.drop (Qb l).2)).2));simp only [List.length_drop] at b a;show(Qb l).2+_+_<=_;omega
theorem ZqG {l:List UInt8} (h:(Q0 l).2=0):(Q0 l).1=⟨0,0,0⟩:=by
 unfold Q0 at h ⊢;split
 ·rfl
 ·rename_i a
  rw[if_neg a] at h;simp only at h;omega
theorem Zfc (l:List UInt8) (i j:Nat):l.take (i+j)=l.take i++(l.drop i).take j:=by
 rw[List.take_add]
theorem Zha {l:List UInt8} (h:(Q0 l).2≠0):Jg (Q0 l).1∧Xo (Q0 l).1=l.take (Q0 l).2:=by
 unfold Q0 at h ⊢;by_cases a:(Qb l).2=0∨(Qd (l.drop (Qb l).2)).2=0∨(Qd (l.drop ((Qb l).2+(Qd (l.drop (Qb l).2)).2))).2=0∨¬ Jg ⟨((Qb l).1:Int),zag (Qd (l.drop (Qb l).2)).1,zag (Qd (l.drop ((Qb l).2+(Qd (l.drop (Qb l).2)).2))).1⟩
 ·rw[if_pos a] at h
  exact absurd rfl h
 ·rw[if_neg a]
  have b:(Qb l).2≠0:=fun e=>a (.inl e)
  have c:(Qd (l.drop (Qb l).2)).2≠0:=fun e=>a (.inr (.inl e))
  have d:(Qd (l.drop ((Qb l).2+(Qd (l.drop (Qb l).2)).2))).2≠0:=fun e=>a (.inr (.inr (.inl e)))
  have f:Jg ⟨((Qb l).1:Int),zag (Qd (l.drop (Qb l).2)).1,zag (Qd (l.drop ((Qb l).2+(Qd (l.drop (Qb l).2)).2))).1⟩:=Classical.byContradiction fun e=>a (.inr (.inr (.inr e)))
  refine⟨f,?_⟩
  have j:l.take (Qb l).2=Lib.uvarint (Qb l).1:=by
   rcases Q4 l with e | e
   ·rw[e] at b;exact absurd rfl b
   ·exact e.2.2.2
  have g:(l.drop (Qb l).2).take (Qd (l.drop (Qb l).2)).2=Lib.uvarint (Qd (l.drop (Qb l).2)).1:=by
   rcases Zo (l.drop (Qb l).2) with e | e
   ·rw[e] at c;exact absurd rfl c
   ·exact e.2.2.2
  have i:(l.drop ((Qb l).2+(Qd (l.drop (Qb l).2)).2)).take (Qd (l.drop ((Qb l).2+(Qd (l.drop (Qb l).2)).2))).2=Lib.uvarint (Qd (l.drop ((Qb l).2+(Qd (l.drop (Qb l).2)).2))).1:=by
   rcases Zo (l.drop ((Qb l).2+(Qd (l.drop (Qb l).2)).2)) with e | e
   ·rw[e] at d;exact absurd rfl d
   ·exact e.2.2.2
  unfold Xo;simp only [ZbF];rw[Zfc,Zfc,j,g,i,append_assoc];rfl
def Zs:List Int->List UInt8
 | []=>[]
 | x::r=>Lib.uvarint (Lib.zigzag x)++Zs r
def Zbu (s:St):Nat:=if s.shut=true then s.eng.toNat+1 else 0
def Zgz (s:St):List UInt8:=Lib.uvarint s.kind.toNat++(Lib.uvarint (Zbu s)++(Lib.uvarint s.L.length++Zs s.L))
def Js:Nat->List UInt8->Option (List Int × Nat)
 | 0,_=>some ([],0)
 | n+1,l=>if(Qd l).2=0 then none else(Js n (l.drop (Qd l).2)).map fun x=>(zag (Qd l).1::x.1,(Qd l).2+x.2)
def mkS (kind sl:Nat) (xs:List Int):St:=⟨kind,xs,decide (0<sl),if 0<sl then(sl:Int)-1 else 0⟩
def ZcA:St:=⟨0,[],false,0⟩
def ZlL (kind sl many:Nat) (l:List UInt8):St × Int:=
 match Js many l with
 | none=>(ZcA,3)
 | some (xs,u)=>if u≠l.length then(ZcA,3) else if X8 (mkS kind sl xs) then(mkS kind sl xs,0) else(ZcA,1)
def ZeV (l:List UInt8):St × Int:=
 if(Qb l).2=0∨(Qb (l.drop (Qb l).2)).2=0∨(Qb (l.drop ((Qb l).2+(Qb (l.drop (Qb l).2)).2))).2=0∨3<(Qb (l.drop (Qb l).2)).1∨128<(Qb (l.drop ((Qb l).2+(Qb (l.drop (Qb l).2)).2))).1 then(ZcA,3)
 else ZlL (Qb l).1 (Qb (l.drop (Qb l).2)).1 (Qb (l.drop ((Qb l).2+(Qb (l.drop (Qb l).2)).2))).1 (l.drop ((Qb l).2+(Qb (l.drop (Qb l).2)).2+(Qb (l.drop ((Qb l).2+(Qb (l.drop (Qb l).2)).2))).2))
theorem ZbV:∀ (n:Nat) (l:List UInt8) (xs:List Int) (u:Nat),Js n l=some (xs,u)->xs.length=n∧u<=l.length∧Zs xs=l.take u∧∀ x ∈ xs,I64 x
 | 0,l,xs,u,h=>by
  simp only [Js,Option.some.injEq,Prod.mk.injEq] at h;obtain⟨rfl,rfl⟩:=h;exact⟨rfl,Nat.zero_le _,by simp[Zs],fun x hx=>by simp at hx⟩
 | n+1,l,xs,u,h=>by
  rw[Js] at h;by_cases a:(Qd l).2=0
  ·rw[if_pos a] at h;cases h
  ·rw[if_neg a] at h
   obtain⟨⟨j,k⟩,d,b⟩:=Option.map_eq_some_iff.1 h;simp only [Prod.mk.injEq] at b;obtain⟨rfl,rfl⟩:=b;obtain⟨p,m,f,c⟩:=ZbV n _ j k d;rcases Zo l with e | ⟨g,q,t,i⟩
   ·rw[e] at a;exact absurd rfl a
   ·simp only [List.length_drop] at m
    refine⟨by simp[p],by omega,?_,?_⟩
    ·rw[Zs,ZbF,f,Zfc,i]
    ·intro x hx
     rcases List.mem_cons.1 hx with rfl | hx
     ·exact ZnN g
     ·exact c x hx
theorem ZpL {s:St} (h:X8 s):Zbu s<=3:=by
 have:=h.1;have:=h.2.1;unfold Zbu;split <;> omega
theorem Zhb {s:St} (h:X8 s):s.kind.toNat<4611686018427387904∧s.L.length<=128∧∀ x ∈ s.L,I64 x:=by
 have j:=h.2.2.2.1;have k:=h.2.2.2.2.1;have d:=h.2.2.2.2.2;by_cases e:s.kind=4
 ·rw[e,Zbj] at d
  refine⟨by omega,d.1,fun x c=>?_⟩
  have g:∀ (l:List Int) (lo:Int),-1<=lo->Qr (-1099511627776) lo l->∀ x ∈ l,I64 x:=by
   intro l
   match l with
   | []=>intro _ _ _ x c;simp at c
   | [_]=>intro _ _ h;simp[Qr] at h
   | a::b::r=>exact pairsW a b r
  exact g s.L (-1) (by decide) d.2 x c
 ·by_cases f:s.kind=5
  ·rw[f,ZaE] at d
   exact⟨by omega,d.1,fun x c=>by have:=ZlJ (by decide) d.2 x c;exact Qk (by omega) (by omega)⟩
  ·have i:=(Xz e f).1 d
   exact⟨by omega,by omega,fun x c=>by have:=(Ja _).1 i.2.2 x c;exact Qk (by omega) (by omega)⟩
where
 pairsW (a b:Int) (r:List Int):∀ (lo:Int),-1<=lo->Qr (-1099511627776) lo (a::b::r)->∀ x ∈ a::b::r,I64 x:=by
  intro lo hlo h x hx;unfold Qr at h;simp at hx;rcases hx with rfl | rfl | hx
  ·exact Qk (by omega) (by omega)
  ·exact Qk (by omega) (by omega)
  ·match r,hx,h with
   | a2::b2::r2,hx,h=>exact pairsW a2 b2 r2 a (by omega) h.2.2.2.2 x hx
   | [c],_,h=>simp[Qr] at h
theorem ZqH (l:List UInt8):(ZeV l).2=0∨((ZeV l).1=ZcA∧((ZeV l).2=3∨(ZeV l).2=1)):=by
 unfold ZeV;split
 ·exact .inr ⟨rfl,.inl rfl⟩
 ·unfold ZlL
  split
  ·exact .inr ⟨rfl,.inl rfl⟩
  ·split
   ·exact .inr ⟨rfl,.inl rfl⟩
   ·split
    ·exact .inl rfl
    ·exact .inr ⟨rfl,.inr rfl⟩
theorem ZqI {l:List UInt8} (h:(ZeV l).2=0):X8 (ZeV l).1∧Zgz (ZeV l).1=l:=by
 unfold ZeV at h ⊢;by_cases b:(Qb l).2=0∨(Qb (l.drop (Qb l).2)).2=0∨(Qb (l.drop ((Qb l).2+(Qb (l.drop (Qb l).2)).2))).2=0∨3<(Qb (l.drop (Qb l).2)).1∨128<(Qb (l.drop ((Qb l).2+(Qb (l.drop (Qb l).2)).2))).1
 ·rw[if_pos b] at h
  cases h
 ·rw[if_neg b] at h ⊢
  have g:(Qb l).2≠0:=fun e=>b (.inl e)
  have f:(Qb (l.drop (Qb l).2)).2≠0:=fun e=>b (.inr (.inl e))
  have p:(Qb (l.drop ((Qb l).2+(Qb (l.drop (Qb l).2)).2))).2≠0:=fun e=>b (.inr (.inr (.inl e)))
  have v:l.take (Qb l).2=Lib.uvarint (Qb l).1:=by
   rcases Q4 l with e | e
   ·rw[e] at g;exact absurd rfl g
   ·exact e.2.2.2
  have z:(l.drop (Qb l).2).take (Qb (l.drop (Qb l).2)).2=Lib.uvarint (Qb (l.drop (Qb l).2)).1:=by
   rcases Q4 (l.drop (Qb l).2) with e | e
   ·rw[e] at f;exact absurd rfl f
   ·exact e.2.2.2
  have A:(l.drop ((Qb l).2+(Qb (l.drop (Qb l).2)).2)).take (Qb (l.drop ((Qb l).2+(Qb (l.drop (Qb l).2)).2))).2=Lib.uvarint (Qb (l.drop ((Qb l).2+(Qb (l.drop (Qb l).2)).2))).1:=by
   rcases Q4 (l.drop ((Qb l).2+(Qb (l.drop (Qb l).2)).2)) with e | e
   ·rw[e] at p;exact absurd rfl p
   ·exact e.2.2.2
  generalize (Qb (l.drop ((Qb l).2+(Qb (l.drop (Qb l).2)).2))).2=k at *;generalize (Qb (l.drop ((Qb l).2+(Qb (l.drop (Qb l).2)).2))).1=q at *;generalize (Qb (l.drop (Qb l).2)).2=j at *;generalize (Qb (l.drop (Qb l).2)).1=a at *;generalize (Qb l).2=i at *;generalize (Qb l).1=kind at *;unfold ZlL at h ⊢
  cases hr:Js q (l.drop (i+j+k)) with
  | none=>rw[hr] at h;cases h
  | some x=>
   obtain⟨xs,u⟩:=x;rw[hr] at h;simp only at h ⊢;obtain⟨D,E,n,F⟩:=ZbV _ _ _ _ hr;by_cases d:u≠(l.drop (i+j+k)).length
   ·rw[if_pos d] at h;cases h
   ·rw[if_neg d] at h ⊢
    by_cases c:X8 (mkS kind a xs)
    ·rw[if_pos c]
     refine⟨c,?_⟩;have C:u=(l.drop (i+j+k)).length:=Classical.byContradiction d;rw[C,List.take_length] at n;have y:(mkS kind a xs).kind.toNat=kind:=by simp[mkS]
     have t:Zbu (mkS kind a xs)=a:=by
      unfold Zbu mkS;by_cases m:0<a
      ·simp[m];omega
      ·simp[m];omega
     show Lib.uvarint (mkS kind a xs).kind.toNat++(Lib.uvarint (Zbu (mkS kind a xs))++(Lib.uvarint xs.length++Zs xs))=l;rw[y,t,D,n,<-v,<-z,<-A];have B:l.drop (i+j)=(l.drop i).drop j:=by rw[drop_drop]
     have w:l.drop (i+j+k)=((l.drop i).drop j).drop k:=by rw[drop_drop,drop_drop,Nat.add_assoc]
     rw[B,w,List.take_append_drop,List.take_append_drop,List.take_append_drop]
    ·rw[if_neg c] at h;cases h
end Go.Proofs.YtnahjngbneicaaaGreatDoor
