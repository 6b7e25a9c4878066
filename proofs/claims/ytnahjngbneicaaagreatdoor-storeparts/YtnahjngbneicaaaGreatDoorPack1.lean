import Derived.Test.YtnahjngbneicaaaGreatDoorRows
import Derived.WalkKit
import Derived.ProofKit
import Derived.Deep.Draws
import Derived.Lib.VarintMem
import Derived.Lib.Zigzag
import Derived.Lib.Endian
import Derived.Lib.VarintBits
import Derived.ChangeSlices
import Derived.Deep.QuietTactic
import Derived.BigQuiet
import Derived.Deep.DeepCutAuto
import Derived.Laws.ResultCell
import Derived.Laws.NewDeep
import Derived.Deep.RegionHeld
import Derived.Maps.AppendAt
namespace Go.Proofs.YtnahjngbneicaaaGreatDoor
set_option maxRecDepth 100000
theorem zL {n:Nat}:n<=n:=Nat.le_refl n
open Go.RowKit
theorem Zaz {B:Nat} {a w:World} (h:Below B a w) (n:Nat):Below B a (w.drewN n):=⟨h.os,h.tape,h.output,h.size,h.block⟩
theorem ZZ {p:Prop} (h:p):Hid p:=h
theorem Zgh {a b:Bool} (h:a=b):Ending.returned (.bool a)=.returned (.bool b):=by rw[h]
structure Fl where
 b:List UInt8
 k:Nat
inductive Ch where
 | give (n:Int) (f:Nat)
 | move (n tz:Int) (f:Nat)
 | take (n:Int)
abbrev Dir:=List (Int × Nat)
def Zbw (l:Dir):Prop:=l.Pairwise (fun p q=>p.1<q.1)
def Zkp (l:Dir):Prop:=l.Pairwise (fun p q=>p.2≠q.2)
def look:Dir->Int->Option Nat
 | [],_=>none
 | p::l,n=>if p.1=n then some p.2 else look l n
def Zkn (n:Int) (f:Nat):Bool->Dir->Dir
 | done,[]=>if done then[] else[(n,f)]
 | done,p::l=>(if !done && decide (p.1>n) then[(n,f)] else[])++((if p.1≠n then[p] else[])++Zkn n f (done || decide (p.1>n)) l)
def Zkq (l:Dir) (n:Int):Option Nat->Dir
 | some f=>Zkn n f false l
 | none=>Zkn n 0 true l
theorem Ziz {α:Type} (c:Prop) [Decidable c] (x p:α):p ∈ (if c then[x] else[])↔c∧p=x:=by
 split <;> simp_all
theorem ZdK (n:Int) (f:Nat) (p:Int × Nat):∀ (l:Dir) (done:Bool),p ∈ Zkn n f done l↔(p ∈ l∧p.1≠n)∨(done=false∧p=(n,f))
 | [],done=>by cases done <;> simp[Zkn]
 | q::l,done=>by
  rw[Zkn,List.mem_append,List.mem_append,ZdK n f p l,Ziz,Ziz,List.mem_cons]
  cases done <;> grind
theorem Zqz (l:Dir) (n:Int) (o:Option Nat) (p:Int × Nat):p ∈ Zkq l n o↔(p ∈ l∧p.1≠n)∨(p.1=n∧o=some p.2):=by
 cases o with
 | none=>rw[Zkq,ZdK];simp
 | some f=>
  rw[Zkq,ZdK]
  constructor
  ·rintro(h | ⟨_,h⟩)
   ·exact .inl h
   ·exact .inr (by rw[h];exact⟨rfl,rfl⟩)
  ·rintro(h | ⟨h1,h2⟩)
   ·exact .inl h
   ·refine .inr ⟨rfl,?_⟩
    obtain⟨a,b⟩:=p
    simp only [Option.some.injEq] at h2
    simp only at h1
    rw[h1,h2]
theorem ZfI (n:Int) (f:Nat):∀ (l:Dir) (done:Bool),Zbw l->(done=true->∀ p ∈ l,p.1>n)->Zbw (Zkn n f done l)
 | [],done,_,_=>by cases done <;> simp[Zkn,Zbw]
 | q::l,done,h,hd=>by
  unfold Zbw at h
  rw[List.pairwise_cons] at h
  rw[Zkn]
  unfold Zbw
  by_cases h1:q.1>n
  ·have h2:q.1≠n:=by omega
   have ih:=ZfI n f l true h.2 (fun _ p hp=>by have:=h.1 p hp;omega)
   have e:(done || decide (q.1>n))=true:=by rw[decide_eq_true h1,Bool.or_true]
   rw[e,if_pos h2]
   have hc:(q::Zkn n f true l).Pairwise (fun p q=>p.1<q.1):=by
    refine List.pairwise_cons.2 ⟨fun p hp=>?_,ih⟩
    rcases(ZdK n f p l true).1 hp with ⟨hp,_⟩ | ⟨hp,_⟩
    ·exact h.1 p hp
    ·cases hp
   cases done
   ·rw[if_pos (by simp[h1])]
    refine List.pairwise_cons.2 ⟨fun p hp=>?_,hc⟩
    rcases List.mem_cons.1 hp with rfl | hp
    ·exact h1
    ·rcases(ZdK n f p l true).1 hp with ⟨hp,_⟩ | ⟨hp,_⟩
     ·have:=h.1 p hp;simp only;omega
     ·cases hp
   ·rw[if_neg (by simp)]
    exact hc
  ·have e:(done || decide (q.1>n))=done:=by rw[decide_eq_false h1,Bool.or_false]
   have hdn:done=false:=by
    cases done
    ·rfl
    ·exact absurd (hd rfl q (List.mem_cons_self ..)) h1
   subst hdn
   rw[e,if_neg (by simp[h1])]
   have ih:=ZfI n f l false h.2 (fun hh=>by cases hh)
   by_cases h2:q.1=n
   ·rw[if_neg (by simp[h2])]
    exact ih
   ·rw[if_pos h2]
    refine List.pairwise_cons.2 ⟨fun p hp=>?_,ih⟩
    rcases(ZdK n f p l false).1 hp with ⟨hp,_⟩ | ⟨_,hp⟩
    ·exact h.1 p hp
    ·rw[hp];simp only;omega
theorem ZiA (n:Int) (f:Nat):∀ l:Dir,Zkn n f true l=l.filter (fun p=>decide (p.1≠n))
 | []=>rfl
 | q::l=>by
  rw[Zkn,Bool.true_or,ZiA n f l,List.filter_cons]
  by_cases h:q.1=n <;> simp[h]
theorem ZcA {l:Dir} (h:Zbw l) (n:Int) (o:Option Nat):Zbw (Zkq l n o):=by
 cases o with
 | none=>
  rw[Zkq,ZiA]
  exact h.sublist List.filter_sublist
 | some f=>exact ZfI n f l false h (fun hh=>by cases hh)
theorem ZfJ (n:Int) (f:Nat):∀ (l:Dir) (done:Bool),(Zkn n f done l).length<=l.length+(if done then 0 else 1)
 | [],done=>by cases done <;> simp[Zkn]
 | q::l,done=>by
  have ih:=ZfJ n f l (done || decide (q.1>n))
  rw[Zkn,List.length_append,List.length_append,List.length_cons]
  cases done <;> grind
theorem ZfK (l:Dir) (n:Int) (o:Option Nat):(Zkq l n o).length<=l.length+1:=by
 cases o with
 | none=>have:=ZfJ n 0 l true;simp at this;rw[Zkq];omega
 | some f=>have:=ZfJ n f l false;simpa[Zkq] using this
theorem ZcY {l:Dir} (h:Zbw l) (n:Int) (f:Nat):look l n=some f↔(n,f) ∈ l:=by
 induction l with
 | nil=>simp[look]
 | cons p l ih=>
  unfold Zbw at h
  rw[List.pairwise_cons] at h
  rw[look]
  by_cases e:p.1=n
  ·rw[if_pos e]
   constructor
   ·intro hf
    have:p=(n,f):=by
     obtain⟨a,b⟩:=p
     simp only [Option.some.injEq] at hf
     simp only at e
     rw[e,hf]
    rw[this]
    exact List.mem_cons_self ..
   ·intro hm
    rcases List.mem_cons.1 hm with hm | hm
    ·rw[<-hm]
    ·have:=h.1 _ hm
     simp only at this
     omega
  ·rw[if_neg e,ih h.2]
   constructor
   ·exact fun hm=>List.mem_cons_of_mem _ hm
   ·intro hm
    rcases List.mem_cons.1 hm with hm | hm
    ·exact absurd (by rw[<-hm]) e
    ·exact hm
theorem Zgi {l:Dir} (h:Zbw l) (n:Int) (o:Option Nat) (m:Int):look (Zkq l n o) m=if m=n then o else look l m:=by
 have hs:=ZcA h n o
 apply Option.ext
 intro f
 rw[ZcY hs,Zqz]
 by_cases e:m=n
 ·rw[if_pos e]
  constructor
  ·rintro(⟨_,h2⟩ | ⟨_,h2⟩)
   ·exact absurd e h2
   ·exact h2
  ·exact fun h2=>.inr ⟨e,h2⟩
 ·rw[if_neg e,ZcY h]
  constructor
  ·rintro(⟨h1,_⟩ | ⟨h1,_⟩)
   ·exact h1
   ·exact absurd h1 e
  ·exact fun h1=>.inl ⟨h1,e⟩
theorem ZhJ {l:Dir} (h:Zbw l):(l.map Prod.fst).Pairwise (·<·):=by
 rw[List.pairwise_map]
 exact h
theorem ZhK:∀ {a b:List Int},a.Pairwise (·<·)->b.Pairwise (·<·)->(∀ x,x ∈ a↔x ∈ b)->a=b
 | [],[],_,_,_=>rfl
 | [],y::b,_,_,h=>by have:=(h y).2 (List.mem_cons_self ..);cases this
 | x::a,[],_,_,h=>by have:=(h x).1 (List.mem_cons_self ..);cases this
 | x::a,y::b,ha,hb,h=>by
  rw[List.pairwise_cons] at ha hb
  have hxy:x=y:=by
   rcases List.mem_cons.1 ((h x).1 (List.mem_cons_self ..)) with e | hx
   ·exact e
   ·rcases List.mem_cons.1 ((h y).2 (List.mem_cons_self ..)) with e | hy
    ·exact e.symm
    ·have:=ha.1 y hy
     have:=hb.1 x hx
     omega
  subst hxy
  rw[ZhK ha.2 hb.2 fun z=>?_]
  constructor
  ·intro hz
   rcases List.mem_cons.1 ((h z).1 (List.mem_cons_of_mem _ hz)) with e | hz'
   ·have:=ha.1 z hz;omega
   ·exact hz'
  ·intro hz
   rcases List.mem_cons.1 ((h z).2 (List.mem_cons_of_mem _ hz)) with e | hz'
   ·have:=hb.1 z hz;omega
   ·exact hz'
theorem ZkN (n:Int) (f:Nat):∀ (l:Dir) (done:Bool),Zkp l->(done=false->∀ p ∈ l,p.1≠n->p.2≠f)->Zkp (Zkn n f done l)
 | [],done,_,_=>by cases done <;> simp[Zkn,Zkp]
 | q::l,done,h,hd=>by
  unfold Zkp at h
  rw[List.pairwise_cons] at h
  rw[Zkn]
  have ih:=ZkN n f l (done || decide (q.1>n)) h.2 (fun e p hp hn=>hd (by cases done <;> simp_all) p (List.mem_cons_of_mem _ hp) hn)
  have hc:∀ hq:q.1≠n,(q::Zkn n f (done || decide (q.1>n)) l).Pairwise (fun p q=>p.2≠q.2):=by
   intro hq
   refine List.pairwise_cons.2 ⟨fun p hp=>?_,ih⟩
   rcases(ZdK n f p l _).1 hp with ⟨hp,_⟩ | ⟨hdn,hp⟩
   ·exact h.1 p hp
   ·rw[hp]
    exact hd (by cases done <;> simp_all) q (List.mem_cons_self ..) hq
  unfold Zkp
  by_cases hq:q.1=n
  ·rw[if_neg (by simp[hq]),if_neg (by simp[hq])]
   exact ih
  ·rw[if_pos hq]
   by_cases hcond:(!done && decide (q.1>n))=true
   ·rw[if_pos hcond]
    simp only [Bool.and_eq_true,Bool.not_eq_true',decide_eq_true_eq] at hcond
    refine List.pairwise_cons.2 ⟨fun p hp=>?_,hc hq⟩
    rcases List.mem_cons.1 hp with rfl | hp
    ·exact fun e=>hd hcond.1 p (List.mem_cons_self ..) hq e.symm
    ·rcases(ZdK n f p l _).1 hp with ⟨hp,hpn⟩ | ⟨hdn,_⟩
     ·exact fun e=>hd hcond.1 p (List.mem_cons_of_mem _ hp) hpn e.symm
     ·rw[decide_eq_true hcond.2] at hdn
      simp at hdn
   ·rw[if_neg hcond]
    exact hc hq
theorem Zrb {l:Dir} (h:Zkp l) (n:Int) (f:Nat) (hf:∀ p ∈ l,p.1≠n->p.2≠f):Zkp (Zkq l n (some f)):=
 ZkN n f l false h fun _=>hf
def chD (l:Dir):Ch->Dir
 | .give n f=>Zkq l n (some f)
 | .move n tz f=>Zkq (Zkq l n none) tz (some f)
 | .take n=>Zkq l n none
theorem Zrc {l:Dir} (h:Zbw l) (c:Ch):Zbw (chD l c):=by
 cases c with
 | give n f=>rw[chD];exact ZcA h _ _
 | move n tz f=>rw[chD];exact ZcA (ZcA h _ _) _ _
 | take n=>rw[chD];exact ZcA h _ _
theorem Zrd (l:Dir) (c:Ch):(chD l c).length<=l.length+1:=by
 cases c with
 | give n f=>rw[chD];exact ZfK _ _ _
 | move n tz f=>
  have h1:=ZfK (Zkq l n none) tz (some f)
  have h2:(Zkq l n none).length<=l.length:=by rw[Zkq,ZiA];exact List.length_filter_le _ _
  rw[chD];omega
 | take n=>rw[chD];exact ZfK _ _ _
def chF (f:Int->Option Nat):Ch->Int->Option Nat
 | .give n x=>fun m=>if m=n then some x else f m
 | .move n tz x=>fun m=>if m=n then none else if m=tz then some x else f m
 | .take n=>fun m=>if m=n then none else f m
theorem ZlC {l:Dir} (h:Zbw l) (c:Ch) (hc:∀ n tz f,c=.move n tz f->n≠tz) (m:Int):look (chD l c) m=chF (look l) c m:=by
 cases c with
 | give n f=>rw[chD];exact Zgi h _ _ _
 | move n tz f=>
  have hne:=hc n tz f rfl
  rw[chD,Zgi (ZcA h _ _),Zgi h]
  show _=(if m=n then none else if m=tz then some f else look l m)
  grind
 | take n=>rw[chD];exact Zgi h _ _ _
def fl (fs:List Fl) (f:Nat):Fl:=fs.getD f ⟨[],0⟩
theorem ZiB {fs:List Fl} {f:Nat} (h:f<fs.length) (x:Fl):fl (fs.set f x) f=x:=by
 unfold fl
 simp[List.getD,h]
theorem ZeP {fs:List Fl} {f g:Nat} (h:f≠g) (x:Fl):fl (fs.set f x) g=fl fs g:=by
 unfold fl
 simp[List.getD,h]
structure Dk where
 room:Int
 files:List Fl
 kept:Dir
 waits:List Ch
 power:Int
def Zvw (d:Dk) (k:Nat):Dir:=(d.waits.take k).foldl chD d.kept
def ZbW (d:Dk):Dir:=d.waits.foldl chD d.kept
def Zft (fs:List Fl) (l:Dir):Nat:=(l.map fun p=>(fl fs p.2).b.length).sum
def ZcB (d:Dk):Nat:=Zft d.files (ZbW d)
def totF (fs:List Fl):Nat:=(fs.map fun x=>x.b.length).sum
def ZdW (p:Int):Int:=if p>0 then p-1 else p
def Zgj (n:Int):Bool:=decide (0<=n) && decide (n<1048576)
def ZfL (room:Int):Dk:=⟨room,[],[],[],-1⟩
def ZbL (d:Dk) (n:Int):Dk:={ d with files:=d.files++[⟨[],0⟩],waits:=d.waits++[.give n d.files.length] }
def ZfM (fs:List Fl) (f:Nat) (b:List UInt8):List Fl:=fs.set f ⟨(fl fs f).b++b,(fl fs f).k⟩
def appendTo (d:Dk) (f:Nat) (b:List UInt8):Dk:={ d with files:=ZfM d.files f b,power:=ZdW d.power }
def Zaw (d:Dk) (n:Int) (b:List UInt8):Dk × Int:=
 if d.power=0 then(d,11) else if Zgj n=false then(d,1) else if(ZcB d:Int)+b.length>d.room then(d,10) else
 match look (ZbW d) n with
 | some f=>(appendTo d f b,0)
 | none=>(appendTo (ZbL d n) d.files.length b,0)
def Zcv (d:Dk) (n:Int):List UInt8 × Int:=
 if d.power=0 then([],11) else
 match look (ZbW d) n with
 | some f=>((fl d.files f).b,0)
 | none=>([],8)
def Zfu (fs:List Fl) (f:Nat):List Fl:=fs.set f ⟨(fl fs f).b,(fl fs f).b.length⟩
def ZdX (d:Dk) (n:Int):Dk × Int:=
 if d.power=0 then(d,11) else
 match look (ZbW d) n with
 | some f=>({ d with files:=Zfu d.files f,power:=ZdW d.power },0)
 | none=>(d,8)
def Ztf (d:Dk) (n tz:Int):Dk × Int:=
 if d.power=0 then(d,11) else
 match look (ZbW d) n with
 | some f=>if Zgj tz=false then(d,1) else if n=tz then({ d with power:=ZdW d.power },0) else
  ({ d with waits:=d.waits++[.move n tz f],power:=ZdW d.power },0)
 | none=>(d,8)
def Ztg (d:Dk) (n:Int):Dk × Int:=
 if d.power=0 then(d,11) else
 match look (ZbW d) n with
 | some _=>({ d with waits:=d.waits++[.take n],power:=ZdW d.power },0)
 | none=>(d,8)
def Zbd (d:Dk):Dk × Int:=
 if d.power=0 then(d,11) else({ d with kept:=ZbW d,waits:=[],power:=ZdW d.power },0)
def Zvu (m:Nat):Ch->Prop
 | .give n f=>Zgj n=true∧f<m
 | .move n tz f=>Zgj n=true∧Zgj tz=true∧n≠tz∧f<m
 | .take n=>Zgj n=true
structure OkL (m:Nat) (l:Dir):Prop where
 rise:Zbw l
 apart:Zkp l
 may:∀ p ∈ l,Zgj p.1=true∧p.2<m
structure OkD (d:Dk):Prop where
 dirs:∀ k,OkL d.files.length (Zvw d k)
 chs:∀ c ∈ d.waits,Zvu d.files.length c
 keep:∀ x ∈ d.files,x.k<=x.b.length
theorem Zfk (d:Dk):Zvw d d.waits.length=ZbW d:=by rw[Zvw,ZbW,List.take_length]
theorem Zth (d:Dk):Zvw d 0=d.kept:=by rw[Zvw];rfl
theorem OkD.dir {d:Dk} (h:OkD d):OkL d.files.length (ZbW d):=by rw[<-Zfk];exact h.dirs _
theorem OkD.kept {d:Dk} (h:OkD d):OkL d.files.length d.kept:=by rw[<-Zth];exact h.dirs _
theorem OkL.more {m m':Nat} {l:Dir} (h:OkL m l) (hm:m<=m'):OkL m' l:=
 ⟨h.rise,h.apart,fun p hp=>⟨(h.may p hp).1,by have:=(h.may p hp).2;omega⟩⟩
theorem Zvu.more {m m':Nat} {c:Ch} (h:Zvu m c) (hm:m<=m'):Zvu m' c:=by
 cases c with
 | give n f=>exact⟨h.1,by have:=h.2;omega⟩
 | move n tz f=>exact⟨h.1,h.2.1,h.2.2.1,by have:=h.2.2.2;omega⟩
 | take n=>exact h
theorem Zxi (m:Nat):OkL m []:=⟨List.Pairwise.nil,List.Pairwise.nil,fun p hp=>by cases hp⟩
theorem Zti (room:Int):OkD (ZfL room):=by
 refine⟨fun k=>?_,(fun c hc=>by cases hc),(fun x hx=>by cases hx)⟩
 rw[Zvw]
 show OkL 0 ((([]:List Ch).take k).foldl chD [])
 rw[List.take_nil]
 exact Zxi _
theorem OkD.wait {d:Dk} (h:OkD d) {c:Ch} {fs:List Fl} {p:Int} (hfs:d.files.length<=fs.length) (hk:∀ x ∈ fs,x.k<=x.b.length) (hc:Zvu fs.length c) (hl:OkL fs.length (chD (ZbW d) c)):
 OkD { d with files:=fs,waits:=d.waits++[c],power:=p }:=by
 refine⟨fun k=>?_,fun c' hc'=>?_,hk⟩
 ·show OkL fs.length (((d.waits++[c]).take k).foldl chD d.kept)
  by_cases hle:k<=d.waits.length
  ·rw[List.take_append_of_le_length hle]
   exact(h.dirs k).more hfs
  ·rw[List.take_of_length_le (by simp;omega),List.foldl_append]
   exact hl
 ·rcases List.mem_append.1 hc' with hc' | hc'
  ·exact(h.chs c' hc').more hfs
  ·rw[List.mem_singleton.1 hc']
   exact hc
theorem OkD.bytes {d:Dk} (h:OkD d) {fs:List Fl} {p:Int} (hfs:d.files.length=fs.length) (hk:∀ x ∈ fs,x.k<=x.b.length):OkD { d with files:=fs,power:=p }:=by
 refine⟨fun k=>?_,fun c hc=>?_,hk⟩
 ·show OkL fs.length (Zvw d k)
  rw[<-hfs]
  exact h.dirs k
 ·show Zvu fs.length c
  rw[<-hfs]
  exact h.chs c hc
theorem ZqA {d:Dk} {fs:List Fl} {l:Dir} {p:Int} (hl:OkL fs.length l) (hk:∀ x ∈ fs,x.k<=x.b.length):OkD { d with files:=fs,kept:=l,waits:=[],power:=p }:=by
 refine⟨fun k=>?_,(fun c hc=>by cases hc),hk⟩
 show OkL fs.length ((([]:List Ch).take k).foldl chD l)
 rw[List.take_nil]
 exact hl
theorem OkD.fresh {d:Dk} (h:OkD d) {n:Int} (hn:Zgj n=true):OkD (ZbL d n):=by
 have hd:=h.dir
 refine OkD.wait (p:=d.power) h (by simp) (fun x hx=>?_) ⟨hn,by simp⟩ ⟨?_,?_,?_⟩
 ·rcases List.mem_append.1 hx with hx | hx
  ·exact h.keep x hx
  ·rw[List.mem_singleton.1 hx];exact Nat.le_refl _
 ·exact Zrc hd.rise _
 ·rw[chD]
  exact Zrb hd.apart n _ fun p hp _=>by have:=(hd.may p hp).2;omega
 ·intro p hp
  rw[chD,Zqz] at hp
  simp only [List.length_append,List.length_singleton]
  rcases hp with ⟨hp,_⟩ | ⟨hp,e⟩
  ·exact⟨(hd.may p hp).1,by have:=(hd.may p hp).2;omega⟩
  ·rw[hp]
   have:=Option.some.inj e
   exact⟨hn,by omega⟩
theorem ZkO {d:Dk} (h:OkD d) (n:Int):look (ZbW (ZbL d n)) n=some d.files.length:=by
 have e:ZbW (ZbL d n)=chD (ZbW d) (.give n d.files.length):=by
  show(d.waits++[_]).foldl chD d.kept=_
  rw[List.foldl_append]
  rfl
 rw[e,ZlC h.dir.rise _ (fun _ _ _ hh=>by cases hh)]
 show(if n=n then _ else _)=_
 rw[if_pos rfl]
theorem ZkP (d:Dk) (n:Int):ZbW (ZbL d n)=chD (ZbW d) (.give n d.files.length):=by
 show(d.waits++[_]).foldl chD d.kept=_
 rw[List.foldl_append]
 rfl
theorem Zgk {fs:List Fl} {f:Nat} (h:f<fs.length):fl fs f ∈ fs:=by
 unfold fl
 rw[List.getD,List.getElem?_eq_getElem h]
 exact List.getElem_mem h
theorem ZlD {fs:List Fl} (h:∀ x ∈ fs,x.k<=x.b.length) (f:Nat) {y:Fl} (hy:y.k<=y.b.length):∀ x ∈ fs.set f y,x.k<=x.b.length:=by
 intro x hx
 rcases List.mem_or_eq_of_mem_set hx with hx | rfl
 ·exact h x hx
 ·exact hy
theorem Zxj {fs:List Fl} (h:∀ x ∈ fs,x.k<=x.b.length) (f:Nat):(fl fs f).k<=(fl fs f).b.length:=by
 by_cases hf:f<fs.length
 ·exact h _ (Zgk hf)
 ·unfold fl
  rw[List.getD,List.getElem?_eq_none (by omega)]
  exact Nat.le_refl _
theorem OkD.appendTo {d:Dk} (h:OkD d) (f:Nat) (b:List UInt8):OkD (appendTo d f b):=by
 refine h.bytes (by simp[ZfM]) (ZlD h.keep f ?_)
 have:=Zxj h.keep f
 simp only [List.length_append]
 omega
theorem OkD.append {d:Dk} (h:OkD d) (n:Int) (b:List UInt8):OkD (Zaw d n b).1:=by
 unfold Zaw
 split
 ·exact h
 ·split
  ·exact h
  ·rename_i hn
   split
   ·exact h
   ·split
    ·exact h.appendTo _ b
    ·exact(h.fresh (by simpa using hn)).appendTo _ b
theorem OkD.sync {d:Dk} (h:OkD d) (n:Int):OkD (ZdX d n).1:=by
 unfold ZdX
 split
 ·exact h
 ·split
  ·exact h.bytes (by simp[Zfu]) (ZlD h.keep _ zL)
  ·exact h
theorem OkL.mayOf {m:Nat} {l:Dir} (h:OkL m l) {n:Int} {f:Nat} (e:look l n=some f):Zgj n=true∧f<m:=h.may (n,f) ((ZcY h.rise n f).1 e)
theorem OkD.syncDir {d:Dk} (h:OkD d):OkD (Zbd d).1:=by
 unfold Zbd
 split
 ·exact h
 ·exact ZqA (fs:=d.files) h.dir h.keep
def val:List UInt8->Nat
 | []=>0
 | c::r=>c.toNat % 128+128*val r
def dec:Nat->List UInt8->Option (Nat × Nat)
 | 0,_=>none
 | _+1,[]=>none
 | n+1,c::r=>if c.toNat<128 then some (c.toNat,1) else
  match dec n r with
  | some (v+1,k)=>some (c.toNat % 128+128*(v+1),k+1)
  | _=>none
def Zaf (l:List UInt8):Nat × Nat:=
 match dec 10 l with
 | some (v,k)=>if v<18446744073709551616 then(v,k) else(0,0)
 | none=>(0,0)
def Zab (l:List UInt8):Nat × Nat:=if(Zaf l).1<4611686018427387904 then Zaf l else(0,0)
theorem ZwW:∀ l:List UInt8,val l<128 ^ l.length
 | []=>by simp[val]
 | c::r=>by
  have h:=ZwW r
  simp only [val,List.length_cons,Nat.pow_succ]
  omega
theorem ZqB:∀ (l:List UInt8) (c:UInt8),val (l++[c])=val l+c.toNat % 128*128 ^ l.length
 | [],c=>by simp[val]
 | d::r,c=>by
  have h:=ZqB r c
  simp only [List.cons_append,val,List.length_cons,Nat.pow_succ,h]
  rw[Nat.mul_add,<-Nat.mul_assoc,Nat.mul_comm 128 (c.toNat % 128),Nat.mul_assoc,Nat.mul_comm 128 (128 ^ r.length)]
  omega
theorem ZiC (l:List UInt8) (k:Nat) (h:k<l.length):l.take (k+1)=l.take k++[l.getD k 0]:=by
 rw[List.take_succ_eq_append_getElem h]
 simp[List.getD,h]
theorem Zgl (l:List UInt8) (k:Nat) (h:k<l.length):val (l.take (k+1))=val (l.take k)+(l.getD k 0).toNat % 128*128 ^ k:=by
 rw[ZiC l k h,ZqB,List.length_take,Nat.min_eq_left (by omega)]
theorem Ztj:∀ (k n:Nat) (l:List UInt8),k<n->k<l.length->(∀ j,j<k->128<=(l.getD j 0).toNat)->(l.getD k 0).toNat<128->
 dec n l=if 0<k∧(l.getD k 0).toNat=0 then none else some (val (l.take (k+1)),k+1)
 | 0,n+1,c::r,_,_,_,h=>by
  have hc:c.toNat<128:=by simpa using h
  simp only [dec,hc,if_true]
  simp[val]
  omega
 | k+1,n+1,c::r,hn,hl,hj,h=>by
  have h0:128<=c.toNat:=by simpa using hj 0 (by omega)
  have ih:=Ztj k n r (by omega) (by simpa using hl) (fun j hjk=>by simpa using hj (j+1) (by omega)) (by simpa using h)
  have hlast:((c::r).getD (k+1) 0)=r.getD k 0:=by simp
  simp only [dec]
  rw[if_neg (show ¬ c.toNat<128 by omega),hlast]
  have hlt:k<r.length:=by simpa using hl
  have hm:(r.getD k 0).toNat % 128=(r.getD k 0).toNat:=Nat.mod_eq_of_lt (by simpa using h)
  by_cases hz:(r.getD k 0).toNat=0
  ·rw[if_pos ⟨Nat.succ_pos k,hz⟩]
   have hR:dec n r=none∨dec n r=some (0,1):=by
    by_cases hk:0<k
    ·exact .inl (by rw[ih,if_pos ⟨hk,hz⟩])
    ·obtain rfl:k=0:=by omega
     have hv:val (r.take (0+1))=0:=by
      rw[Zgl r 0 hlt,hz]
      simp[val]
     exact .inr (by rw[ih,if_neg (fun e=>hk e.1),hv])
   rcases hR with e | e <;> rw[e]
  ·have hv:0<val (r.take (k+1)):=by
    rw[Zgl r k hlt,hm]
    have h1:0<128 ^ k:=Nat.pow_pos (by decide)
    have h2:0<(r.getD k 0).toNat*128 ^ k:=Nat.mul_pos (by omega) h1
    omega
   obtain⟨m,hm'⟩:∃ m,val (r.take (k+1))=m+1:=⟨val (r.take (k+1))-1,by omega⟩
   have e:dec n r=some (m+1,k+1):=by rw[ih,if_neg (fun e=>hz e.2),hm']
   rw[e,if_neg (fun e=>hz e.2)]
   simp only [List.take_succ_cons,val,hm']
theorem ZlE:∀ (n:Nat) (l:List UInt8),(∀ j,j<n->j<l.length->128<=(l.getD j 0).toNat)->dec n l=none
 | 0,_,_=>rfl
 | n+1,[],_=>rfl
 | n+1,c::r,h=>by
  have h0:128<=c.toNat:=by simpa using h 0 (by omega) (by simp)
  have ih:=ZlE n r (fun j hn hl=>by simpa using h (j+1) (by omega) (by simpa using hl))
  simp only [dec]
  rw[if_neg (by omega),ih]
theorem ZiD:∀ (n u:Nat) (t:List UInt8),(Lib.uvarint u).length<=n->dec n (Lib.uvarint u++t)=some (u,(Lib.uvarint u).length)
 | 0,u,_,h=>by have:=Lib.uvarint_pos u;omega
 | n+1,u,t,h=>by
  by_cases hu:u<128
  ·rw[Lib.uvarint_small hu]
   have e:(u.toUInt8).toNat=u:=Lib.toUInt8_toNat (by omega)
   simp only [List.cons_append,dec,e,hu,if_true]
   simp
  ·rw[Lib.uvarint_big (by omega)] at h ⊢
   have e:((u % 128+128).toUInt8).toNat=u % 128+128:=Lib.toUInt8_toNat (by omega)
   have ih:=ZiD n (u / 128) t (by simpa using h)
   obtain⟨m,hm⟩:∃ m,u / 128=m+1:=⟨u / 128-1,by omega⟩
   rw[hm] at ih ⊢
   simp only [List.cons_append,dec,e]
   rw[if_neg (by omega),ih]
   simp only [List.length_cons,Option.some.injEq,Prod.mk.injEq,and_true]
   omega
theorem ZmL:∀ (n:Nat) (l:List UInt8) (v k:Nat),dec n l=some (v,k)->k<=l.length∧1<=k∧l.take k=Lib.uvarint v
 | 0,_,_,_,h=>by simp[dec] at h
 | n+1,[],_,_,h=>by simp[dec] at h
 | n+1,c::r,v,k,h=>by
  simp only [dec] at h
  by_cases hc:c.toNat<128
  ·rw[if_pos hc] at h
   simp only [Option.some.injEq,Prod.mk.injEq] at h
   obtain⟨rfl,rfl⟩:=h
   refine⟨by simp,by omega,?_⟩
   rw[Lib.uvarint_small hc]
   simp
  ·rw[if_neg hc] at h
   cases hd:dec n r with
   | none=>rw[hd] at h;simp at h
   | some p=>
    obtain⟨v',k'⟩:=p
    rw[hd] at h
    cases v' with
    | zero=>simp at h
    | succ m=>
     simp only [Option.some.injEq,Prod.mk.injEq] at h
     obtain⟨rfl,rfl⟩:=h
     have ih:=ZmL n r (m+1) k' hd
     have hb:=c.toNat_lt
     refine⟨by simpa using ih.1,by omega,?_⟩
     rw[Lib.uvarint_big (by omega),List.take_succ_cons,ih.2.2]
     have e1:(c.toNat % 128+128*(m+1)) % 128+128=c.toNat:=by omega
     have e2:(c.toNat % 128+128*(m+1)) / 128=m+1:=by omega
     rw[e1,e2]
     simp
theorem Zbx (u:Nat) (t:List UInt8) (h:u<18446744073709551616):Zaf (Lib.uvarint u++t)=(u,(Lib.uvarint u).length):=by
 unfold Zaf
 rw[ZiD 10 u t (Lib.uvarint_length64 h)]
 simp[h]
theorem ZaL (u:Nat) (t:List UInt8) (h:u<4611686018427387904):Zab (Lib.uvarint u++t)=(u,(Lib.uvarint u).length):=by
 unfold Zab
 rw[Zbx u t (by omega)]
 simp[h]
theorem Zby (l:List UInt8):Zaf l=(0,0)∨((Zaf l).1<18446744073709551616∧1<=(Zaf l).2∧(Zaf l).2<=l.length∧l.take (Zaf l).2=Lib.uvarint (Zaf l).1):=by
 unfold Zaf
 cases h:dec 10 l with
 | none=>exact .inl rfl
 | some p=>
  obtain⟨v,k⟩:=p
  have hs:=ZmL 10 l v k h
  by_cases hv:v<18446744073709551616
  ·simp only [hv,if_true]
   exact .inr ⟨trivial,hs.2.1,hs.1,hs.2.2⟩
  ·simp only [hv,if_false]
   exact .inl trivial
theorem ZlF (l:List UInt8):(Zaf l).1<18446744073709551616:=by
 rcases Zby l with h | h
 ·rw[h];decide
 ·exact h.1
theorem Zci (l:List UInt8):(Zaf l).2<=l.length:=by
 rcases Zby l with h | h
 ·rw[h];exact Nat.zero_le _
 ·exact h.2.2.1
theorem Zau (l:List UInt8):Zab l=(0,0)∨((Zab l).1<4611686018427387904∧1<=(Zab l).2∧(Zab l).2<=l.length∧l.take (Zab l).2=Lib.uvarint (Zab l).1):=by
 unfold Zab
 by_cases h:(Zaf l).1<4611686018427387904
 ·rw[if_pos h]
  rcases Zby l with e | e
  ·exact .inl e
  ·exact .inr ⟨h,e.2⟩
 ·rw[if_neg h]
  exact .inl rfl
theorem pow7 (k:Nat):2 ^ (7*k)=128 ^ k:=by rw[Nat.pow_mul]
theorem ZhL:∀ (n u j:Nat),(Lib.uvarint u).length<=n->j+1<(Lib.uvarint u).length->128<=((Lib.uvarint u).getD j 0).toNat
 | 0,u,_,h,_=>by have:=Lib.uvarint_pos u;omega
 | n+1,u,j,h,hj=>by
  by_cases hu:u<128
  ·rw[Lib.uvarint_small hu] at hj
   simp at hj
  ·rw[Lib.uvarint_big (by omega)] at h hj ⊢
   cases j with
   | zero=>
    have e:((u % 128+128).toUInt8).toNat=u % 128+128:=Lib.toUInt8_toNat (by omega)
    simp only [List.getD_cons_zero,e]
    omega
   | succ j=>
    simp only [List.length_cons] at h hj
    simp only [List.getD_cons_succ]
    exact ZhL n (u / 128) j (by omega) (by omega)
def Rd (w:World) (v:Value) (l:List UInt8):Prop:=
 ∃ ao cap,v=.slice ao l.length cap∧l.length<=cap∧cap<=maxLen∧(ao=none->cap=0)∧
  (l=[]∨∃ b off,ao=some ⟨b,off,none⟩∧∀ j,j<l.length->w.cell? ⟨b,off+j,none⟩=some (.int .u8 (l.getD j 0).toNat))
def Own (w:World) (B:Nat) (v:Value) (l:List UInt8):Prop:=w.ownsRow B 5 1 v l.length (Lib.byteCells l)
theorem Zbg (l:List UInt8):(Lib.byteCells l).length=l.length:=by simp[Lib.byteCells]
theorem Zen (l:List UInt8) (j:Nat) (h:j<l.length):(Lib.byteCells l)[j]?=some (.int .u8 (l.getD j 0).toNat):=by
 simp[Lib.byteCells,List.getD,h]
theorem ZcZ (l:List UInt8):∀ u ∈ Lib.byteCells l,u.oneCell'=true:=by
 intro u hu
 obtain⟨_,_,rfl⟩:=List.mem_map.1 hu
 rfl
theorem Rd.nil (w:World):Rd w (.slice none 0 0) []:=⟨none,0,rfl,Nat.le_refl _,Nat.zero_le _,fun _=>rfl,.inl rfl⟩
theorem Rd.below {w w':World} {v:Value} {l:List UInt8} (h:Rd w v l) {B:Nat} (hb:Below B w w') (hB:w.heap.size<=B):Rd w' v l:=by
 obtain⟨ao,cap,h1,h2,h3,hn,h4⟩:=h
 refine⟨ao,cap,h1,h2,h3,hn,?_⟩
 rcases h4 with h4 | ⟨b,off,h5,h6⟩
 ·exact .inl h4
 ·refine .inr ⟨b,off,h5,fun j hj=>?_⟩
  have hc:=h6 j hj
  have hlt:b<w.heap.size:=World.block_lt_of_cell? w ⟨b,off+j,none⟩ hc
  rw[hb.cell (p:=⟨b,off+j,none⟩) (by exact Nat.lt_of_lt_of_le hlt hB)]
  exact hc
theorem Rd.at {w:World} {b off n cap:Nat} {l:List UInt8} (h:Rd w (.slice (some ⟨b,off,none⟩) n cap) l) (j:Nat) (hj:j<l.length):w.cell? ⟨b,off+j,none⟩=some (.int .u8 (l.getD j 0).toNat):=by
 obtain⟨ao,cap',hv,_,_,_,h4⟩:=h
 simp only [Value.slice.injEq] at hv
 obtain⟨rfl,_,rfl⟩:=hv
 rcases h4 with h4 | ⟨b',off',h5,h6⟩
 ·subst h4
  simp at hj
 ·simp only [Option.some.injEq,Addr.mk.injEq,and_true] at h5
  obtain⟨rfl,rfl⟩:=h5
  exact h6 j hj
theorem Rd.ofRow {w:World} {x:Addr} {len cap:Nat} {zs:List Int} (hl:len<=cap) (hm:cap<=maxLen) (hz:zs.length=cap) (hcell:∀ i,i<zs.length->w.cell? (x.add i)=some (.int .u8 (zs.getD i 0))) (hwz:∀ n ∈ zs,(Lit.int .u8 n).wf=true):
 Rd w (.slice (some x) len cap) ((zs.take len).map fun n=>UInt8.ofNat n.toNat):=by
 have hlen:((zs.take len).map fun n=>UInt8.ofNat n.toNat).length=len:=by simp;omega
 refine⟨some x,cap,by rw[hlen],by omega,hm,(fun e=>by cases e),?_⟩
 by_cases h0:len=0
 ·exact .inl (by rw[h0];rfl)
 ·obtain⟨b,off,spot⟩:=x
  have hc:=hcell 0 (by omega)
  have hspot:spot=none:=by simpa[Addr.add] using World.cell?_spot hc
  subst hspot
  refine .inr ⟨b,off,rfl,fun j hj=>?_⟩
  have hj':j<zs.length:=by omega
  have hcj:=hcell j hj'
  rw[Addr.add_lit] at hcj
  rw[hcj]
  have hmem:zs[j] ∈ zs:=List.getElem_mem hj'
  have hw:=hwz _ hmem
  have hb:0<=zs[j]∧zs[j]<=255:=by simpa[Lit.wf,IntKind.min,IntKind.max,IntKind.signed,IntKind.bits] using hw
  have e:(((zs.take len).map fun n=>UInt8.ofNat n.toNat).getD j 0)=UInt8.ofNat (zs[j]).toNat:=by
   simp[List.getD,hj',show j<len by omega]
  rw[e]
  have e2:zs.getD j 0=zs[j]:=by simp[List.getD,hj']
  rw[e2,UInt8.toNat_ofNat']
  congr 2
  omega
theorem Own.rd {w:World} {B:Nat} {v:Value} {l:List UInt8} (h:Own w B v l):Rd w v l:=by
 rcases h.2 with ⟨hv,hn⟩ | ⟨g,cap,cur,hv,hb,hg,hnc,hcm,hcs,htake⟩
 ·exact⟨none,0,by rw[hv,hn],by omega,Nat.zero_le _,fun _=>rfl,.inl (List.eq_nil_of_length_eq_zero hn)⟩
 ·refine⟨some ⟨g,0,none⟩,cap,hv,hnc,hcm,(fun e=>by cases e),.inr ⟨g,0,rfl,fun j hj=>?_⟩⟩
  have:=World.ownsRow.cells h (g:=g) (by rw[hv];rfl) j _ (Zen l j hj)
  rw[Addr.add_lit] at this
  exact this
theorem Own.mono {w:World} {B B':Nat} {v:Value} {l:List UInt8} (h:Own w B v l) (hB:B'<=B):Own w B' v l:=by
 obtain⟨h1,h2⟩:=h
 refine⟨h1,?_⟩
 rcases h2 with h2 | ⟨g,cap,cur,hv,hb,r⟩
 ·exact .inl h2
 ·exact .inr ⟨g,cap,cur,hv,by omega,r⟩
theorem Own.below {w w':World} {B B':Nat} {v:Value} {l:List UInt8} (h:Own w B v l) (hb:Below B' w w') (hB:w.heap.size<=B'):Own w' B v l:=by
 obtain⟨h1,h2⟩:=h
 refine⟨h1,?_⟩
 rcases h2 with h2 | ⟨g,cap,cur,hv,hbg,hg,r⟩
 ·exact .inl h2
 ·have hlt:g<w.heap.size:=(Array.getElem?_eq_some_iff.1 hg).1
  exact .inr ⟨g,cap,cur,hv,hbg,by rw[hb.block g (by omega)];exact hg,r⟩
theorem Rd.cells {w:World} {ao:Option Addr} {l:List UInt8} (h:l=[]∨∃ b off,ao=some ⟨b,off,none⟩∧∀ j,j<l.length->w.cell? ⟨b,off+j,none⟩=some (.int .u8 (l.getD j 0).toNat)):
 ∀ ad,ao=some ad->∀ j u,(Lib.byteCells l)[j]?=some u->w.cell? (ad.add j)=some u:=by
 intro ad had j u hu
 have hj:j<l.length:=by
  have:=(List.getElem?_eq_some_iff.1 hu).1
  simpa[Lib.byteCells] using this
 rcases h with rfl | ⟨b,off,h5,h6⟩
 ·simp at hj
 ·rw[h5] at had
  obtain rfl:=Option.some.inj had
  rw[Addr.add_lit,h6 j hj,<-Zen l j hj,hu]
theorem Own.mk' {w:World} {B:Nat} {v:Value} {n:Nat} {xs:List Value} {l:List UInt8} (h:w.ownsRow B 5 1 v n xs) (hn:n=l.length) (hx:xs=Lib.byteCells l):Own w B v l:=by
 subst hn hx
 exact h
theorem ZlG:(Tryz.prog.info? 5).map (fun i=>(i.zero,i.size,i.bytes))=some (some (.int .u8 0),1,1):=by kernel_rfl
theorem Zeo {k:IntKind} {a b:Int} (h:a=b):Ending.returned (.int k a)=.returned (.int k b):=by rw[h]
theorem Ztk (n:Int) (h0:-9223372036854775808<=n) (h1:n<=9223372036854775807):
 bits .xor .u64 (IntKind.u64.wrap (IntKind.u64.wrap n*2)) (IntKind.u64.wrap (n / 9223372036854775808))=((Lib.zigzag n:Nat):Int):=by
 by_cases h:0<=n
 ·have e1:IntKind.u64.wrap (IntKind.u64.wrap n*2)=(((2*n).toNat:Nat):Int):=by
   rw[IntKind.wrap_u64,IntKind.wrap_u64];omega
  have e2:IntKind.u64.wrap (n / 9223372036854775808)=((0:Nat):Int):=by
   rw[IntKind.wrap_u64];omega
  rw[e1,e2,bits_xor_u64_nat _ _ (by omega) (by decide)]
  unfold Lib.zigzag
  rw[if_pos h]
  simp
 ·have e1:IntKind.u64.wrap (IntKind.u64.wrap n*2)=(((2*n+18446744073709551616).toNat:Nat):Int):=by
   rw[IntKind.wrap_u64,IntKind.wrap_u64];omega
  have e2:IntKind.u64.wrap (n / 9223372036854775808)=((2 ^ 64-1:Nat):Int):=by
   rw[IntKind.wrap_u64];omega
  rw[e1,e2,bits_xor_u64_nat _ _ (by omega) (by decide),Nat.xor_comm,Lib.xor_ones64 _ (by omega)]
  unfold Lib.zigzag
  rw[if_neg h]
  omega
def zag (u:Nat):Int:=if u % 2=0 then((u / 2:Nat):Int) else -((u / 2:Nat):Int)-1
theorem ZmM (x:Nat) (hx:x<9223372036854775808):bits .xor .i64 (x:Int) (-1)=-(x:Int)-1:=by
 show IntKind.i64.wrap ((BitVec.ofInt 64 (x:Int) ^^^ BitVec.ofInt 64 (-1)).toNat:Int)=_
 have h1:(BitVec.ofInt 64 (-1)).toNat=2 ^ 64-1:=by decide
 have h2:(BitVec.ofInt 64 (x:Int)).toNat=x:=by
  rw[BitVec.ofInt_natCast,BitVec.toNat_ofNat];exact Nat.mod_eq_of_lt (by omega)
 rw[BitVec.toNat_xor,h1,h2,Nat.xor_comm,Lib.xor_ones64 x (by omega),IntKind.wrap_i64]
 omega
theorem ZmN (x:Nat) (hx:x<9223372036854775808):bits .xor .i64 (x:Int) 0=(x:Int):=by
 show IntKind.i64.wrap ((BitVec.ofInt 64 (x:Int) ^^^ BitVec.ofInt 64 0).toNat:Int)=_
 have h1:(BitVec.ofInt 64 0).toNat=0:=by decide
 have h2:(BitVec.ofInt 64 (x:Int)).toNat=x:=by
  rw[BitVec.ofInt_natCast,BitVec.toNat_ofNat];exact Nat.mod_eq_of_lt (by omega)
 rw[BitVec.toNat_xor,h1,h2,Nat.xor_zero,IntKind.wrap_i64]
 omega
theorem Ztl (u:Nat) (h:u<18446744073709551616):
 bits .xor .i64 ((u:Int) / 2) (wrap64 (-wrap64 (bits .and .u64 (u:Int) 1)))=zag u:=by
 rw[Lib.u64_and1 _ (by omega) (by omega)]
 have e:(u:Int) / 2=((u / 2:Nat):Int):=by omega
 rw[e]
 unfold zag
 by_cases hp:u % 2=0
 ·have e2:wrap64 (-wrap64 ((u:Int) % 2))=0:=by
   have:(u:Int) % 2=0:=by omega
   rw[this]
   unfold wrap64
   omega
  rw[e2,if_pos hp,ZmN _ (by omega)]
 ·have e2:wrap64 (-wrap64 ((u:Int) % 2))=-1:=by
   have:(u:Int) % 2=1:=by omega
   rw[this]
   unfold wrap64
   omega
  rw[e2,if_neg hp,ZmM _ (by omega)]
theorem Zdm (n:Int) (h0:-9223372036854775808<=n) (h1:n<=9223372036854775807):zag (Lib.zigzag n)=n:=by
 unfold zag Lib.zigzag
 split <;> split <;> omega
theorem Zed (u:Nat):Lib.zigzag (zag u)=u:=by
 unfold zag Lib.zigzag
 split <;> split <;> omega
theorem Ztm (u:Nat) (h:u<18446744073709551616):-9223372036854775808<=zag u∧zag u<=9223372036854775807:=by
 unfold zag
 split <;> omega
theorem Zxk (n:Int) (w:World) (h0:-9223372036854775808<=n) (h1:n<=9223372036854775807):
 Calls Tryz.prog 191 #[.int .i64 n] w fun e w'=>e=.returned (.int .u64 (Lib.zigzag n:Nat))∧w'=w:=by
 have H:Hid (bits .xor .u64 (IntKind.u64.wrap (IntKind.u64.wrap n*2)) (IntKind.u64.wrap (n / 9223372036854775808))=((Lib.zigzag n:Nat):Int)):=Ztk n h0 h1
 go_enter Tryz.func191,Tryz.ntmps191
 go_wp2
 go_ret
 exact⟨Zeo H.out,rfl⟩
theorem Zxl (u:Nat) (w:World) (h:u<18446744073709551616):
 Calls Tryz.prog 220 #[.int .u64 (u:Int)] w fun e w'=>e=.returned (.int .i64 (zag u))∧w'=w:=by
 have H:Hid (bits .xor .i64 ((u:Int) / 2) (wrap64 (-wrap64 (bits .and .u64 (u:Int) 1)))=zag u):=Ztl u h
 go_enter Tryz.func220,Tryz.ntmps220
 go_wp2
 go_ret
 exact⟨Zeo H.out,rfl⟩
theorem Zac {p:Prop} (h:p):Hid p:=h
def I64 (n:Int):Prop:=-9223372036854775808<=n∧n<=9223372036854775807
def RdI (w:World) (v:Value) (l:List Int):Prop:=
 ∃ ao cap,v=.slice ao l.length cap∧l.length<=cap∧cap<=maxLen∧(ao=none->cap=0)∧(∀ n ∈ l,I64 n)∧
  (l=[]∨∃ b off,ao=some ⟨b,off,none⟩∧∀ j,j<l.length->w.cell? ⟨b,off+j,none⟩=some (.int .i64 (l.getD j 0)))
def Zak (l:List Int):List Value:=l.map (Value.int .i64)
def Zax (w:World) (B:Nat) (v:Value) (l:List Int):Prop:=w.ownsRow B 3 1 v l.length (Zak l)
theorem Zba (l:List Int):(Zak l).length=l.length:=by simp[Zak]
theorem Zbi (l:List Int) (j:Nat) (h:j<l.length):(Zak l)[j]?=some (.int .i64 (l.getD j 0)):=by
 simp[Zak,List.getD,h]
theorem ZmO (l:List Int):∀ u ∈ Zak l,u.oneCell'=true:=by
 intro u hu
 obtain⟨_,_,rfl⟩:=List.mem_map.1 hu
 rfl
theorem RdI.nil (w:World):RdI w (.slice none 0 0) []:=⟨none,0,rfl,Nat.le_refl _,Nat.zero_le _,fun _=>rfl,(fun n h=>by simp at h),.inl rfl⟩
theorem Zax.nil (w:World) (B:Nat):Zax w B (.slice none 0 0) []:=World.ownsRow_nil w B 3 1
theorem RdI.i64 {w:World} {v:Value} {l:List Int} (h:RdI w v l):∀ n ∈ l,I64 n:=by
 obtain⟨_,_,_,_,_,_,h,_⟩:=h
 exact h
theorem RdI.below {w w':World} {v:Value} {l:List Int} (h:RdI w v l) {B:Nat} (hb:Below B w w') (hB:w.heap.size<=B):RdI w' v l:=by
 obtain⟨ao,cap,h1,h2,h3,hn,hw,h4⟩:=h
 refine⟨ao,cap,h1,h2,h3,hn,hw,?_⟩
 rcases h4 with h4 | ⟨b,off,h5,h6⟩
 ·exact .inl h4
 ·refine .inr ⟨b,off,h5,fun j hj=>?_⟩
  have hc:=h6 j hj
  have hlt:b<w.heap.size:=World.block_lt_of_cell? w ⟨b,off+j,none⟩ hc
  rw[hb.cell (p:=⟨b,off+j,none⟩) (by exact Nat.lt_of_lt_of_le hlt hB)]
  exact hc
theorem RdI.ofRow {w:World} {x:Addr} {len cap:Nat} {zs:List Int} (hl:len<=cap) (hm:cap<=maxLen) (hz:zs.length=cap) (hcell:∀ i,i<zs.length->w.cell? (x.add i)=some (.int .i64 (zs.getD i 0))) (hwz:∀ n ∈ zs,(Lit.int .i64 n).wf=true):
 RdI w (.slice (some x) len cap) (zs.take len):=by
 have hlen:(zs.take len).length=len:=by simp;omega
 refine⟨some x,cap,by rw[hlen],by omega,hm,(fun e=>by cases e),fun n hn=>?_,?_⟩
 ·have:=hwz n (List.mem_of_mem_take hn)
  simpa[I64,Lit.wf,IntKind.min,IntKind.max,IntKind.signed,IntKind.bits] using this
 ·by_cases h0:len=0
  ·exact .inl (by rw[h0];rfl)
  ·obtain⟨b,off,spot⟩:=x
   have hc:=hcell 0 (by omega)
   have hspot:spot=none:=by simpa[Addr.add] using World.cell?_spot hc
   subst hspot
   refine .inr ⟨b,off,rfl,fun j hj=>?_⟩
   have hcj:=hcell j (by omega)
   rw[Addr.add_lit] at hcj
   rw[hcj]
   have hj':j<len:=by omega
   simp[List.getD,hj']
theorem Zax.rd {w:World} {B:Nat} {v:Value} {l:List Int} (h:Zax w B v l) (hw:∀ n ∈ l,I64 n):RdI w v l:=by
 rcases h.2 with ⟨hv,hn⟩ | ⟨g,cap,cur,hv,hb,hg,hnc,hcm,hcs,htake⟩
 ·exact⟨none,0,by rw[hv,hn],by omega,Nat.zero_le _,fun _=>rfl,hw,.inl (List.eq_nil_of_length_eq_zero hn)⟩
 ·refine⟨some ⟨g,0,none⟩,cap,hv,hnc,hcm,(fun e=>by cases e),hw,.inr ⟨g,0,rfl,fun j hj=>?_⟩⟩
  have:=World.ownsRow.cells h (g:=g) (by rw[hv];rfl) j _ (Zbi l j hj)
  rw[Addr.add_lit] at this
  exact this
theorem Zax.mono {w:World} {B B':Nat} {v:Value} {l:List Int} (h:Zax w B v l) (hB:B'<=B):Zax w B' v l:=by
 obtain⟨h1,h2⟩:=h
 refine⟨h1,?_⟩
 rcases h2 with h2 | ⟨g,cap,cur,hv,hb,r⟩
 ·exact .inl h2
 ·exact .inr ⟨g,cap,cur,hv,by omega,r⟩
theorem Zax.below {w w':World} {B B':Nat} {v:Value} {l:List Int} (h:Zax w B v l) (hb:Below B' w w') (hB:w.heap.size<=B'):Zax w' B v l:=by
 obtain⟨h1,h2⟩:=h
 refine⟨h1,?_⟩
 rcases h2 with h2 | ⟨g,cap,cur,hv,hbg,hg,r⟩
 ·exact .inl h2
 ·have hlt:g<w.heap.size:=(Array.getElem?_eq_some_iff.1 hg).1
  exact .inr ⟨g,cap,cur,hv,hbg,by rw[hb.block g (by omega)];exact hg,r⟩
theorem ZlH:(Tryz.prog.info? 3).map (fun i=>(i.zero,i.size,i.bytes))=some (some (.int .i64 0),1,8):=by kernel_rfl
theorem Zkr (w:World) (ty:TypeId) (B:Nat) (v:Value) (l:List Int) (h:Zax w B v l) (n:Int) (hlim:l.length<=1000000) (hbase:B<=w.heap.size):
 ∃ v' w',(Builtin.append_ #[23,23] ty #[v,.slice (some ⟨w.heap.size,0,none⟩) 1 1]).run Tryz.prog (w.alloc (.cells #[.int .i64 n] 3))=.ok v' w'∧Zax w' B v' (l++[n])∧Below B w w':=by
 obtain⟨i0,hi,hz0,hz1,hz2⟩:=info_parts ZlH
 obtain⟨v',w',hrun,ho,hg,_⟩:=run_append_own (P:=Tryz.prog) (w.alloc (.cells #[.int .i64 n] 3)) B 23 ty 3 i0 (.int .i64 0) 1 8 Tryz.underlying23 hi hz0 hz1 hz2 rfl (by decide) v l.length (Zak l) (World.ownsRow.alloc h _)
  ⟨w.heap.size,0,none⟩ 1 1 [.int .i64 n] rfl (fun j u hj=>by
   match j,hj with
   | 0,hj=>simp at hj;subst hj;simp[Addr.add]) (fun u hu=>by simp at hu;subst hu;rfl) (by unfold maxLen;omega) (by omega) (by simp;omega)
 refine⟨v',w',hrun,?_,?_⟩
 ·unfold Zax
  have e1:(l++[n]).length=l.length+1:=by simp
  have e2:Zak (l++[n])=Zak l++[.int .i64 n]:=by simp[Zak]
  rw[e1,e2]
  exact ho
 ·exact((Below.refl _ _).alloc hbase _).grown hg (by simp;omega) (fun k hk=>(World.ownsRow.lt h k hk).1)
theorem ZgZ (w:World) {ops:Array Oper} {rest:List Oper} {o:Oper} {a:Act} {Q:Exit->Act->World->Prop} (hgd:o.guard=none) (s x:Operand)
 (ho:o.op=.call { callee:=.builtin .append,args:=#[s,x],argTypes:=#[23,23] })
 (B:Nat) (v:Value) (l:List Int) (hs:a.eval s=v) (hown:Zax w B v l) (n:Int) (hx:a.eval x=.slice (some ⟨w.heap.size,0,none⟩) 1 1)
 (hlim:l.length<=1000000) (hbase:B<=w.heap.size)
 (h:∀ v' w',Zax w' B v' (l++[n])->Below B w w'->wpList Tryz.prog ops Q rest (a.put o.dst v') w'):wpList Tryz.prog ops Q (o::rest) a (w.alloc (.cells #[.int .i64 n] 3)):=
 wpList_plain hgd fun _ hK=>by
  obtain⟨v',w',hrun,h2,h3⟩:=Zkr w o.type B v l hown n hlim hbase
  unfold Oper.wp execOp
  simp only [ho,resolve,invoke,builtin,Sem.run_bind,Sem.run_pure,Result.andThen_ok,List.map_toArray,List.map_cons,List.map_nil,hs,hx,hrun]
  exact hK _ _ (h v' w' h2 h3)
def ZdY (n:Int):Int:=if n < -1099511627776 then -1099511627776 else if 1099511627776<n then 1099511627776 else n
theorem Zep (n:Int):-1099511627776<=ZdY n∧ZdY n<=1099511627776:=by
 unfold ZdY
 split
 ·omega
 ·split <;> omega
structure St where
 kind:Int
 L:List Int
 shut:Bool
 eng:Int
structure Opn where
 code:Int
 a:Int
 b:Int
def ZiE (least:Int) (l:List Int) (k:Nat):Prop:=
 0<=l.getD k 0∧l.getD k 0<=255∧(0<k->l.getD (k-2) 0<l.getD k 0)∧least<=l.getD (k+1) 0∧l.getD (k+1) 0<=1099511627776
instance (least:Int) (l:List Int) (k:Nat):Decidable (ZiE least l k):=by unfold ZiE;infer_instance
def ZcC (least:Int) (l:List Int):Prop:=l.length % 2=0∧l.length<=128∧∀ k,k<l.length->k % 2=0->ZiE least l k
instance (least:Int) (l:List Int):Decidable (ZcC least l):=by unfold ZcC;infer_instance
def Zcj (l:List Int):Prop:=∀ j,j<l.length->-1099511627776<=l.getD j 0∧l.getD j 0<=1099511627776
instance (l:List Int):Decidable (Zcj l):=by unfold Zcj;infer_instance
def Zbq (kind:Int) (l:List Int):Prop:=
 if kind=4 then ZcC (-1099511627776) l else if kind=5 then ZcC 0 l else l.length<=64∧(kind<=1->l.length=1)∧Zcj l
instance (kind:Int) (l:List Int):Decidable (Zbq kind l):=by unfold Zbq;infer_instance
def Zcw (s:St):Prop:=0<=s.eng∧s.eng<=2∧(s.shut=false->s.eng=0)∧0<=s.kind∧s.kind<6∧Zbq s.kind s.L
instance (s:St):Decidable (Zcw s):=by unfold Zcw;infer_instance
def ZcS (o:Opn):Prop:=0<=o.code∧o.code<=10∧-1099511627776<=o.a∧o.a<=1099511627776∧-1099511627776<=o.b∧o.b<=1099511627776
instance (o:Opn):Decidable (ZcS o):=by unfold ZcS;infer_instance
def Zcx (kind:Int):St:=if kind<0∨6<=kind then⟨0,[],false,0⟩ else⟨kind,if kind<=1 then[0] else[],false,0⟩
def ZcK (key:Int):Nat->List Int->Int
 | k,a::_::r=>if a=key then(k:Int) else ZcK key (k+2) r
 | _,_=>-1
def ZaJ (key n:Int):Bool->List Int->List Int
 | done,a::b::r=>(if done=false∧key<=a then[key,n] else[])++((if a≠key then[a,b] else[])++ZaJ key n (done || decide (key<=a)) r)
 | done,_=>if done then[] else[key,n]
def ZaU (key:Int):List Int->List Int
 | a::b::r=>(if a≠key then[a,b] else[])++ZaU key r
 | _=>[]
theorem Ztn (l:List Int) (k:Nat) (h:k+1<l.length):l.drop k=l.getD k 0::l.getD (k+1) 0::l.drop (k+2):=by
 rw[List.drop_eq_getElem_cons (show k<l.length by omega),List.drop_eq_getElem_cons h]
 simp[List.getD,h,show k<l.length by omega]
theorem ZhM (key n:Int):∀ (l:List Int) (done:Bool),(ZaJ key n done l).length<=l.length+2
 | [],done=>by unfold ZaJ;split <;> simp
 | [a],done=>by unfold ZaJ;split <;> simp
 | a::b::r,done=>by
  have ih:=ZhM key n r (done || decide (key<=a))
  unfold ZaJ
  have h1:(if done=false∧key<=a then[key,n] else([]:List Int)).length+(ZaJ key n (done || decide (key<=a)) r).length<=r.length+2:=by
   by_cases h:done=false∧key<=a
   ·rw[if_pos h]
    have e:(done || decide (key<=a))=true:=by simp[h.2]
    rw[e]
    have h2:=withF_true key n r
    simp
    omega
   ·rw[if_neg h]
    simpa using ih
  have h2:(if a≠key then[a,b] else([]:List Int)).length<=2:=by split <;> simp
  simp only [List.length_append,List.length_cons]
  omega
where
 withF_true (key n:Int):∀ (l:List Int),(ZaJ key n true l).length<=l.length
 | []=>by simp[ZaJ]
 | [a]=>by simp[ZaJ]
 | a::b::r=>by
  have ih:=withF_true key n r
  unfold ZaJ
  simp only [Bool.true_or]
  split <;> split <;> simp_all <;> omega
def Zgg (s:St) (o:Opn):St × Int:=
 if s.kind=0∧o.code=1 then(⟨s.kind,[ZdY (s.L.getD 0 0+ZdY o.a)],s.shut,s.eng⟩,s.L.getD 0 0) else
 if s.kind=1∧o.code=2 then(⟨s.kind,[ZdY o.a],s.shut,s.eng⟩,s.L.getD 0 0) else
 if o.code=7 then(s,s.L.getD 0 0) else(s,0)
def ZbX (s:St) (o:Opn):St × Int:=
 if o.code=3 then(if s.L.length=64 then(s,-1) else(⟨s.kind,s.L++[ZdY o.a],s.shut,s.eng⟩,(s.L.length:Int)+1)) else
 if o.code=4 then(if s.L.length=0 then(s,-1) else if s.kind=2 then(⟨s.kind,s.L.drop 1,s.shut,s.eng⟩,s.L.getD 0 0) else(⟨s.kind,s.L.take (s.L.length-1),s.shut,s.eng⟩,s.L.getD (s.L.length-1) 0)) else
 if o.code=7 then(s,(s.L.length:Int)) else(s,0)
def Zre (key:Int) (l:List Int):Int:=if 0<=ZcK key 0 l then l.getD ((ZcK key 0 l).toNat+1) 0 else -1
def ZeJ (s:St) (o:Opn):St × Int:=
 if o.code≠7∧o.code≠6∧o.code≠5 then(s,0) else
 if o.a<0∨255<o.a then(s,-1) else
 if o.code=6 then(⟨s.kind,ZaU o.a s.L,s.shut,s.eng⟩,Zre o.a s.L) else
 if o.code=5 then(if ZcK o.a 0 s.L<0∧s.L.length=128 then(s,-2) else(⟨s.kind,ZaJ o.a (ZdY o.b) false s.L,s.shut,s.eng⟩,Zre o.a s.L)) else
 (s,Zre o.a s.L)
def Zcy (key:Int) (l:List Int):Int:=if 0<=ZcK key 0 l then l.getD ((ZcK key 0 l).toNat+1) 0 else 0
def ZdH (s:St) (o:Opn):St × Int:=
 if o.a<0∨65535<o.a∨o.b<0 then(s,0) else
 if ZcK (o.a / 256) 0 s.L<0∨Zcy (o.a / 256) s.L<o.b then(s,0) else
 if o.a / 256=o.a % 256 then(s,1) else
 if(ZcK (o.a % 256) 0 s.L<0∧s.L.length=128)∨1099511627776<Zcy (o.a % 256) s.L+o.b then(s,0) else
 (⟨s.kind,ZaJ (o.a % 256) (Zcy (o.a % 256) s.L+o.b) false (ZaJ (o.a / 256) (Zcy (o.a / 256) s.L-o.b) false s.L),s.shut,s.eng⟩,1)
def ZaS (s:St) (o:Opn):St × Int:=
 if o.code=9 then ZdH s o else
 if o.code≠7∧o.code≠8 then(s,0) else
 if o.a<0∨255<o.a then(s,-1) else
 if o.code=7 then(s,Zre o.a s.L) else
 if o.b<0 then(s,-1) else
 if ZcK o.a 0 s.L<0∧s.L.length=128 then(s,-2) else
 (⟨s.kind,ZaJ o.a (ZdY (Zcy o.a s.L+ZdY o.b)) false s.L,s.shut,s.eng⟩,ZdY (Zcy o.a s.L+ZdY o.b))
def ZeQ (s:St) (o:Opn):St × Int:=
 if ¬ Zcw s then(s,0) else
 if s.shut=true then(s,-1125899906842624) else
 if o.code=10 then(⟨s.kind,s.L,true,if 0<=o.a∧o.a<=2 then o.a else s.eng⟩,0) else
 if s.kind<=1 then Zgg s o else if s.kind<=3 then ZbX s o else if s.kind=4 then ZeJ s o else ZaS s o
def Zaq (least:Int):Int->List Int->Prop
 | lo,a::b::r=>lo<a∧a<=255∧least<=b∧b<=1099511627776∧Zaq least a r
 | _,[]=>True
 | _,[_]=>False
def Zgm (least lo:Int) (l:List Int) (k:Nat):Prop:=
 (if k=0 then lo else l.getD (k-2) 0)<l.getD k 0∧l.getD k 0<=255∧least<=l.getD (k+1) 0∧l.getD (k+1) 0<=1099511627776
theorem Zgn (least lo a b:Int) (r:List Int) (k:Nat) (hk:k % 2=0):Zgm least lo (a::b::r) (k+2)↔Zgm least a r k:=by
 unfold Zgm
 rw[if_neg (by omega)]
 by_cases h0:k=0
 ·subst h0
  rw[if_pos rfl]
  exact Iff.rfl
 ·rw[if_neg h0]
  obtain⟨j,rfl⟩:∃ j,k=j+2:=⟨k-2,by omega⟩
  exact Iff.rfl
theorem Zfl (least:Int):∀ (l:List Int) (lo:Int),Zaq least lo l↔l.length % 2=0∧∀ k,k<l.length->k % 2=0->Zgm least lo l k
 | [],lo=>by simp[Zaq]
 | [a],lo=>by simp[Zaq]
 | a::b::r,lo=>by
  have ih:=Zfl least r a
  unfold Zaq
  rw[ih]
  constructor
  ·rintro⟨h1,h2,h3,h4,h5,h6⟩
   refine⟨by simp;omega,fun k hk hk2=>?_⟩
   by_cases h0:k=0
   ·subst h0
    exact⟨by rw[if_pos rfl];exact h1,h2,h3,h4⟩
   ·obtain⟨j,rfl⟩:∃ j,k=j+2:=⟨k-2,by omega⟩
    rw[Zgn least lo a b r j (by omega)]
    exact h6 j (by simp at hk;omega) (by omega)
  ·rintro⟨h1,h2⟩
   have h0:=h2 0 (by simp) rfl
   unfold Zgm at h0
   rw[if_pos rfl] at h0
   refine⟨h0.1,h0.2.1,h0.2.2.1,h0.2.2.2,by simp at h1;omega,fun k hk hk2=>?_⟩
   rw[<-Zgn least lo a b r k hk2]
   exact h2 (k+2) (by simp;omega) (by omega)
theorem ZiF (least:Int):∀ (l:List Int) (lo:Int) (k:Nat),Zaq least lo l->k<l.length->k % 2=0->lo<l.getD k 0
 | [],_,_,_,hk,_=>by simp at hk
 | [a],_,_,h,_,_=>by simp[Zaq] at h
 | a::b::r,lo,k,h,hk,hk2=>by
  unfold Zaq at h
  by_cases h0:k=0
  ·subst h0
   exact h.1
  ·obtain⟨j,rfl⟩:∃ j,k=j+2:=⟨k-2,by omega⟩
   have:=ZiF least r a j h.2.2.2.2 (by simp at hk;omega) (by omega)
   have e:(a::b::r).getD (j+2) 0=r.getD j 0:=rfl
   rw[e]
   have:=h.1
   omega
theorem ZiG (least:Int) (l:List Int):ZcC least l↔l.length<=128∧Zaq least (-1) l:=by
 constructor
 ·rintro⟨h1,h2,h3⟩
  refine⟨h2,(Zfl least l (-1)).2 ⟨h1,fun k hk hk2=>?_⟩⟩
  obtain⟨g1,g2,g3,g4,g5⟩:=h3 k hk hk2
  refine⟨?_,g2,g4,g5⟩
  split
  ·omega
  ·exact g3 (by omega)
 ·rintro⟨h1,h2⟩
  have h3:=(Zfl least l (-1)).1 h2
  refine⟨h3.1,h1,fun k hk hk2=>?_⟩
  obtain⟨g1,g2,g3,g4⟩:=h3.2 k hk hk2
  have g5:=ZiF least l (-1) k h2 hk hk2
  refine⟨by omega,g2,fun h=>?_,g3,g4⟩
  rwa [if_neg (by omega)] at g1
theorem Zee {least:Int} {l:List Int} {lo:Int} (h:Zaq least lo l):l.length % 2=0:=((Zfl least l lo).1 h).1
def ZbU (key:Int):List Int->Option Int
 | a::b::r=>if a=key then some b else ZbU key r
 | _=>none
theorem ZbZ (key a b:Int) (r:List Int):ZbU key (a::b::r)=if a=key then some b else ZbU key r:=rfl
theorem Zgo (key:Int):∀ (l:List Int) (k:Nat),(ZcK key k l=-1∧ZbU key l=none)∨(∃ j,ZcK key k l=((k+j:Nat):Int)∧j+1<l.length∧ZbU key l=some (l.getD (j+1) 0)∧l.getD j 0=key)
 | [],_=>.inl ⟨rfl,rfl⟩
 | [_],_=>.inl ⟨rfl,rfl⟩
 | a::b::r,k=>by
  by_cases h:a=key
  ·right
   refine⟨0,by unfold ZcK;rw[if_pos h];rfl,by simp,by unfold ZbU;rw[if_pos h];rfl,h⟩
  ·rcases Zgo key r (k+2) with ⟨h1,h2⟩ | ⟨j,h1,h2,h3,h4⟩
   ·left
    exact⟨by unfold ZcK;rw[if_neg h];exact h1,by unfold ZbU;rw[if_neg h];exact h2⟩
   ·right
    refine⟨j+2,?_,by simp;omega,?_,h4⟩
    ·unfold ZcK
     rw[if_neg h,h1]
     congr 1
     omega
    ·unfold ZbU
     rw[if_neg h,h3]
     rfl
theorem Zgp (key:Int) (l:List Int):ZcK key 0 l<0↔ZbU key l=none:=by
 rcases Zgo key l 0 with ⟨h1,h2⟩ | ⟨j,h1,h2,h3,h4⟩
 ·rw[h1,h2]
  simp
 ·rw[h1,h3]
  simp
theorem ZoJ (key:Int) (l:List Int):Zre key l=(ZbU key l).getD (-1):=by
 unfold Zre
 rcases Zgo key l 0 with ⟨h1,h2⟩ | ⟨j,h1,h2,h3,h4⟩
 ·rw[h1,h2,if_neg (by omega)]
  rfl
 ·rw[h1,h3,if_pos (by omega)]
  simp
theorem ZiH (key:Int) (l:List Int):Zcy key l=(ZbU key l).getD 0:=by
 unfold Zcy
 rcases Zgo key l 0 with ⟨h1,h2⟩ | ⟨j,h1,h2,h3,h4⟩
 ·rw[h1,h2,if_neg (by omega)]
  rfl
 ·rw[h1,h3,if_pos (by omega)]
  simp
theorem Zdn {least:Int} {key:Int}:∀ {l:List Int} {lo:Int},Zaq least lo l->key<=lo->ZbU key l=none
 | [],_,_,_=>rfl
 | [_],_,h,_=>by simp[Zaq] at h
 | a::b::r,lo,h,hk=>by
  unfold Zaq at h
  unfold ZbU
  rw[if_neg (by omega)]
  exact Zdn h.2.2.2.2 (by omega)
theorem ZlI {least:Int} {key v:Int}:∀ {l:List Int} {lo:Int},Zaq least lo l->ZbU key l=some v->lo<key∧key<=255∧least<=v∧v<=1099511627776
 | [],_,_,h=>by simp[ZbU] at h
 | [_],_,h,_=>by simp[Zaq] at h
 | a::b::r,lo,h,hg=>by
  unfold Zaq at h
  unfold ZbU at hg
  by_cases e:a=key
  ·rw[if_pos e] at hg
   injection hg with hg
   omega
  ·rw[if_neg e] at hg
   have:=ZlI h.2.2.2.2 hg
   omega
theorem Zha (key n least:Int):∀ (l:List Int) (lo:Int),Zaq least lo l->key<=lo->ZaJ key n true l=l
 | [],_,_,_=>rfl
 | [_],_,h,_=>by simp[Zaq] at h
 | a::b::r,lo,h,hk=>by
  unfold Zaq at h
  unfold ZaJ
  rw[if_neg (by simp),if_pos (by omega),Bool.true_or,Zha key n least r a h.2.2.2.2 (by omega)]
  rfl
theorem Zdo (key n least a b:Int) (r:List Int) (lo:Int) (h:Zaq least lo (a::b::r)):
 ZaJ key n false (a::b::r)=if key<a then key::n::a::b::r else if key=a then key::n::r else a::b::ZaJ key n false r:=by
 unfold Zaq at h
 conv=>lhs;unfold ZaJ
 by_cases h1:key<a
 ·rw[if_pos h1,if_pos ⟨rfl,by omega⟩,if_pos (by omega),decide_eq_true (by omega),Bool.false_or,Zha key n least r a h.2.2.2.2 (by omega)]
  rfl
 ·rw[if_neg h1]
  by_cases h2:key=a
  ·rw[if_pos h2,if_pos ⟨rfl,by omega⟩,if_neg (by omega),decide_eq_true (by omega),Bool.false_or,Zha key n least r a h.2.2.2.2 (by omega)]
   rfl
  ·rw[if_neg h2,if_neg (by omega),if_pos (by omega),decide_eq_false (by omega),Bool.false_or]
   rfl
theorem Zdu (key n least:Int) (hn0:least<=n) (hn1:n<=1099511627776) (hk:key<=255):∀ (l:List Int) (lo:Int),Zaq least lo l->lo<key->Zaq least lo (ZaJ key n false l)
 | [],lo,_,hlo=>by
  simp[ZaJ,Zaq]
  omega
 | [_],_,h,_=>by simp[Zaq] at h
 | a::b::r,lo,h,hlo=>by
  have ih:=Zdu key n least hn0 hn1 hk r a
  rw[Zdo key n least a b r lo h]
  unfold Zaq at h
  split
  ·unfold Zaq
   refine⟨hlo,hk,hn0,hn1,?_⟩
   unfold Zaq
   exact⟨by assumption,h.2⟩
  ·split
   ·rename_i e
    subst e
    unfold Zaq
    exact⟨hlo,hk,hn0,hn1,h.2.2.2.2⟩
   ·unfold Zaq
    exact⟨h.1,h.2.1,h.2.2.1,h.2.2.2.1,ih h.2.2.2.2 (by omega)⟩
theorem Zgq (key n least:Int):∀ (l:List Int) (lo:Int),Zaq least lo l->(ZaJ key n false l).length=if ZbU key l=none then l.length+2 else l.length
 | [],lo,_=>by simp[ZaJ,ZbU]
 | [_],_,h=>by simp[Zaq] at h
 | a::b::r,lo,h=>by
  have ih:=Zgq key n least r a
  rw[Zdo key n least a b r lo h]
  unfold Zaq at h
  by_cases h1:key<a
  ·have e:ZbU key (a::b::r)=none:=by rw[ZbZ,if_neg (by omega),Zdn h.2.2.2.2 (by omega)]
   rw[if_pos h1,if_pos e]
   simp
  ·rw[if_neg h1]
   by_cases h2:key=a
   ·have e:ZbU key (a::b::r)≠none:=by rw[ZbZ,if_pos h2.symm];simp
    rw[if_pos h2,if_neg e]
    simp
   ·have e:ZbU key (a::b::r)=ZbU key r:=by rw[ZbZ,if_neg (by omega)]
    rw[if_neg h2,e]
    have:=ih h.2.2.2.2
    simp only [List.length_cons,this]
    by_cases e2:ZbU key r=none
    ·rw[if_pos e2,if_pos e2]
    ·rw[if_neg e2,if_neg e2]
theorem ZmP (key n least:Int):∀ (l:List Int) (lo:Int),Zaq least lo l->∀ k,ZbU k (ZaJ key n false l)=if k=key then some n else ZbU k l
 | [],lo,_,k=>by
  simp[ZaJ,ZbU,eq_comm]
 | [_],_,h,_=>by simp[Zaq] at h
 | a::b::r,lo,h,k=>by
  have ih:=ZmP key n least r a
  rw[Zdo key n least a b r lo h]
  unfold Zaq at h
  by_cases h1:key<a
  ·rw[if_pos h1]
   by_cases e:k=key
   ·subst e
    rw[if_pos rfl,ZbU,if_pos rfl]
   ·rw[if_neg e,ZbU,if_neg (by omega)]
  ·rw[if_neg h1]
   by_cases h2:key=a
   ·rw[if_pos h2]
    subst h2
    by_cases e:k=key
    ·subst e
     rw[if_pos rfl,ZbU,if_pos rfl]
    ·rw[if_neg e,ZbU,if_neg (by omega),ZbU,if_neg (by omega)]
   ·rw[if_neg h2]
    by_cases e:k=key
    ·subst e
     rw[if_pos rfl,ZbU,if_neg (by omega),ih h.2.2.2.2 k,if_pos rfl]
    ·rw[if_neg e,ZbU]
     conv=>rhs;rw[ZbU]
     rw[ih h.2.2.2.2 k,if_neg e]
theorem Zck (key a b:Int) (r:List Int):ZaU key (a::b::r)=if a≠key then a::b::ZaU key r else ZaU key r:=by
 rw[ZaU]
 split <;> rfl
theorem Zfy (key least:Int):∀ (l:List Int) (lo:Int),Zaq least lo l->Zaq least lo (ZaU key l)
 | [],_,_=>by simp[ZaU,Zaq]
 | [_],_,h=>by simp[Zaq] at h
 | a::b::r,lo,h=>by
  have ih:=Zfy key least r
  rw[Zck]
  unfold Zaq at h
  split
  ·unfold Zaq
   exact⟨h.1,h.2.1,h.2.2.1,h.2.2.2.1,ih a h.2.2.2.2⟩
  ·exact lower (ih a h.2.2.2.2) (by omega)
where
 lower {least lo lo':Int}:∀ {l:List Int},Zaq least lo l->lo'<=lo->Zaq least lo' l
 | [],_,_=>trivial
 | [_],h,_=>by simp[Zaq] at h
 | a::b::r,h,hl=>by
  unfold Zaq at h ⊢
  exact⟨by omega,h.2⟩
theorem ZeR (key:Int):∀ (l:List Int),(ZaU key l).length<=l.length
 | []=>by simp[ZaU]
 | [_]=>by simp[ZaU]
 | a::b::r=>by
  have ih:=ZeR key r
  rw[Zck]
  split <;> simp <;> omega
def Ztb:List Int->Int
 | _::b::r=>b+Ztb r
 | _=>0
theorem ZiI (key n least:Int):∀ (l:List Int) (lo:Int),Zaq least lo l->Ztb (ZaJ key n false l)=Ztb l+n-(ZbU key l).getD 0
 | [],lo,_=>by simp[ZaJ,ZbU,Ztb]
 | [_],_,h=>by simp[Zaq] at h
 | a::b::r,lo,h=>by
  have ih:=ZiI key n least r a
  rw[Zdo key n least a b r lo h]
  unfold Zaq at h
  by_cases h1:key<a
  ·rw[if_pos h1,ZbU,if_neg (by omega),Zdn h.2.2.2.2 (by omega)]
   simp[Ztb]
   omega
  ·rw[if_neg h1]
   by_cases h2:key=a
   ·rw[if_pos h2,ZbU,if_pos h2.symm]
    simp[Ztb]
    omega
   ·rw[if_neg h2,ZbU,if_neg (by omega),Ztb,ih h.2.2.2.2]
    simp[Ztb]
    omega
theorem ZbM (l:List Int):Zcj l↔∀ x ∈ l,-1099511627776<=x∧x<=1099511627776:=by
 unfold Zcj
 constructor
 ·intro h x hx
  obtain⟨j,hj,rfl⟩:=List.getElem_of_mem hx
  have:=h j hj
  simpa[List.getD,hj] using this
 ·intro h j hj
  have:=h l[j] (List.getElem_mem hj)
  simpa[List.getD,hj] using this
theorem ZaM {kind:Int} {l:List Int} (h4:kind≠4) (h5:kind≠5):Zbq kind l↔l.length<=64∧(kind<=1->l.length=1)∧Zcj l:=by
 unfold Zbq
 rw[if_neg h4,if_neg h5]
theorem ZdL (l:List Int):Zbq 4 l↔l.length<=128∧Zaq (-1099511627776) (-1) l:=by
 unfold Zbq
 rw[if_pos rfl]
 exact ZiG _ _
theorem Zda (l:List Int):Zbq 5 l↔l.length<=128∧Zaq 0 (-1) l:=by
 unfold Zbq
 rw[if_neg (by decide),if_pos rfl]
 exact ZiG _ _
theorem Zdb {s:St} (h:Zcw s) {L:List Int} (hL:Zbq s.kind L):Zcw ⟨s.kind,L,s.shut,s.eng⟩:=
 ⟨h.1,h.2.1,h.2.2.1,h.2.2.2.1,h.2.2.2.2.1,hL⟩
theorem Zxm {s:St} (h:Zcw s) (hk:s.kind<=1) (o:Opn):Zcw (Zgg s o).1:=by
 have h0:=h.2.2.2.1
 have one:∀ x:Int,Zbq s.kind [ZdY x]:=fun x=>(ZaM (by omega) (by omega)).2 ⟨by simp,fun _=>rfl,(ZbM _).2 (fun y hy=>by rw[List.mem_singleton.1 hy];exact Zep x)⟩
 unfold Zgg
 split
 ·exact Zdb h (one _)
 split
 ·exact Zdb h (one _)
 split
 ·exact h
 ·exact h
theorem Zvx {s:St} (h:Zcw s) (hk:¬ s.kind<=1) (hk3:s.kind<=3) (o:Opn):Zcw (ZbX s o).1:=by
 have hn:=(ZaM (by omega) (by omega)).1 h.2.2.2.2.2
 have hb:=(ZbM _).1 hn.2.2
 unfold ZbX
 split
 ·split
  ·exact h
  ·refine Zdb h ((ZaM (by omega) (by omega)).2 ⟨?_,fun e=>absurd e hk,(ZbM _).2 fun x hx=>?_⟩)
   ·have:=hn.1
    simp
    omega
   ·rcases List.mem_append.1 hx with hx | hx
    ·exact hb x hx
    ·rw[List.mem_singleton.1 hx];exact Zep _
 split
 ·split
  ·exact h
  split
  ·refine Zdb h ((ZaM (by omega) (by omega)).2 ⟨?_,fun e=>absurd e hk,(ZbM _).2 fun x hx=>hb x (List.mem_of_mem_drop hx)⟩)
   have:=hn.1
   simp
   omega
  ·refine Zdb h ((ZaM (by omega) (by omega)).2 ⟨?_,fun e=>absurd e hk,(ZbM _).2 fun x hx=>hb x (List.mem_of_mem_take hx)⟩)
   have:=hn.1
   simp
   omega
 split
 ·exact h
 ·exact h
theorem Zto {least:Int} {l:List Int} (hl:l.length<=128) (hp:Zaq least (-1) l) {key n:Int} (hk0:0<=key) (hk1:key<=255) (hn0:least<=n) (hn1:n<=1099511627776) (hf:¬ (ZcK key 0 l<0∧l.length=128)):
 (ZaJ key n false l).length<=128∧Zaq least (-1) (ZaJ key n false l):=by
 refine⟨?_,Zdu key n least hn0 hn1 hk1 l (-1) hp (by omega)⟩
 rw[Zgq key n least l (-1) hp]
 have he:=Zee hp
 rw[Zgp] at hf
 split
 ·rename_i h
  have:l.length≠128:=fun e=>hf ⟨h,e⟩
  omega
 ·exact hl
theorem Ztp {s:St} (h:Zcw s) (hk:s.kind=4) (o:Opn):Zcw (ZeJ s o).1:=by
 have hn:=h.2.2.2.2.2
 rw[hk,ZdL] at hn
 unfold ZeJ
 split
 ·exact h
 split
 ·exact h
 split
 ·refine Zdb h ?_
  rw[hk,ZdL]
  refine⟨?_,Zfy _ _ _ _ hn.2⟩
  have:=ZeR o.a s.L
  omega
 split
 ·split
  ·exact h
  ·refine Zdb h ?_
   rw[hk,ZdL]
   exact Zto hn.1 hn.2 (by omega) (by omega) (Zep _).1 (Zep _).2 (by assumption)
 ·exact h
theorem Zdp {l:List Int} (hp:Zaq 0 (-1) l) (key:Int):0<=Zcy key l∧Zcy key l<=1099511627776:=by
 rw[ZiH]
 cases h:ZbU key l with
 | none=>simp
 | some v=>
  have:=ZlI hp h
  exact⟨this.2.2.1,this.2.2.2⟩
theorem Zrf {l:List Int} (hl:l.length<=128) (hp:Zaq 0 (-1) l) (fr dst b:Int) (hf0:0<=fr) (hf1:fr<=255) (hd0:0<=dst) (hd1:dst<=255) (hb:0<=b) (h2:¬ (ZcK fr 0 l<0∨Zcy fr l<b)) (h3:¬ fr=dst)
 (h4:¬ ((ZcK dst 0 l<0∧l.length=128)∨1099511627776<Zcy dst l+b)):
 (ZaJ dst (Zcy dst l+b) false (ZaJ fr (Zcy fr l-b) false l)).length<=128∧
 Zaq 0 (-1) (ZaJ dst (Zcy dst l+b) false (ZaJ fr (Zcy fr l-b) false l))∧
 Ztb (ZaJ dst (Zcy dst l+b) false (ZaJ fr (Zcy fr l-b) false l))=Ztb l:=by
 have b1:=Zdp hp fr
 have b2:=Zdp hp dst
 have hg:ZbU fr l≠none:=fun e=>h2 (.inl ((Zgp _ _).2 e))
 have hle:¬ Zcy fr l<b:=fun e=>h2 (.inr e)
 have p1:Zaq 0 (-1) (ZaJ fr (Zcy fr l-b) false l):=Zdu _ _ _ (by omega) (by omega) hf1 _ _ hp (by omega)
 have l1:(ZaJ fr (Zcy fr l-b) false l).length=l.length:=by rw[Zgq _ _ _ _ _ hp,if_neg hg]
 have s1:=ZiI fr (Zcy fr l-b) 0 l (-1) hp
 have g1:ZbU dst (ZaJ fr (Zcy fr l-b) false l)=ZbU dst l:=by rw[ZmP _ _ _ _ _ hp,if_neg (fun e=>h3 e.symm)]
 have l2:=Zgq dst (Zcy dst l+b) 0 _ (-1) p1
 have s2:=ZiI dst (Zcy dst l+b) 0 _ (-1) p1
 rw[g1,l1] at l2
 rw[g1,s1,<-ZiH,<-ZiH] at s2
 refine⟨?_,Zdu _ _ _ (by omega) (by omega) hd1 _ _ p1 (by omega),by rw[s2];omega⟩
 rw[l2]
 have he:=Zee hp
 split
 ·rename_i h
  have:l.length≠128:=fun e=>h4 (.inl ⟨(Zgp _ _).2 h,e⟩)
  omega
 ·exact hl
theorem Zvy {s:St} (h:Zcw s) (hk:s.kind=5) (o:Opn):Zcw (ZdH s o).1∧Ztb (ZdH s o).1.L=Ztb s.L∧((ZdH s o).2≠1->(ZdH s o).1=s)∧(ZdH s o).1.kind=s.kind∧(ZdH s o).1.shut=s.shut:=by
 have hn:=h.2.2.2.2.2
 rw[hk,Zda] at hn
 unfold ZdH
 split
 ·exact⟨h,rfl,fun _=>rfl,rfl,rfl⟩
 split
 ·exact⟨h,rfl,fun _=>rfl,rfl,rfl⟩
 split
 ·exact⟨h,rfl,fun _=>rfl,rfl,rfl⟩
 split
 ·exact⟨h,rfl,fun _=>rfl,rfl,rfl⟩
 ·have:=Zrf hn.1 hn.2 (o.a / 256) (o.a % 256) o.b (by omega) (by omega) (by omega) (by omega) (by omega) (by assumption) (by assumption) (by assumption)
  refine⟨Zdb h ?_,this.2.2,fun e=>absurd rfl e,rfl,rfl⟩
  rw[hk,Zda]
  exact⟨this.1,this.2.1⟩
theorem Zrg {s:St} (h:Zcw s) (hk:s.kind=5) (o:Opn):Zcw (ZaS s o).1:=by
 have hn:=h.2.2.2.2.2
 rw[hk,Zda] at hn
 unfold ZaS
 split
 ·exact(Zvy h hk o).1
 split
 ·exact h
 split
 ·exact h
 split
 ·exact h
 split
 ·exact h
 split
 ·exact h
 ·refine Zdb h ?_
  rw[hk,Zda]
  have b1:=Zdp hn.2 o.a
  have b2:=Zep o.b
  have b3:0<=ZdY o.b:=by
   unfold ZdY
   split
   ·omega
   ·split <;> omega
  have b4:0<=ZdY (Zcy o.a s.L+ZdY o.b):=by
   unfold ZdY
   split
   ·have:=b3;unfold ZdY at this;omega
   ·split
    ·omega
    ·have:=b3;unfold ZdY at this;omega
  exact Zto hn.1 hn.2 (by omega) (by omega) b4 (Zep _).2 (by assumption)
theorem ZlJ (s:St) (o:Opn):(Zgg s o).1.kind=s.kind∧(Zgg s o).1.shut=s.shut∧(Zgg s o).1.eng=s.eng:=by
 unfold Zgg
 repeat' split
 all_goals exact⟨rfl,rfl,rfl⟩
theorem ZiJ (s:St) (o:Opn):(ZbX s o).1.kind=s.kind∧(ZbX s o).1.shut=s.shut∧(ZbX s o).1.eng=s.eng:=by
 unfold ZbX
 repeat' split
 all_goals exact⟨rfl,rfl,rfl⟩
theorem Zhb (s:St) (o:Opn):(ZeJ s o).1.kind=s.kind∧(ZeJ s o).1.shut=s.shut∧(ZeJ s o).1.eng=s.eng:=by
 unfold ZeJ
 repeat' split
 all_goals exact⟨rfl,rfl,rfl⟩
theorem ZfN (s:St) (o:Opn):(ZaS s o).1.kind=s.kind∧(ZaS s o).1.shut=s.shut∧(ZaS s o).1.eng=s.eng:=by
 unfold ZaS ZdH
 repeat' split
 all_goals exact⟨rfl,rfl,rfl⟩
theorem ZiK {s:St} (h:Zcw s) (hs:s.shut=true) (o:Opn):ZeQ s o=(s,-1125899906842624):=by
 unfold ZeQ
 rw[if_neg (fun e=>e h),if_pos hs]
theorem ZiL {s:St} (h:Zcw s) (hs:s.shut=false) (o:Opn) (hc:o.code=10):ZeQ s o=(⟨s.kind,s.L,true,if 0<=o.a∧o.a<=2 then o.a else s.eng⟩,0):=by
 unfold ZeQ
 rw[if_neg (fun e=>e h),if_neg (by simp[hs]),if_pos hc]
theorem Zvz {s:St} (h:¬ Zcw s) (o:Opn):ZeQ s o=(s,0):=by
 unfold ZeQ
 rw[if_pos h]
theorem ZiM {s:St} (h:Zcw s) (hs:s.shut=false) (o:Opn) (hc:o.code≠10):ZeQ s o=if s.kind<=1 then Zgg s o else if s.kind<=3 then ZbX s o else if s.kind=4 then ZeJ s o else ZaS s o:=by
 unfold ZeQ
 rw[if_neg (fun e=>e h),if_neg (by simp[hs]),if_neg hc]
theorem Ztq (s:St) (o:Opn):(ZeQ s o).1.kind=s.kind:=by
 unfold ZeQ
 split
 ·rfl
 split
 ·rfl
 split
 ·rfl
 split
 ·exact(ZlJ s o).1
 split
 ·exact(ZiJ s o).1
 split
 ·exact(Zhb s o).1
 ·exact(ZfN s o).1
theorem Zrh {s:St} (h:Zcw s) (o:Opn):(ZeQ s o).1.shut=(s.shut || decide (o.code=10)):=by
 by_cases hs:s.shut=true
 ·rw[ZiK h hs,hs]
  rfl
 ·have hs':s.shut=false:=by simpa using hs
  by_cases hc:o.code=10
  ·rw[ZiL h hs' o hc,decide_eq_true hc]
   simp
  ·rw[ZiM h hs' o hc,decide_eq_false hc,hs']
   split
   ·rw[(ZlJ s o).2.1,hs'];rfl
   split
   ·rw[(ZiJ s o).2.1,hs'];rfl
   split
   ·rw[(Zhb s o).2.1,hs'];rfl
   ·rw[(ZfN s o).2.1,hs'];rfl
theorem ZvA {s:St} (h:Zcw s) (o:Opn):Zcw (ZeQ s o).1:=by
 by_cases hs:s.shut=true
 ·rw[ZiK h hs]
  exact h
 ·have hs':s.shut=false:=by simpa using hs
  by_cases hc:o.code=10
  ·rw[ZiL h hs' o hc]
   refine⟨?_,?_,(fun e=>by cases e),h.2.2.2.1,h.2.2.2.2.1,h.2.2.2.2.2⟩
   ·show 0<=(if 0<=o.a∧o.a<=2 then o.a else s.eng)
    have:=h.1
    split <;> omega
   ·show(if 0<=o.a∧o.a<=2 then o.a else s.eng)<=2
    have:=h.2.1
    split <;> omega
  ·rw[ZiM h hs' o hc]
   have h0:=h.2.2.2.1
   have h5:=h.2.2.2.2.1
   split
   ·exact Zxm h (by assumption) o
   split
   ·exact Zvx h (by assumption) (by assumption) o
   split
   ·exact Ztp h (by assumption) o
   ·exact Zrg h (by omega) o
theorem Zxn {k:IntKind} {a b:Int} (h:a=b):Ending.returned (.int k a)=.returned (.int k b):=by rw[h]
theorem ZbJ {a b:Bool} (h:a=b):Ending.returned (.bool a)=.returned (.bool b):=by rw[h]
def StV (w:World) (v:Value) (s:St):Prop:=∃ vl,v=.agg #[.int .i64 s.kind,vl,.bool s.shut,.int .i64 s.eng]∧RdI w vl s.L∧I64 s.kind∧I64 s.eng
def opV (o:Opn):Value:=.agg #[.int .i64 o.code,.int .i64 o.a,.int .i64 o.b]
def Zxo (o:Opn):Prop:=I64 o.code∧I64 o.a∧I64 o.b
def ZmQ (a b:St):Prop:=a.kind=b.kind∧a.shut=b.shut∧a.eng=b.eng∧a.L=b.L
instance (a b:St):Decidable (ZmQ a b):=by unfold ZmQ;infer_instance
def Zhc (w:World) (vl:Value) (L:List Int) (r:St × Int) (e:Ending) (w':World):Prop:=
 ∃ vl',e=.returned (.tuple #[.agg #[.int .i64 r.1.kind,vl',.bool r.1.shut,.int .i64 r.1.eng],.int .i64 r.2])∧RdI w' vl' r.1.L∧I64 r.1.kind∧I64 r.1.eng∧((vl'=vl∧r.1.L=L)∨∀ b,vl'.ownBlock=some b->w.heap.size<=b)∧Below w.heap.size w w'
def lval:Value->Value
 | .agg ⟨[_,x,_,_]⟩=>x
 | v=>v
theorem ZqC (a x c d:Value):lval (.agg #[a,x,c,d])=x:=rfl
theorem ZoK {g off n c b:Nat} (h:(Value.slice (some ⟨g,off,none⟩) n c).ownBlock=some b):b=g:=by
 injection h with h
 exact h.symm
theorem Zhc.fresh {w w':World} {vl vl':Value} {L L':List Int} {kind g:Int} {shut:Bool} (hr:RdI w' vl' L') (hki:I64 kind) (hti:I64 g) (n:Int) (hf:∀ b,vl'.ownBlock=some b->w.heap.size<=b) (hb:Below w.heap.size w w'):
 Zhc w vl L (⟨kind,L',shut,g⟩,n) (.returned (.tuple #[.agg #[.int .i64 kind,vl',.bool shut,.int .i64 g],.int .i64 n])) w':=
 ⟨_,rfl,hr,hki,hti,.inr hf,hb⟩
theorem Zxp (n:Int):I64 (ZdY n):=by
 have:=Zep n
 unfold I64
 omega
theorem RdI.one (w:World) (x:Int) (h:I64 x):RdI (w.alloc (.cells #[.int .i64 x] 3)) (.slice (some ⟨w.heap.size,0,none⟩) 1 1) [x]:=by
 refine⟨some ⟨w.heap.size,0,none⟩,1,rfl,Nat.le_refl _,by decide,(fun e=>by cases e),?_,.inr ⟨w.heap.size,0,rfl,fun j hj=>?_⟩⟩
 ·intro n hn
  simp at hn
  rw[hn]
  exact h
 ·have e:j=0:=by simpa using hj
  subst e
  rw[Nat.zero_add,cell_of_row _ w.heap.size 0 #[.int .i64 x] 3 (0,0) (heap_alloc_new w _)]
  rfl
theorem ZyW (w:World) (x y z:Obj):(((w.alloc x).alloc y).alloc z).heap.size=w.heap.size+1+1+1:=by simp
def Zdv (w:World) (B:Nat) (s o r:Array Value):Prop:=
 w.heap[B]?=some (.cells s 38 (0,0))∧w.heap[B+1]?=some (.cells o 52 (0,0))∧w.heap[B+1+1]?=some (.cells r 38 (0,0))
theorem Zdv.made (w:World) (s o r:Array Value):Zdv (((w.alloc (.cells s 38)).alloc (.cells o 52)).alloc (.cells r 38)) w.heap.size s o r:=by
 refine⟨?_,?_,?_⟩
 ·rw[Below.heap_alloc _ _ _ (by simp;omega),Below.heap_alloc _ _ _ (by simp)]
  exact heap_alloc_new w _
 ·rw[Below.heap_alloc _ _ _ (by simp)]
  have h:=heap_alloc_new (w.alloc (.cells s 38)) (.cells o 52)
  have e:(w.alloc (.cells s 38)).heap.size=w.heap.size+1:=by simp
  rwa [e] at h
 ·have h:=heap_alloc_new ((w.alloc (.cells s 38)).alloc (.cells o 52)) (.cells r 38)
  have e:((w.alloc (.cells s 38)).alloc (.cells o 52)).heap.size=w.heap.size+1+1:=by simp
  rwa [e] at h
theorem Zdv.below {w w':World} {B:Nat} {s o r:Array Value} {C:Nat} (h:Zdv w B s o r) (hb:Below C w w') (hC:B+3<=C):Zdv w' B s o r:=by
 obtain⟨h1,h2,h3⟩:=h
 exact⟨by rw[hb.block _ (by omega)];exact h1,by rw[hb.block _ (by omega)];exact h2,by rw[hb.block _ (by omega)];exact h3⟩
-- 38
theorem Zdv.s {w:World} {B:Nat} {s o r:Array Value} (h:Zdv w B s o r) (j:Nat):w.cell? ⟨B,j,none⟩=s[j]?∧w.frozen? ⟨B,j,none⟩=false:=
 ⟨cell_of_row w B j _ _ _ h.1,frozen_of_row w B j _ _ h.1⟩
-- 38
theorem Zdv.o {w:World} {B:Nat} {s o r:Array Value} (h:Zdv w B s o r) (j:Nat):w.cell? ⟨B+1,j,none⟩=o[j]?∧w.frozen? ⟨B+1,j,none⟩=false:=
 ⟨cell_of_row w (B+1) j _ _ _ h.2.1,frozen_of_row w (B+1) j _ _ h.2.1⟩
-- 38
theorem Zdv.r {w:World} {B:Nat} {s o r:Array Value} (h:Zdv w B s o r) (j:Nat):w.cell? ⟨B+1+1,j,none⟩=r[j]?∧w.frozen? ⟨B+1+1,j,none⟩=false:=
 ⟨cell_of_row w (B+1+1) j _ _ _ h.2.2,frozen_of_row w (B+1+1) j _ _ h.2.2⟩
-- 38
theorem Zax.shape {w:World} {B:Nat} {v:Value} {l:List Int} (h:Zax w B v l):∃ ao cap,v=.slice ao l.length cap:=by
 rcases h.2 with ⟨hv,hn⟩ | ⟨g,cap,cur,hv,_⟩
 ·exact⟨none,0,by rw[hv,hn]⟩
 ·exact⟨_,_,hv⟩
def ZqD (w:World) (B R:Nat) (x0 x1 x2 x3 x4:Value):World:=
 ((((w.setCell ⟨B,1,none⟩ x0).setCell ⟨R,0,none⟩ x1).setCell ⟨R,1,none⟩ x2).setCell ⟨R,2,none⟩ x3).setCell ⟨R,3,none⟩ x4
theorem Zax.five {w:World} {C:Nat} {v:Value} {l:List Int} (h:Zax w C v l) (B R:Nat) (hB:B<C) (hR:R<C) (x0 x1 x2 x3 x4:Value):Zax (ZqD w B R x0 x1 x2 x3 x4) C v l:=
 ownsRow_setCell_below (ownsRow_setCell_below (ownsRow_setCell_below (ownsRow_setCell_below (ownsRow_setCell_below h hB _) hR _) hR _) hR _) hR _
theorem Ztr {C:Nat} {w0 w:World} (h:Below C w0 w) (B R:Nat) (hB:C<=B) (hR:C<=R) (x0 x1 x2 x3 x4:Value):Below C w0 (ZqD w B R x0 x1 x2 x3 x4):=
 ((((h.setCell hB _).setCell hR _).setCell hR _).setCell hR _).setCell hR _
theorem Zcl {C:Nat} {w0 w:World} (h:Below C w0 w) (R:Nat) (hR:C<=R) (x1 x2 x3 x4:Value):Below C w0 ((((w.setCell ⟨R,0,none⟩ x1).setCell ⟨R,1,none⟩ x2).setCell ⟨R,2,none⟩ x3).setCell ⟨R,3,none⟩ x4):=
 (((h.setCell hR _).setCell hR _).setCell hR _).setCell hR _
theorem Zaj {n:Int} (h0:-2251799813685248<=n) (h1:n<=2251799813685248):I64 n:=⟨by omega,by omega⟩
structure But (R T:Nat) (w w':World):Prop where
 os:w'.os=w.os
 tape:w'.tape=w.tape
 output:w'.output=w.output
 size:w.heap.size<=w'.heap.size
 block:∀ k,k<w.heap.size->k≠R->k≠T->w'.heap[k]?=w.heap[k]?
theorem But.refl (R T:Nat) (w:World):But R T w w:=⟨rfl,rfl,rfl,Nat.le_refl _,fun _ _ _ _=>rfl⟩
theorem But.set {R T:Nat} {w w':World} (h:But R T w w') (b i:Nat) (hb:b=R∨b=T) (x:Value):But R T w (w'.setCell ⟨b,i,none⟩ x):=by
 have hb0:=(Below.refl 0 w').setCell (p:=⟨b,i,none⟩) (Nat.zero_le _) x
 refine⟨hb0.os.trans h.os,hb0.tape.trans h.tape,hb0.output.trans h.output,Nat.le_trans h.size hb0.size,fun k hk h1 h2=>?_⟩
 rw[Below.heap_setCell _ _ _ _ (by rcases hb with rfl | rfl <;> assumption)]
 exact h.block k hk h1 h2
theorem Zcm {N R T:Nat} {w wr w':World} (h:Below N w wr) (hb:But R T wr w') (hN:N<=wr.heap.size) (hR:N<=R) (hT:N<=T):Below N w w':=
 ⟨hb.os.trans h.os,hb.tape.trans h.tape,hb.output.trans h.output,Nat.le_trans h.size hb.size,fun k hk=>(hb.block k (by omega) (by omega) (by omega)).trans (h.block k hk)⟩
theorem But.four {R T:Nat} {w w':World} (h:But R T w w') (b:Nat) (hb:b=R∨b=T) (x1 x2 x3 x4:Value):But R T w ((((w'.setCell ⟨b,0,none⟩ x1).setCell ⟨b,1,none⟩ x2).setCell ⟨b,2,none⟩ x3).setCell ⟨b,3,none⟩ x4):=
 (((h.set b 0 hb x1).set b 1 hb x2).set b 2 hb x3).set b 3 hb x4
theorem RdI.block {w:World} {v:Value} {l:List Int} (h:RdI w v l):l=[]∨(l≠[]∧∃ b,v.ownBlock=some b∧b<w.heap.size):=by
 obtain⟨ao,cap,h1,h2,h3,hn,hi,h4⟩:=h
 rcases h4 with h4 | ⟨b,off,h5,h6⟩
 ·exact .inl h4
 ·by_cases hl:l=[]
  ·exact .inl hl
  ·right
   have h0:0<l.length:=List.length_pos_iff.2 hl
   exact⟨hl,b,by rw[h1,h5];rfl,World.block_lt_of_cell? w ⟨b,off+0,none⟩ (h6 0 h0)⟩
theorem RdI.but {w w':World} {v:Value} {l:List Int} (h:RdI w v l) {R T:Nat} (hb:But R T w w') (hn:l=[]∨∀ b,v.ownBlock=some b->b≠R∧b≠T):RdI w' v l:=by
 obtain⟨ao,cap,h1,h2,h3,hn0,hi,h4⟩:=h
 refine⟨ao,cap,h1,h2,h3,hn0,hi,?_⟩
 rcases h4 with h4 | ⟨b,off,h5,h6⟩
 ·exact .inl h4
 ·rcases hn with hn | hn
  ·exact .inl hn
  ·refine .inr ⟨b,off,h5,fun j hj=>?_⟩
   obtain⟨n1,n2⟩:=hn b (by rw[h1,h5];rfl)
   have hlt:=World.block_lt_of_cell? w ⟨b,off+j,none⟩ (h6 j hj)
   rw[<-h6 j hj]
   exact World.cell?_of_block (a:=⟨b,off+j,none⟩) (hb.block b hlt n1 n2)
theorem ZyX {kind g:Int} {l:List Int} {shut:Bool} (h:Zcw ⟨kind,l,shut,g⟩) (hk:kind<=1):l.length=1∧-1099511627776<=l.getD 0 0∧l.getD 0 0<=1099511627776:=by
 have hn:=(ZaM (kind:=kind) (l:=l) (by omega) (by omega)).1 h.2.2.2.2.2
 have h1:=hn.2.1 hk
 exact⟨h1,hn.2.2 0 (by show 0<l.length;omega)⟩
theorem ZyY {kind g:Int} {l:List Int} {shut:Bool} (h:Zcw ⟨kind,l,shut,g⟩) (hk:kind<=3):l.length<=64:=
 ((ZaM (kind:=kind) (l:=l) (by omega) (by omega)).1 h.2.2.2.2.2).1
theorem ZmR:∀ {l:List Int} {lo:Int},-1<=lo->Zaq 0 lo l->∀ x ∈ l,0<=x∧x<=1099511627776
 | [],_,_,_,x,hx=>by simp at hx
 | [_],_,_,h,_,_=>by simp[Zaq] at h
 | a::b::r,lo,hlo,h,x,hx=>by
  unfold Zaq at h
  have ih:=ZmR (l:=r) (lo:=a) (by omega) h.2.2.2.2 x
  simp at hx
  rcases hx with rfl | rfl | hx
  ·omega
  ·omega
  ·exact ih hx
theorem Zts {least:Int} {l:List Int} {lo:Int} (hl:-1099511627776<=least) (hp:Zaq least lo l) (key:Int):I64 (Zre key l):=by
 rw[ZoJ]
 cases h:ZbU key l with
 | none=>exact Zaj (by decide) (by decide)
 | some v=>
  have:=ZlI hp h
  show I64 v
  exact Zaj (by omega) (by omega)
theorem ZwX {l:List Int} (h:Zcj l) (j:Nat):I64 (l.getD j 0):=by
 by_cases hj:j<l.length
 ·have:=h j hj
  exact Zaj (by omega) (by omega)
 ·have e:l.getD j 0=0:=by simp[List.getD,hj]
  rw[e]
  exact Zaj (by decide) (by decide)
theorem Ztt (s:St) (o:Opn):I64 (ZeQ s o).2:=by
 have c0:I64 0:=Zaj (by decide) (by decide)
 have c1:I64 1:=Zaj (by decide) (by decide)
 have cm:I64 (-1):=Zaj (by decide) (by decide)
 have cn:I64 (-2):=Zaj (by decide) (by decide)
 by_cases hm:Zcw s
 ·by_cases hs:s.shut=true
  ·rw[ZiK hm hs]
   exact(Zaj (by decide) (by decide):I64 (-1125899906842624))
  ·have hs':s.shut=false:=by simpa using hs
   by_cases hc:o.code=10
   ·rw[ZiL hm hs' o hc]
    exact c0
   ·rw[ZiM hm hs' o hc]
    have h0:=hm.2.2.2.1
    have h6:=hm.2.2.2.2.1
    have hn:=hm.2.2.2.2.2
    split
    ·have hb:=((ZaM (by omega) (by omega)).1 hn).2.2
     unfold Zgg
     repeat' split
     all_goals first | exact ZwX hb 0 | exact c0
    split
    ·have hl:=(ZaM (by omega) (by omega)).1 hn
     have hb:=hl.2.2
     have h64:I64 ((s.L.length:Int)):=Zaj (by omega) (by have:=hl.1;omega)
     have h65:I64 ((s.L.length:Int)+1):=Zaj (by omega) (by have:=hl.1;omega)
     unfold ZbX
     repeat' split
     all_goals first | exact ZwX hb _ | exact c0 | exact cm | exact h64 | exact h65
    split
    ·rename_i hk
     rw[hk,ZdL] at hn
     have hh:=Zts (by decide) hn.2 o.a
     unfold ZeJ
     repeat' split
     all_goals first | exact c0 | exact cm | exact cn | exact hh
    ·have hk:s.kind=5:=by omega
     rw[hk,Zda] at hn
     have hh:=Zts (by decide) hn.2 o.a
     unfold ZaS ZdH
     repeat' split
     all_goals first | exact c0 | exact c1 | exact cm | exact cn | exact hh | exact Zxp _
 ·rw[Zvz hm]
  exact c0
theorem Zax.but {w w':World} {B:Nat} {v:Value} {l:List Int} (h:Zax w B v l) {R T:Nat} (hb:But R T w w') (hn:∀ b,v.ownBlock=some b->b≠R∧b≠T):Zax w' B v l:=by
 obtain⟨h1,h2⟩:=h
 refine⟨h1,?_⟩
 rcases h2 with h2 | ⟨g,cap,cur,hv,hbg,hg,r⟩
 ·exact .inl h2
 ·have hlt:g<w.heap.size:=(Array.getElem?_eq_some_iff.1 hg).1
  obtain⟨n1,n2⟩:=hn g (by rw[hv];rfl)
  exact .inr ⟨g,cap,cur,hv,hbg,by rw[hb.block g hlt n1 n2];exact hg,r⟩
def ZoL (w:World) (B:Nat) (s r:Array Value):Prop:=
 w.heap[B]?=some (.cells s 38 (0,0))∧w.heap[B+1]?=some (.cells r 38 (0,0))
theorem ZoL.made (w:World) (s r:Array Value):ZoL ((w.alloc (.cells s 38)).alloc (.cells r 38)) w.heap.size s r:=by
 refine⟨?_,?_⟩
 ·rw[Below.heap_alloc _ _ _ (by simp)]
  exact heap_alloc_new w _
 ·have h:=heap_alloc_new (w.alloc (.cells s 38)) (.cells r 38)
  have e:(w.alloc (.cells s 38)).heap.size=w.heap.size+1:=by simp
  rwa [e] at h
theorem ZoL.below {w w':World} {B:Nat} {s r:Array Value} {C:Nat} (h:ZoL w B s r) (hb:Below C w w') (hC:B+2<=C):ZoL w' B s r:=by
 obtain⟨h1,h2⟩:=h
 exact⟨by rw[hb.block _ (by omega)];exact h1,by rw[hb.block _ (by omega)];exact h2⟩
-- 38
theorem ZoL.s {w:World} {B:Nat} {s r:Array Value} (h:ZoL w B s r) (j:Nat):w.cell? ⟨B,j,none⟩=s[j]?∧w.frozen? ⟨B,j,none⟩=false:=
 ⟨cell_of_row w B j _ _ _ h.1,frozen_of_row w B j _ _ h.1⟩
-- 38
theorem ZoL.r {w:World} {B:Nat} {s r:Array Value} (h:ZoL w B s r) (j:Nat):w.cell? ⟨B+1,j,none⟩=r[j]?∧w.frozen? ⟨B+1,j,none⟩=false:=
 ⟨cell_of_row w (B+1) j _ _ _ h.2,frozen_of_row w (B+1) j _ _ h.2⟩
-- 38
theorem Zgr (w:World) {ops:Array Oper} {rest:List Oper} {o:Oper} {a:Act} {Q:Exit->Act->World->Prop} (hgd:o.guard=none) (s x:Operand)
 (ho:o.op=.call { callee:=.builtin .append,args:=#[s,x],argTypes:=#[23,23] })
 (B:Nat) (v:Value) (l:List Int) (hs:a.eval s=v) (hown:Zax w B v l) (n:Int) (N:Nat) (hN:N=w.heap.size) (hx:a.eval x=.slice (some ⟨N,0,none⟩) 1 1)
 (hlim:l.length<=1000000) (hbase:B<=w.heap.size)
 (h:∀ v' w',Zax w' B v' (l++[n])->w.grownBy w' v.ownBlock->(v'.ownBlock=v.ownBlock∨∃ g,v'.ownBlock=some g∧w.heap.size<=g)->wpList Tryz.prog ops Q rest (a.put o.dst v') w'):wpList Tryz.prog ops Q (o::rest) a (w.alloc (.cells #[.int .i64 n] 3)):=
 wpList_plain hgd fun _ hK=>by
  subst hN
  obtain⟨i0,hi,hz0,hz1,hz2⟩:=info_parts ZlH
  obtain⟨v',w',hrun,ho',hg,_,hat⟩:=run_append_own_at (P:=Tryz.prog) (w.alloc (.cells #[.int .i64 n] 3)) B 23 o.type 3 i0 (.int .i64 0) 1 8 Tryz.underlying23 hi hz0 hz1 hz2 rfl (by decide) v l.length (Zak l) (World.ownsRow.alloc hown _)
   ⟨w.heap.size,0,none⟩ 1 1 [.int .i64 n] rfl (fun j u hj=>by
    match j,hj with
    | 0,hj=>simp at hj;subst hj;simp[Addr.add]) (fun u hu=>by simp at hu;subst hu;rfl) (by unfold maxLen;omega) (by omega) (by simp;omega)
  have h2:Zax w' B v' (l++[n]):=by
   unfold Zax
   have e1:(l++[n]).length=l.length+1:=by simp
   have e2:Zak (l++[n])=Zak l++[.int .i64 n]:=by simp[Zak]
   rw[e1,e2]
   exact ho'
  have h3:w.grownBy w' v.ownBlock:=⟨hg.os,hg.tape,hg.output,by have:=hg.size;simp at this;omega,fun k hk hne=>by
   rw[hg.block k (by simp;omega) hne]
   exact Below.heap_alloc _ _ _ hk⟩
  have h4:v'.ownBlock=v.ownBlock∨∃ g,v'.ownBlock=some g∧w.heap.size<=g:=by
   rcases hat with hat | hat
   ·exact .inl hat
   ·exact .inr ⟨_,hat,by simp⟩
  unfold Oper.wp execOp
  simp only [ho,resolve,invoke,builtin,Sem.run_bind,Sem.run_pure,Result.andThen_ok,List.map_toArray,List.map_cons,List.map_nil,hs,hx,hrun]
  exact hK _ _ (h v' w' h2 h3 h4)
def Bx (w:World) (b:Nat) (cs:Array Value):Prop:=w.heap[b]?=some (.cells cs 38 (0,0))
def Bo (w:World) (b:Nat) (cs:Array Value):Prop:=w.heap[b]?=some (.cells cs 52 (0,0))
theorem Bx.lt {w:World} {b:Nat} {cs:Array Value} (h:Bx w b cs):b<w.heap.size:=(Array.getElem?_eq_some_iff.1 h).1
-- 38
theorem Bx.below {w w':World} {b B:Nat} {cs:Array Value} (h:Bx w b cs) (hb:Below B w w') (hB:w.heap.size<=B):Bx w' b cs:=(hb.block b (by have:=h.lt;omega)).trans h
-- 38
theorem Bx.cell {w:World} {b:Nat} {cs:Array Value} (h:Bx w b cs) (j:Nat):w.cell? ⟨b,j,none⟩=cs[j]?∧w.frozen? ⟨b,j,none⟩=false:=⟨cell_of_row w b j _ _ _ h,frozen_of_row w b j _ _ h⟩
-- 38
theorem Bo.lt {w:World} {b:Nat} {cs:Array Value} (h:Bo w b cs):b<w.heap.size:=(Array.getElem?_eq_some_iff.1 h).1
theorem Bo.below {w w':World} {b B:Nat} {cs:Array Value} (h:Bo w b cs) (hb:Below B w w') (hB:w.heap.size<=B):Bo w' b cs:=(hb.block b (by have:=h.lt;omega)).trans h
theorem Bo.cell {w:World} {b:Nat} {cs:Array Value} (h:Bo w b cs) (j:Nat):w.cell? ⟨b,j,none⟩=cs[j]?∧w.frozen? ⟨b,j,none⟩=false:=⟨cell_of_row w b j _ _ _ h,frozen_of_row w b j _ _ h⟩
theorem Zax.four {w:World} {C:Nat} {v:Value} {l:List Int} (h:Zax w C v l) (R:Nat) (hR:R<C) (x1 x2 x3 x4:Value):Zax ((((w.setCell ⟨R,0,none⟩ x1).setCell ⟨R,1,none⟩ x2).setCell ⟨R,2,none⟩ x3).setCell ⟨R,3,none⟩ x4) C v l:=
 ownsRow_setCell_below (ownsRow_setCell_below (ownsRow_setCell_below (ownsRow_setCell_below h hR _) hR _) hR _) hR _
theorem Zax.fresh {w:World} {B:Nat} {v:Value} {l:List Int} (h:Zax w B v l):∀ b,v.ownBlock=some b->B<=b:=fun b hb=>(World.ownsRow.lt h b hb).1
theorem ZeS {n:Int} (h:I64 n):Lib.zigzag n<18446744073709551616:=by
 obtain⟨h0,h1⟩:=h
 unfold Lib.zigzag
 split <;> omega
theorem ZoM {u:Nat} (h:u<18446744073709551616):I64 (zag u):=Ztm u h
theorem ZbQ (l:List UInt8):(Zab l).2<=l.length:=by
 rcases Zau l with h | h
 ·rw[h];exact Nat.zero_le _
 ·exact h.2.2.1
def ZaN (o:Opn):List UInt8:=Lib.uvarint o.code.toNat++(Lib.uvarint (Lib.zigzag o.a)++Lib.uvarint (Lib.zigzag o.b))
def Zay (l:List UInt8):Opn × Nat:=
 if(Zab l).2=0∨(Zaf (l.drop (Zab l).2)).2=0∨(Zaf (l.drop ((Zab l).2+(Zaf (l.drop (Zab l).2)).2))).2=0∨¬ ZcS ⟨((Zab l).1:Int),zag (Zaf (l.drop (Zab l).2)).1,zag (Zaf (l.drop ((Zab l).2+(Zaf (l.drop (Zab l).2)).2))).1⟩ then(⟨0,0,0⟩,0)
 else(⟨((Zab l).1:Int),zag (Zaf (l.drop (Zab l).2)).1,zag (Zaf (l.drop ((Zab l).2+(Zaf (l.drop (Zab l).2)).2))).1⟩,(Zab l).2+(Zaf (l.drop (Zab l).2)).2+(Zaf (l.drop ((Zab l).2+(Zaf (l.drop (Zab l).2)).2))).2)
theorem Zdc {o:Opn} (h:ZcS o):I64 o.a∧I64 o.b:=by
 obtain⟨_,_,h1,h2,h3,h4⟩:=h
 exact⟨Zaj (by omega) (by omega),Zaj (by omega) (by omega)⟩
theorem Zhd (u:Nat):(Lib.uvarint u).length≠0:=by have:=Lib.uvarint_pos u;omega
theorem ZmS (o:Opn) (h:ZcS o) (t:List UInt8):Zay (ZaN o++t)=(o,(ZaN o).length):=by
 obtain⟨ia,ib⟩:=Zdc h
 have hc0:=h.1
 have hc1:=h.2.1
 have d1:Zab (ZaN o++t)=(o.code.toNat,(Lib.uvarint o.code.toNat).length):=by
  unfold ZaN
  rw[List.append_assoc]
  exact ZaL _ _ (by omega)
 have e1:(ZaN o++t).drop (Lib.uvarint o.code.toNat).length=Lib.uvarint (Lib.zigzag o.a)++(Lib.uvarint (Lib.zigzag o.b)++t):=by
  unfold ZaN
  rw[List.append_assoc,List.drop_left,List.append_assoc]
 have d2:=Zbx (Lib.zigzag o.a) (Lib.uvarint (Lib.zigzag o.b)++t) (ZeS ia)
 have e2:(ZaN o++t).drop ((Lib.uvarint o.code.toNat).length+(Lib.uvarint (Lib.zigzag o.a)).length)=Lib.uvarint (Lib.zigzag o.b)++t:=by
  rw[<-List.drop_drop,e1,List.drop_left]
 have d3:=Zbx (Lib.zigzag o.b) t (ZeS ib)
 have eo:(⟨((o.code.toNat:Nat):Int),zag (Lib.zigzag o.a),zag (Lib.zigzag o.b)⟩:Opn)=o:=by
  rw[Zdm _ ia.1 ia.2,Zdm _ ib.1 ib.2]
  obtain⟨c,a,b⟩:=o
  simp only [Opn.mk.injEq,and_true]
  simp only at hc0
  omega
 unfold Zay
 simp only [d1,e1,d2,e2,d3]
 rw[if_neg,eo]
 ·simp only [Prod.mk.injEq,true_and]
  unfold ZaN
  simp only [List.length_append]
  omega
 ·rw[eo]
  rintro(h1 | h1 | h1 | h1)
  ·exact Zhd _ h1
  ·exact Zhd _ h1
  ·exact Zhd _ h1
  ·exact h1 h
theorem ZqE (l:List UInt8):(Zay l).2<=l.length:=by
 unfold Zay
 split
 ·exact Nat.zero_le _
 ·have h1:=ZbQ l
  have h2:=Zci (l.drop (Zab l).2)
  have h3:=Zci (l.drop ((Zab l).2+(Zaf (l.drop (Zab l).2)).2))
  simp only [List.length_drop] at h2 h3
  show(Zab l).2+_+_<=_
  omega
theorem Zri {l:List UInt8} (h:(Zay l).2=0):(Zay l).1=⟨0,0,0⟩:=by
 unfold Zay at h ⊢
 split
 ·rfl
 ·rename_i hn
  rw[if_neg hn] at h
  simp only at h
  omega
theorem Zhe (l:List UInt8) (i j:Nat):l.take (i+j)=l.take i++(l.drop i).take j:=by
 rw[List.take_add]
theorem ZiN {l:List UInt8} (h:(Zay l).2≠0):ZcS (Zay l).1∧ZaN (Zay l).1=l.take (Zay l).2:=by
 unfold Zay at h ⊢
 by_cases hn:(Zab l).2=0∨(Zaf (l.drop (Zab l).2)).2=0∨(Zaf (l.drop ((Zab l).2+(Zaf (l.drop (Zab l).2)).2))).2=0∨¬ ZcS ⟨((Zab l).1:Int),zag (Zaf (l.drop (Zab l).2)).1,zag (Zaf (l.drop ((Zab l).2+(Zaf (l.drop (Zab l).2)).2))).1⟩
 ·rw[if_pos hn] at h
  exact absurd rfl h
 ·rw[if_neg hn]
  have h1:(Zab l).2≠0:=fun e=>hn (.inl e)
  have h2:(Zaf (l.drop (Zab l).2)).2≠0:=fun e=>hn (.inr (.inl e))
  have h3:(Zaf (l.drop ((Zab l).2+(Zaf (l.drop (Zab l).2)).2))).2≠0:=fun e=>hn (.inr (.inr (.inl e)))
  have h4:ZcS ⟨((Zab l).1:Int),zag (Zaf (l.drop (Zab l).2)).1,zag (Zaf (l.drop ((Zab l).2+(Zaf (l.drop (Zab l).2)).2))).1⟩:=Classical.byContradiction fun e=>hn (.inr (.inr (.inr e)))
  refine⟨h4,?_⟩
  have c1:l.take (Zab l).2=Lib.uvarint (Zab l).1:=by
   rcases Zau l with e | e
   ·rw[e] at h1;exact absurd rfl h1
   ·exact e.2.2.2
  have c2:(l.drop (Zab l).2).take (Zaf (l.drop (Zab l).2)).2=Lib.uvarint (Zaf (l.drop (Zab l).2)).1:=by
   rcases Zby (l.drop (Zab l).2) with e | e
   ·rw[e] at h2;exact absurd rfl h2
   ·exact e.2.2.2
  have c3:(l.drop ((Zab l).2+(Zaf (l.drop (Zab l).2)).2)).take (Zaf (l.drop ((Zab l).2+(Zaf (l.drop (Zab l).2)).2))).2=Lib.uvarint (Zaf (l.drop ((Zab l).2+(Zaf (l.drop (Zab l).2)).2))).1:=by
   rcases Zby (l.drop ((Zab l).2+(Zaf (l.drop (Zab l).2)).2)) with e | e
   ·rw[e] at h3;exact absurd rfl h3
   ·exact e.2.2.2
  unfold ZaN
  simp only [Zed]
  rw[Zhe,Zhe,c1,c2,c3,List.append_assoc]
  rfl
def Zrj:List Int->List UInt8
 | []=>[]
 | x::r=>Lib.uvarint (Lib.zigzag x)++Zrj r
def ZvB (s:St):Nat:=if s.shut=true then s.eng.toNat+1 else 0
def ZyZ (s:St):List UInt8:=Lib.uvarint s.kind.toNat++(Lib.uvarint (ZvB s)++(Lib.uvarint s.L.length++Zrj s.L))
def Zdd:Nat->List UInt8->Option (List Int × Nat)
 | 0,_=>some ([],0)
 | n+1,l=>if(Zaf l).2=0 then none else(Zdd n (l.drop (Zaf l).2)).map fun x=>(zag (Zaf l).1::x.1,(Zaf l).2+x.2)
def mkS (kind sl:Nat) (xs:List Int):St:=⟨kind,xs,decide (0<sl),if 0<sl then(sl:Int)-1 else 0⟩
def ZeT:St:=⟨0,[],false,0⟩
def ZmT (kind sl many:Nat) (l:List UInt8):St × Int:=
 match Zdd many l with
 | none=>(ZeT,3)
 | some (xs,u)=>if u≠l.length then(ZeT,3) else if Zcw (mkS kind sl xs) then(mkS kind sl xs,0) else(ZeT,1)
def ZgW (l:List UInt8):St × Int:=
 if(Zab l).2=0∨(Zab (l.drop (Zab l).2)).2=0∨(Zab (l.drop ((Zab l).2+(Zab (l.drop (Zab l).2)).2))).2=0∨3<(Zab (l.drop (Zab l).2)).1∨128<(Zab (l.drop ((Zab l).2+(Zab (l.drop (Zab l).2)).2))).1 then(ZeT,3)
 else ZmT (Zab l).1 (Zab (l.drop (Zab l).2)).1 (Zab (l.drop ((Zab l).2+(Zab (l.drop (Zab l).2)).2))).1 (l.drop ((Zab l).2+(Zab (l.drop (Zab l).2)).2+(Zab (l.drop ((Zab l).2+(Zab (l.drop (Zab l).2)).2))).2))
theorem Zeq:∀ (n:Nat) (l:List UInt8) (xs:List Int) (u:Nat),Zdd n l=some (xs,u)->xs.length=n∧u<=l.length∧Zrj xs=l.take u∧∀ x ∈ xs,I64 x
 | 0,l,xs,u,h=>by
  simp only [Zdd,Option.some.injEq,Prod.mk.injEq] at h
  obtain⟨rfl,rfl⟩:=h
  exact⟨rfl,Nat.zero_le _,by simp[Zrj],fun x hx=>by simp at hx⟩
 | n+1,l,xs,u,h=>by
  rw[Zdd] at h
  by_cases h0:(Zaf l).2=0
  ·rw[if_pos h0] at h;cases h
  ·rw[if_neg h0] at h
   obtain⟨⟨ys,k⟩,hy,he⟩:=Option.map_eq_some_iff.1 h
   simp only [Prod.mk.injEq] at he
   obtain⟨rfl,rfl⟩:=he
   obtain⟨i1,i2,i3,i4⟩:=Zeq n _ ys k hy
   rcases Zby l with e | ⟨e1,e2,e3,e4⟩
   ·rw[e] at h0;exact absurd rfl h0
   ·simp only [List.length_drop] at i2
    refine⟨by simp[i1],by omega,?_,?_⟩
    ·rw[Zrj,Zed,i3,Zhe,e4]
    ·intro x hx
     rcases List.mem_cons.1 hx with rfl | hx
     ·exact ZoM e1
     ·exact i4 x hx
theorem Ztu {s:St} (h:Zcw s):s.kind.toNat<4611686018427387904∧s.L.length<=128∧∀ x ∈ s.L,I64 x:=by
 have h0:=h.2.2.2.1
 have h6:=h.2.2.2.2.1
 have hn:=h.2.2.2.2.2
 by_cases h4:s.kind=4
 ·rw[h4,ZdL] at hn
  refine⟨by omega,hn.1,fun x hx=>?_⟩
  have hb:∀ (l:List Int) (lo:Int),-1<=lo->Zaq (-1099511627776) lo l->∀ x ∈ l,I64 x:=by
   intro l
   match l with
   | []=>intro _ _ _ x hx;simp at hx
   | [_]=>intro _ _ h;simp[Zaq] at h
   | a::b::r=>exact pairsW a b r
  exact hb s.L (-1) (by decide) hn.2 x hx
 ·by_cases h5:s.kind=5
  ·rw[h5,Zda] at hn
   exact⟨by omega,hn.1,fun x hx=>by have:=ZmR (by decide) hn.2 x hx;exact Zaj (by omega) (by omega)⟩
  ·have hl:=(ZaM h4 h5).1 hn
   exact⟨by omega,by omega,fun x hx=>by have:=(ZbM _).1 hl.2.2 x hx;exact Zaj (by omega) (by omega)⟩
where
 pairsW (a b:Int) (r:List Int):∀ (lo:Int),-1<=lo->Zaq (-1099511627776) lo (a::b::r)->∀ x ∈ a::b::r,I64 x:=by
  intro lo hlo h x hx
  unfold Zaq at h
  simp at hx
  rcases hx with rfl | rfl | hx
  ·exact Zaj (by omega) (by omega)
  ·exact Zaj (by omega) (by omega)
  ·match r,hx,h with
   | a2::b2::r2,hx,h=>exact pairsW a2 b2 r2 a (by omega) h.2.2.2.2 x hx
   | [c],_,h=>simp[Zaq] at h
theorem Zrk (l:List UInt8):(ZgW l).2=0∨((ZgW l).1=ZeT∧((ZgW l).2=3∨(ZgW l).2=1)):=by
 unfold ZgW
 split
 ·exact .inr ⟨rfl,.inl rfl⟩
 ·unfold ZmT
  split
  ·exact .inr ⟨rfl,.inl rfl⟩
  ·split
   ·exact .inr ⟨rfl,.inl rfl⟩
   ·split
    ·exact .inl rfl
    ·exact .inr ⟨rfl,.inr rfl⟩
theorem Zrl {l:List UInt8} (h:(ZgW l).2=0):Zcw (ZgW l).1∧ZyZ (ZgW l).1=l:=by
 unfold ZgW at h ⊢
 by_cases hn:(Zab l).2=0∨(Zab (l.drop (Zab l).2)).2=0∨(Zab (l.drop ((Zab l).2+(Zab (l.drop (Zab l).2)).2))).2=0∨3<(Zab (l.drop (Zab l).2)).1∨128<(Zab (l.drop ((Zab l).2+(Zab (l.drop (Zab l).2)).2))).1
 ·rw[if_pos hn] at h
  cases h
 ·rw[if_neg hn] at h ⊢
  have h1:(Zab l).2≠0:=fun e=>hn (.inl e)
  have h2:(Zab (l.drop (Zab l).2)).2≠0:=fun e=>hn (.inr (.inl e))
  have h3:(Zab (l.drop ((Zab l).2+(Zab (l.drop (Zab l).2)).2))).2≠0:=fun e=>hn (.inr (.inr (.inl e)))
  have c1:l.take (Zab l).2=Lib.uvarint (Zab l).1:=by
   rcases Zau l with e | e
   ·rw[e] at h1;exact absurd rfl h1
   ·exact e.2.2.2
  have c2:(l.drop (Zab l).2).take (Zab (l.drop (Zab l).2)).2=Lib.uvarint (Zab (l.drop (Zab l).2)).1:=by
   rcases Zau (l.drop (Zab l).2) with e | e
   ·rw[e] at h2;exact absurd rfl h2
   ·exact e.2.2.2
  have c3:(l.drop ((Zab l).2+(Zab (l.drop (Zab l).2)).2)).take (Zab (l.drop ((Zab l).2+(Zab (l.drop (Zab l).2)).2))).2=Lib.uvarint (Zab (l.drop ((Zab l).2+(Zab (l.drop (Zab l).2)).2))).1:=by
   rcases Zau (l.drop ((Zab l).2+(Zab (l.drop (Zab l).2)).2)) with e | e
   ·rw[e] at h3;exact absurd rfl h3
   ·exact e.2.2.2
  generalize (Zab (l.drop ((Zab l).2+(Zab (l.drop (Zab l).2)).2))).2=k at *
  generalize (Zab (l.drop ((Zab l).2+(Zab (l.drop (Zab l).2)).2))).1=many at *
  generalize (Zab (l.drop (Zab l).2)).2=j at *
  generalize (Zab (l.drop (Zab l).2)).1=sl at *
  generalize (Zab l).2=i at *
  generalize (Zab l).1=kind at *
  unfold ZmT at h ⊢
  cases hr:Zdd many (l.drop (i+j+k)) with
  | none=>rw[hr] at h;cases h
  | some x=>
   obtain⟨xs,u⟩:=x
   rw[hr] at h
   simp only at h ⊢
   obtain⟨r1,r2,r3,r4⟩:=Zeq _ _ _ _ hr
   by_cases hu:u≠(l.drop (i+j+k)).length
   ·rw[if_pos hu] at h;cases h
   ·rw[if_neg hu] at h ⊢
    by_cases hm:Zcw (mkS kind sl xs)
    ·rw[if_pos hm]
     refine⟨hm,?_⟩
     have hu':u=(l.drop (i+j+k)).length:=Classical.byContradiction hu
     rw[hu',List.take_length] at r3
     have ek:(mkS kind sl xs).kind.toNat=kind:=by simp[mkS]
     have es:ZvB (mkS kind sl xs)=sl:=by
      unfold ZvB mkS
      by_cases h0:0<sl
      ·simp[h0];omega
      ·simp[h0];omega
     show Lib.uvarint (mkS kind sl xs).kind.toNat++(Lib.uvarint (ZvB (mkS kind sl xs))++(Lib.uvarint xs.length++Zrj xs))=l
     rw[ek,es,r1,r3,<-c1,<-c2,<-c3]
     have f1:l.drop (i+j)=(l.drop i).drop j:=by rw[List.drop_drop]
     have f2:l.drop (i+j+k)=((l.drop i).drop j).drop k:=by rw[List.drop_drop,List.drop_drop,Nat.add_assoc]
     rw[f1,f2,List.take_append_drop,List.take_append_drop,List.take_append_drop]
    ·rw[if_neg hm] at h;cases h
structure Rec where
 idx:Int
 proc:Int
 seq:Int
 op:Opn
 resp:Int
def Zai:Rec:=⟨0,0,0,⟨0,0,0⟩,0⟩
def ZaF (r:Rec):Prop:=ZcS r.op∧0<=r.idx∧r.idx<4611686018427387904∧0<=r.seq∧r.seq<4611686018427387904∧0<=r.proc∧r.proc<=64∧-1125899906842624<=r.resp∧r.resp<=1125899906842624
instance (r:Rec):Decidable (ZaF r):=by unfold ZaF;infer_instance
def Zza (v f:Nat):Prop:=f=1∨f=2∨f=4∨(f=3∧2<=v)∨(f=5∧v=3)
instance (v f:Nat):Decidable (Zza v f):=by unfold Zza;infer_instance
def Zyq (r:Rec) (f:Nat):List UInt8:=
 if f=1 then Lib.uvarint r.idx.toNat else if f=2 then Lib.uvarint r.proc.toNat else if f=3 then Lib.uvarint r.seq.toNat
 else if f=4 then ZaN r.op else Lib.uvarint (Lib.zigzag r.resp)
def Ztv (r:Rec) (f:Nat) (l:List UInt8):Rec × Nat:=
 if f=1 then({ r with idx:=((Zab l).1:Int) },(Zab l).2) else if f=2 then({ r with proc:=((Zab l).1:Int) },(Zab l).2)
 else if f=3 then({ r with seq:=((Zab l).1:Int) },(Zab l).2) else if f=4 then({ r with op:=(Zay l).1 },(Zay l).2)
 else({ r with resp:=zag (Zaf l).1 },(Zaf l).2)
set_option linter.unusedVariables false in
def Zxq (v:Nat) (l:List UInt8) (last:Int) (found:Nat) (r:Rec):Except Int (Rec × Nat):=
 if hl:l=[] then .ok (r,found)
 else if hk:(Zab l).2=0∨((Zab l).1:Int)<=last then .error 3
 else if Zza v (Zab l).1 then
  if(Ztv r (Zab l).1 (l.drop (Zab l).2)).2=0 then .error 3
  else Zxq v (l.drop ((Zab l).2+(Ztv r (Zab l).1 (l.drop (Zab l).2)).2)) (Zab l).1 (found+1) (Ztv r (Zab l).1 (l.drop (Zab l).2)).1
 else if(Zab l).1<16∨v=3 then .error 7
 else if(Zab (l.drop (Zab l).2)).2=0∨l.length<(Zab l).2+(Zab (l.drop (Zab l).2)).2+(Zab (l.drop (Zab l).2)).1 then .error 3
 else Zxq v (l.drop ((Zab l).2+(Zab (l.drop (Zab l).2)).2+(Zab (l.drop (Zab l).2)).1)) (Zab l).1 found r
termination_by l.length
decreasing_by
 all_goals
  have h1:l.length≠0:=by simpa using hl
  have h2:(Zab l).2≠0:=fun e=>hk (.inl e)
  rw[List.length_drop]
  omega
def decR (l:List UInt8):Rec × Int:=
 if l=[] then(Zai,2)
 else if(Zab l).2=0 then(Zai,3)
 else if(Zab l).1<1∨3<(Zab l).1 then(Zai,6)
 else match Zxq (Zab l).1 (l.drop (Zab l).2) (-1) 0 Zai with
  | .error e=>(Zai,e)
  | .ok (r,found)=>if found≠(Zab l).1+2 then(Zai,7) else if ZaF r then(r,0) else(Zai,1)
def Zxr (v:Int):List Nat:=if v=1 then[1,2,4] else if v=2 then[1,2,3,4] else[1,2,3,4,5]
def Zyr (r:Rec):List Nat->List UInt8
 | []=>[]
 | f::fs=>Lib.uvarint f++(Zyq r f++Zyr r fs)
def encR (v:Int) (r:Rec):List UInt8:=Lib.uvarint v.toNat++Zyr r (Zxr v)
theorem Zdq {r:Rec} (h:ZaF r):I64 r.resp:=Zaj (by have:=h.2.2.2.2.2.2.2.1;omega) (by have:=h.2.2.2.2.2.2.2.2;omega)
theorem Zbn {l:List UInt8} (h:(Zab l).2≠0):Lib.uvarint (Zab l).1=l.take (Zab l).2:=by
 rcases Zau l with e | e
 ·rw[e] at h;exact absurd rfl h
 ·exact e.2.2.2.symm
theorem ZkQ {l:List UInt8} (h:(Zaf l).2≠0):Lib.uvarint (Zaf l).1=l.take (Zaf l).2:=by
 rcases Zby l with e | e
 ·rw[e] at h;exact absurd rfl h
 ·exact e.2.2.2.symm
end Go.Proofs.YtnahjngbneicaaaGreatDoor
