import Derived.Test.YtnahjngbneicaaaGreatDoorFilesLawM
namespace Go.Proofs.YtnahjngbneicaaaGreatDoor
open _root_.Go.Proofs.Tryz
set_option maxRecDepth 100000
theorem ZkV (keep:List Int):∀ {l:Dir} {fs:List Fl} {f:Nat} (j:Nat),G9 l->(∃ n,(n,f) ∈ l)->f<fs.length->∃ i,fl (Xb keep l j fs) f=Zlc (fl fs f) (Zhg keep i)
 | [],_,_,_,_,⟨_,h⟩,_=>by cases h
 | p::l,fs,f,j,ha,⟨n,h⟩,hf=>by
  unfold G9 at ha;rw[List.pairwise_cons] at ha;rw[Xb];by_cases e:p.2=f
  ·refine⟨j,?_⟩
   rw[Zbp keep l (j+1) _ f fun q c=>by rw[<-e];exact fun b=>ha.1 q c b.symm,e,Zao hf]
  ·rcases List.mem_cons.1 h with h | h
   ·exact absurd (by rw[<-h]) e
   ·obtain⟨i,a⟩:=ZkV keep (l:=l) (fs:=fs.set p.2 (Zlc (fl fs p.2) (Zhg keep j))) (f:=f) (j+1) ha.2 ⟨n,h⟩ (by rw[List.length_set];exact hf)
    rw[Jf e] at a;exact⟨i,a⟩
theorem ZtC {d:Dk} (h:OkD d) (names:Int) (keep:List Int) {n:Int} {f:Nat} (e:look (Ym d (Z4 names d.waits.length)) n=some f):
 ∃ a,Zp (G7 d names keep) n=((Zlc (fl d.files f) a).b,0):=by
 have c:=h.dirs (Z4 names d.waits.length);obtain⟨i,j⟩:=ZkV keep 0 c.apart ⟨n,(Zb c.rise n f).1 e⟩ (c.mayOf e).2;refine⟨Zhg keep i,?_⟩;have g:look (Qm (G7 d names keep)) n=some f:=e;unfold Zp;rw[if_neg (by show(-1:Int)≠0;omega),g]
 show((fl (Xb keep (Ym d (Z4 names d.waits.length)) 0 d.files) f).b,(0:Int))=_;rw[j]
def kd (n:Int) (a:List UInt8) (q:Int):Dk:=⟨10000,[⟨a,a.length⟩],[(n,0)],[],q⟩
def sd (o:List UInt8) (x:Fl) (ws:List Ch) (q:Int):Dk:=⟨10000,[⟨o,o.length⟩,x],[(5,0)],ws,q⟩
end Go.Proofs.YtnahjngbneicaaaGreatDoor
