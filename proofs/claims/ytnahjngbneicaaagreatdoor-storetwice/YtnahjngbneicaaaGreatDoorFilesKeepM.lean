import Derived.Test.YtnahjngbneicaaaGreatDoorFilesLawM
namespace Go.Proofs.YtnahjngbneicaaaGreatDoor
open _root_.Go.Proofs.Tryz
set_option maxRecDepth 100000
theorem ZnG (keep:List Int):∀ {l:Dir} {fs:List Fl} {f:Nat} (j:Nat),ZeQ l->(∃ n,(n,f) ∈ l)->f<fs.length->∃ i,fl (Zaw keep l j fs) f=ZmL (fl fs f) (ZjB keep i)
 | [],_,_,_,_,⟨_,h⟩,_=>by cases h
 | p::l,fs,f,j,ha,⟨n,h⟩,hf=>by
  unfold ZeQ at ha;rw[List.pairwise_cons] at ha;rw[Zaw];by_cases e:p.2=f
  ·refine⟨j,?_⟩
   rw[Zet keep l (j+1) _ f fun q c=>by rw[<-e];exact fun b=>ha.1 q c b.symm,e,Zfg hf]
  ·rcases List.mem_cons.1 h with h | h
   ·exact absurd (by rw[<-h]) e
   ·obtain⟨i,a⟩:=ZnG keep (l:=l) (fs:=fs.set p.2 (ZmL (fl fs p.2) (ZjB keep j))) (f:=f) (j+1) ha.2 ⟨n,h⟩ (by rw[List.length_set];exact hf)
    rw[ZcF e] at a;exact⟨i,a⟩
def kd (n:Int) (a:List UInt8) (q:Int):Dk:=⟨10000,[⟨a,a.length⟩],[(n,0)],[],q⟩
def sd (o:List UInt8) (x:Fl) (ws:List Ch) (q:Int):Dk:=⟨10000,[⟨o,o.length⟩,x],[(5,0)],ws,q⟩
end Go.Proofs.YtnahjngbneicaaaGreatDoor
