import Derived.Test.YtnahjngbneicaaaGreatDoorFilesLawM
namespace Go.Proofs.YtnahjngbneicaaaGreatDoor
open _root_.Go.Proofs.Tryz
set_option maxRecDepth 100000
theorem Zkq (keep:List Int):∀ {l:Dir} {fs:List Fl} {f:Nat} (j:Nat),ZbC l->(∃ n,(n,f) ∈ l)->f<fs.length->∃ i,fl (Qu keep l j fs) f=Zjv (fl fs f) (Zgl keep i)
 | [],_,_,_,_,⟨_,h⟩,_=>by cases h
 | p::l,fs,f,j,ha,⟨n,h⟩,hf=>by
  unfold ZbC at ha;rw[List.pairwise_cons] at ha;rw[Qu];by_cases e:p.2=f
  ·refine⟨j,?_⟩
   rw[Zbi keep l (j+1) _ f fun q b=>by rw[<-e];exact fun c=>ha.1 q b c.symm,e,ZbR hf]
  ·rcases List.mem_cons.1 h with h | h
   ·exact absurd (by rw[<-h]) e
   ·obtain⟨i,a⟩:=Zkq keep (l:=l) (fs:=fs.set p.2 (Zjv (fl fs p.2) (Zgl keep j))) (f:=f) (j+1) ha.2 ⟨n,h⟩ (by rw[List.length_set];exact hf)
    rw[Zab e] at a;exact⟨i,a⟩
def kd (n:Int) (a:List UInt8) (q:Int):Dk:=⟨10000,[⟨a,a.length⟩],[(n,0)],[],q⟩
def sd (o:List UInt8) (x:Fl) (ws:List Ch) (q:Int):Dk:=⟨10000,[⟨o,o.length⟩,x],[(5,0)],ws,q⟩
end Go.Proofs.YtnahjngbneicaaaGreatDoor
