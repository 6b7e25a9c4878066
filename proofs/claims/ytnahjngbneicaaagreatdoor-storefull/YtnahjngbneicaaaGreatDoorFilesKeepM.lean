import Derived.Test.YtnahjngbneicaaaGreatDoorFilesLawM
namespace Go.Proofs.YtnahjngbneicaaaGreatDoor
set_option linter.unusedSimpArgs false
open _root_.Go.Proofs.Tryz
set_option maxRecDepth 100000
theorem Zlj (keep:List Int):∀ {l:Dir} {fs:List Fl} {f:Nat} (j:Nat),Dc l->(∃ n,(n,f) ∈ l)->f<fs.length->∃ i,fl (Xd keep l j fs) f=Zlt (fl fs f) (Zhw keep i)
 | [],_,_,_,_,⟨_,h⟩,_=>by cases h
 | p::l,fs,f,j,ha,⟨n,h⟩,hf=>by
  unfold Dc at ha;rw[zcd] at ha;rw[Xd];by_cases e:p.2=f
  ·refine⟨j,?_⟩
   rw[Zbo keep l (j+1) _ f fun q b=>by rw[<-e];exact fun c=>ha.1 q b c.symm,e,Zao hf]
  ·rcases zbd.1 h with h | h
   ·exact absurd (by rw[<-h]) e
   ·obtain⟨i,a⟩:=Zlj keep (l:=l) (fs:=fs.set p.2 (Zlt (fl fs p.2) (Zhw keep j))) (f:=f) (j+1) ha.2 ⟨n,h⟩ (by rw[zd4];exact hf)
    rw[Jk e] at a;exact⟨i,a⟩
theorem Zlk {d:Dk} (h:OkD d) (names:Int) (keep:List Int) {n:Int} {f:Nat} (e:look (Yo d (Zf names d.waits.length)) n=some f):
 ∃ a,Zu (Jc d names keep) n=((Zlt (fl d.files f) a).b,0):=by
 have c:=h.dirs (Zf names d.waits.length);obtain⟨i,j⟩:=Zlj keep 0 c.apart ⟨n,(Y2 c.rise n f).1 e⟩ (c.mayOf e).2;refine⟨Zhw keep i,?_⟩;have g:look (Qm (Jc d names keep)) n=some f:=e;unfold Zu;rw[zaa (by show(-1:Int)≠0;omega),g]
 show((fl (Xd keep (Yo d (Zf names d.waits.length)) 0 d.files) f).b,(0:Int))=_;rw[j]
def kd (n:Int) (a:List UInt8) (q:Int):Dk:=⟨10000,[⟨a,a.length⟩],[(n,0)],[],q⟩
def sd (o:List UInt8) (x:Fl) (ws:List Ch) (q:Int):Dk:=⟨10000,[⟨o,o.length⟩,x],[(5,0)],ws,q⟩
end Go.Proofs.YtnahjngbneicaaaGreatDoor
