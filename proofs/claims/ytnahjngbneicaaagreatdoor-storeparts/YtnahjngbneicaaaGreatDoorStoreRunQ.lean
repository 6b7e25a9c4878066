import Derived.Test.YtnahjngbneicaaaGreatDoorStoreRunN
import Derived.Test.YtnahjngbneicaaaGreatDoorFilesKeepM
namespace Go.Proofs.YtnahjngbneicaaaGreatDoor
set_option maxRecDepth 100000
theorem Zlz.reads {x:SDk} {all:List Rec} {n:Nat} (h:Zlz x all n) {a b:Int} (h1:x.1.log.first<=a) (h2:a<=b) (h3:b<=x.1.next):ZdO x.1 a b=((all.take b.toNat).drop a.toNat,0):=by
 have hf:=h.ok.log.f0
 have hl:=h.len
 have hr:=h.recs
 unfold ZdO
 rw[if_neg (by omega),if_neg (by omega),hr]
 congr 1
 generalize x.1.log.first=f at *
 have e1:(all.drop f.toNat).take (b-f).toNat=(all.take b.toNat).drop f.toNat:=by
  rw[List.drop_take]
  congr 1
  omega
 rw[e1,List.drop_drop]
 congr 1
 omega
end Go.Proofs.YtnahjngbneicaaaGreatDoor
