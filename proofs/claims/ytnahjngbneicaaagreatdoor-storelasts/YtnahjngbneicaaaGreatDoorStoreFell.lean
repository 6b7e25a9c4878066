import Derived.Test.YtnahjngbneicaaaGreatDoorStoreStrS
import Derived.Test.YtnahjngbneicaaaGreatDoorStoreRunR
namespace Go.Proofs.YtnahjngbneicaaaGreatDoor
open _root_.Go.Proofs.Tryz
set_option maxRecDepth 100000
open Go.RowKit
theorem ZAc {kind room:Int} (b:0<=kind) (a:kind<6) (l:List SOp) (c:l.length<=60):JI kind (Zyo kind room l).1 (Zyo kind room l).2 l.length:=by
 have:=JI.run b a l (x:=Zmq kind room) (n:=0) (ZAb room kind) (Zhb room kind b a) (by omega)
 rw[Nat.zero_add] at this;exact this
theorem Zzr (w:World) (ao:Option Addr) (l:List Rec) (cap:Nat) (b:RdR w (.slice ao l.length cap) l) (j:Nat) (d:j<=l.length):
 ∃ a' c',RdR w (.slice a' j c') (l.take j)∧∀ y:Int,y=(j:Int)->∀ W,(Instr.sliceAt 29 (.slice ao l.length cap) none (some (.int .i64 y)) none).run prog W=.ok (.slice a' j c') W:=by
 have g:l.length<=cap:=by
  obtain⟨a,c,e,h,-⟩:=b;simp only [Value.slice.injEq] at e;omega
 have h:=b.mid 0 j cap (Nat.zero_le _) d (by omega) zL
 unfold sliced at h;rw[List.drop_zero,Nat.sub_zero] at h;refine⟨_,_,h,fun y f W=>?_⟩
 subst f;rw[run_sliceAt_slice W 29 _ _ _ _ Zba,run_slice_h W 29 ao l.length cap Zba .i64 (j:Int) (by omega) (by omega),ZeG,ZlB]
 rfl
end Go.Proofs.YtnahjngbneicaaaGreatDoor
