import Derived.Test.YtnahjngbneicaaaGreatDoorPack3
import Derived.Deep.RegionHeld
import Derived.Test.YtnahjngbneicaaaGreatDoorPack2
import Derived.Test.YtnahjngbneicaaaGreatDoorPack1
import Derived.Lib.SliceRun
import Derived.Laws.StructEq
import Derived.Shelf.Slices.Equal
import Derived.Shelf.Slices.Empties2
import Derived.Shelf.Slices.Clone
import Derived.Shelf.Slices.Cells
import Derived.Shelf.Spec.SlicesInsert
import Derived.Shelf.Spec.SlicesInsertGrow
import Derived.Deep.DeepAppendWide
namespace Go.Proofs.YtnahjngbneicaaaGreatDoor
set_option maxHeartbeats 4000000
set_option maxRecDepth 100000
open Go.RowKit
theorem ZhU:∀ (k v:Nat),Lib.leBytes (k+1) v=Lib.leBytes k v++[(v / 256 ^ k % 256).toUInt8]
 | 0,v=>by simp[Lib.leBytes]
 | k+1,v=>by
  have ih:=ZhU k (v / 256)
  have e:v / 256 / 256 ^ k=v / 256 ^ (k+1):=by rw[Nat.div_div_eq_div_mul,Nat.pow_succ,Nat.mul_comm]
  rw[Lib.leBytes,ih,e]
  simp[Lib.leBytes]
def Zjl (c k v:Nat):List UInt8:=Lib.leBytes k v++List.replicate (c-k) 0
theorem Znm (c k v:Nat) (h:k<=c):(Zjl c k v).length=c:=by
 simp[Zjl,Lib.leBytes_length]
 omega
theorem ZtV (c k v:Nat) (h:k<c):(Lib.byteCells (Zjl c k v)).set k (.int .u8 ((v / 256 ^ k % 256:Nat):Int))=Lib.byteCells (Zjl c (k+1) v):=by
 have e:c-k=(c-(k+1))+1:=by omega
 unfold Zjl
 rw[ZhU,e,List.replicate_succ]
 have hl:(Lib.byteCells (Lib.leBytes k v)).length=k:=by rw[Zbg,Lib.leBytes_length]
 have h8:((v / 256 ^ k % 256).toUInt8).toNat=v / 256 ^ k % 256:=Lib.toUInt8_toNat (Nat.mod_lt _ (by decide))
 simp only [Lib.byteCells,List.map_append,List.map_cons,List.map_nil,h8] at hl ⊢
 rw[List.set_append_right _ _ (by omega),hl]
 simp
theorem Zzg (k:Nat):2 ^ (8*k)=256 ^ k:=by rw[Nat.pow_mul]
theorem ZtW (v k:Nat):((v:Int) / 2 ^ (8*k)) % 256=((v / 256 ^ k % 256:Nat):Int):=by
 rw[<-Zzg]
 simp
theorem ZrD (v c:Nat) (w:World) (hc:c<=8):
 Calls Tryz.prog 186 #[.int .u64 (v:Int),.int .i64 (c:Int)] w fun e w'=>∃ v',e=.returned v'∧Own w' w.heap.size v' (Lib.leBytes c v)∧Below w.heap.size w w':=by
 obtain⟨i0,hi,hz0,hz1,hz2⟩:=info_parts ZlG
 go_enter Tryz.func186,Tryz.ntmps186
 go_wp2_with(at_make;refine wpList_make_full _ rfl _ _ 53 rfl w.heap.size 5 i0 (.int .u8 0) 1 Tryz.underlying53 hi hz0 hz1 _ _ _ _ c rfl rfl rfl rfl (by rw[hz2];omega) (by unfold maxLen;omega) zL ?_)
 intro w1 hown hgrow
 have hb1:Below w.heap.size w w1:=(Below.refl _ _).grown hgrow zL (fun k hk=>by cases hk)
 have hown1:w1.ownsRow w.heap.size 5 1 (.slice (some ⟨w.heap.size,0,none⟩) c c) c (Lib.byteCells (Zjl c 0 v)):=by
  have e:(madeCells #[Value.int .u8 0] c).toList=Lib.byteCells (Zjl c 0 v):=by
   rw[toList_madeCells_one]
   simp[Zjl,Lib.leBytes,Lib.byteCells]
  rw[<-e]
  exact hown
 have HO:=ZZ hown1
 have HB:=ZZ hb1
 clear hown hown1 hb1 hgrow
 go_wp2
 go_loopw[11] (fun i wr=>∃ k:Nat,k<=c∧i=.int .i64 (k:Int)∧Hid (wr.ownsRow w.heap.size 5 1 (.slice (some ⟨w.heap.size,0,none⟩) c c) c (Lib.byteCells (Zjl c k v)))∧Hid (Below w.heap.size w wr)) (fun i _=>c-(intOf i).toNat)
 case atStart=>exact⟨0,Nat.zero_le _,rfl,HO,HB⟩
 case round=>
  obtain⟨k,hk,rfl,ho,hb⟩:=hrel
  by_cases hlt:k<c
  ·have hcell:wr.cell? ⟨w.heap.size,k,none⟩=some (.int .u8 ((Zjl c k v).getD k 0).toNat):=by
    rw[World.ownsRow.cellAt ho.out k (by omega),Zen _ _ (by rw[Znm c k v hk];exact hlt)]
   have hfr:wr.frozen? ⟨w.heap.size,k,none⟩=false:=World.ownsRow.frozenAt ho.out k
   go_wp2
   go_roundw
   case rel=>
    have hs:=World.ownsRow.stored ho.out k (Value.int .u8 ((v / 256 ^ k % 256:Nat):Int))
    rw[ZtV c k v hlt] at hs
    rw[ZtW]
    exact⟨k+1,by omega,by go_num,hs.1,hb.out.setCell zL _⟩
   case measure=>simp[intOf];omega
  ·go_wp2
   go_ret
   have e:k=c:=by omega
   refine⟨_,rfl,Own.mk' (l:=Lib.leBytes c v) ho.out (by rw[Lib.leBytes_length]) ?_,hb.out⟩
   rw[e]
   simp[Zjl]
theorem Zph (v:Nat) (w:World) (h:v<4294967296):
 Calls Tryz.prog 135 #[.int .u32 (v:Int)] w fun e w'=>∃ v',e=.returned v'∧Own w' w.heap.size v' (Lib.leBytes 4 v)∧Below w.heap.size w w':=by
 have HC:Hid (Calls Tryz.prog 186 #[.int .u64 (v:Int),.int .i64 4] w fun e w'=>∃ v',e=.returned v'∧Own w' w.heap.size v' (Lib.leBytes 4 v)∧Below w.heap.size w w'):=ZrD v 4 w (by omega)
 obtain⟨U,hU⟩:∃ U:Int,U=(v:Int):=⟨_,rfl⟩
 have h0:0<=U:=by omega
 have h1:U<4294967296:=by omega
 rw[<-hU] at HC ⊢
 clear hU h
 go_enter Tryz.func135,Tryz.ntmps135
 go_wp2_with fail
 refine HC.out.mono ?_
 rintro e w' ⟨v',rfl,ho,hb⟩
 have HO:=ZZ ho
 have HB:=ZZ hb
 clear ho hb HC
 go_wp2
 go_ret
 exact⟨v',rfl,HO.out,HB.out⟩
theorem ZlV:∀ l:List UInt8,Lib.leNat l<256 ^ l.length
 | []=>by simp[Lib.leNat]
 | c::r=>by
  have h:=ZlV r
  have hc:=c.toNat_lt
  simp only [Lib.leNat,List.length_cons,Nat.pow_succ]
  omega
theorem ZkY:∀ (l:List UInt8) (c:UInt8),Lib.leNat (l++[c])=Lib.leNat l+c.toNat*256 ^ l.length
 | [],c=>by simp[Lib.leNat]
 | d::r,c=>by
  have h:=ZkY r c
  simp only [List.cons_append,Lib.leNat,List.length_cons,Nat.pow_succ,h]
  rw[Nat.mul_add,<-Nat.mul_assoc,Nat.mul_comm 256 c.toNat,Nat.mul_assoc,Nat.mul_comm 256 (256 ^ r.length)]
  omega
theorem ZrE (l:List UInt8) (k:Nat) (h:k<l.length):Lib.leNat (l.take (k+1))=Lib.leNat (l.take k)+(l.getD k 0).toNat*256 ^ k:=by
 rw[ZiC l k h,ZkY,List.length_take,Nat.min_eq_left (by omega)]
theorem ZlW (l:List UInt8) (k:Nat) (h:k<=l.length):Lib.leNat (l.take k)<256 ^ k:=by
 have:=ZlV (l.take k)
 rwa [List.length_take,Nat.min_eq_left h] at this
theorem ZvV (l:List UInt8) (k:Nat) (hk:k<l.length) (h8:k<8):
 bits .or .u64 ((Lib.leNat (l.take k):Nat):Int) (IntKind.u64.wrap (((l.getD k 0).toNat:Int)*2 ^ (8*k)))=((Lib.leNat (l.take (k+1)):Nat):Int):=by
 have hv:=ZlW l k (by omega)
 rw[ZrE l k hk,<-Zzg]
 rw[<-Zzg] at hv
 refine Zxb (8*k) _ _ (by omega) hv ?_
 have hp:2 ^ (8*k)<=2 ^ 56:=Nat.pow_le_pow_right (by decide) (by omega)
 have hb:=(l.getD k 0).toNat_lt
 have hm:(l.getD k 0).toNat<=255:=by omega
 have:=Nat.mul_le_mul hm hp
 have e56:255*2 ^ 56<18446744073709551616:=by decide
 omega
theorem Znn (v:Value) (l:List UInt8) (w:World) (hr:Rd w v l):
 Calls Tryz.prog 161 #[v] w fun e w'=>e=.returned (.int .u64 (Lib.leNat (l.take 8):Nat))∧w'=w:=by
 obtain⟨ao,cap,rfl,hlc,hcm,hn0,hao⟩:=hr
 clear hn0
 have hml:(l.length:Int)<=9223372036854775807:=by unfold maxLen at hcm;omega
 by_cases h10:(l.length:Int)<=8
 all_goals
  go_enter Tryz.func161,Tryz.ntmps161
  go_wp2
  go_loop [3,8] (fun n i=>∃ k:Nat,i=.int .i64 k∧k<=8∧k<=l.length∧n=.int .u64 (Lib.leNat (l.take k):Nat)) (fun _ i=>8-(intOf i).toNat)
  case atStart=>exact⟨0,rfl,by omega,by omega,rfl⟩
  case round=>
   obtain⟨k,rfl,hk10,hkl,rfl⟩:=hrel
   by_cases hlt:k<8∧k<l.length
   ·obtain⟨hlt,hlt'⟩:=hlt
    rcases hao with hao | ⟨b,off,rfl,hc⟩
    ·subst hao;simp at hlt'
    ·have hck:=hc k hlt'
     have HS:=ZZ (ZvV l k hlt' hlt)
     have hy:(l.getD k 0).toNat<256:=UInt8.toNat_lt _
     clear hc
     generalize (l.getD k 0).toNat=y at *
     generalize Lib.leNat (l.take k)=z at *
     go_wp2
     go_round
     case rel=>exact⟨k+1,by go_num,by omega,by omega,by rw[HS.out]⟩
     case measure=>simp[intOf];omega
   ·go_wp2
    go_ret
    refine⟨Zeo ?_,rfl⟩
    by_cases e:k=8
    ·rw[e]
    ·rw[List.take_of_length_le (by omega:l.length<=k),List.take_of_length_le (by omega:l.length<=8)]
def bs (l:List UInt8):ByteArray:=⟨l.toArray⟩
theorem ZtX (l:List UInt8):(bs l).toList=l:=ByteArray.toList_mk l
theorem Zzh (a b:List UInt8):((bs a).toList == (bs b).toList)=(a == b):=by rw[ZtX,ZtX]
theorem Rd.str {w:World} {v:Value} {l:List UInt8} (h:Rd w v l):(convert 53 9 v).run Tryz.prog w=.ok (.string (bs l)) w:=by
 obtain⟨ao,cap,rfl,_,_,hn,h⟩:=h
 cases ao with
 | none=>
  have hl:l=[]:=List.eq_nil_of_length_eq_zero (by have:=hn rfl;omega)
  subst hl
  exact run_convert_bytes_nil w 53 5 Tryz.underlying53 Tryz.underlying5 0 cap 9 Tryz.underlying9
 | some a=>
  have hl:(loadCells a l.length).run Tryz.prog w=.ok ((l.map fun c=>(c.toNat:Int)).map (Value.int .u8)).toArray w:=by
   have:=run_loadCells_list (P:=Tryz.prog) w a (Lib.byteCells l) (Rd.cells h a rfl)
   rw[Zbg] at this
   rw[this]
   simp[Lib.byteCells,Function.comp_def]
  rw[run_convert_bytes_string w 53 9 5 _ l.length cap Tryz.underlying53 Tryz.underlying5 Tryz.underlying9,run_bytesToString w _ l.length cap _ hl,foldl_push_bytes]
  have e:(List.map (fun n:Int=>UInt8.ofNat n.toNat) (List.map (fun c:UInt8=>(c.toNat:Int)) l))=l:=by
   rw[List.map_map]
   conv=>rhs;rw[<-List.map_id l]
   apply List.map_congr_left
   intro c _
   simp
  rw[e]
  simp[bs,ByteArray.empty,ByteArray.emptyWithCapacity]
  rfl
def ZxF (B:Nat) (w:World) (p:Nat) (d:Dk) (N T:Nat):Prop:=∃ F,Dsk F w p d N T∧∀ k,F k->B<=k
theorem ZlX (B:Nat) (room:Int) (hr:I64 room) (w:World) (hB:B<=w.heap.size):
 Calls Tryz.prog 9 #[.int .i64 room] w fun e w'=>∃ p,e=.returned (ptr p)∧ZxF B w' p (ZfL room) 0 0∧Below B w w':=by
 refine(Zxz room hr w).mono ?_
 rintro e w' ⟨p,he,hd,hb⟩
 exact⟨p,he,⟨_,hd,fun k hk=>by omega⟩,hb.mono hB⟩
theorem Dsk.ltF {F:Nat->Prop} {w:World} {p:Nat} {d:Dk} {N T:Nat} (h:Dsk F w p d N T):∀ k,F k->k<w.heap.size:=by
 obtain⟨L,h1,_⟩:=h
 exact h1.lt
theorem ZrF {B p:Nat} {d:Dk} {N T:Nat} (w:World) (h:ZxF B w p d N T) (hN:N<=1000000):
 Calls Tryz.prog 28 #[ptr p] w fun e w'=>∃ v,e=.returned v∧Zax w' w.heap.size v ((ZbW d).map Prod.fst)∧Below w.heap.size w w':=by
 obtain⟨F,⟨L,h1,h3,_⟩,h2⟩:=h
 exact Znl w h1 h3 hN
theorem ZxF.ok {B:Nat} {w:World} {p:Nat} {d:Dk} {N T:Nat} (h:ZxF B w p d N T):OkD d∧Bnd d N T:=by
 obtain⟨F,⟨L,h1,h3,h4,_⟩,h2⟩:=h
 exact⟨h3,h4⟩
theorem ZcW (w:World) (o:Obj):Below w.heap.size w (w.alloc o):=(Below.refl _ w).alloc zL o
theorem Rd.mid {w:World} {ao:Option Addr} {n cap:Nat} {l:List UInt8} (h:Rd w (.slice ao n cap) l) (i j m:Nat) (hij:i<=j) (hj:j<=l.length) (hm:j<=m) (hmc:m<=cap):Rd w (sliced ao i j m 1) ((l.drop i).take (j-i)):=by
 obtain⟨ao',cap',hv,h1,h2,h3,h4⟩:=h
 simp only [Value.slice.injEq] at hv
 obtain⟨rfl,rfl,rfl⟩:=hv
 have hlen:((l.drop i).take (j-i)).length=j-i:=by simp;omega
 unfold sliced
 by_cases hmi:m=i
 ·rw[if_pos hmi]
  have e:j-i=0:=by omega
  refine⟨ao,m-i,by rw[hlen],by omega,by omega,fun hn=>by have:=h3 hn;omega,.inl ?_⟩
  rw[e]
  simp
 ·rw[if_neg hmi]
  refine⟨ao.map (·.add (i*1)),m-i,by rw[hlen],by omega,by omega,fun hn=>?_,?_⟩
  ·have hn':ao=none:=by simpa using hn
   have:=h3 hn'
   omega
  ·rcases h4 with h4 | ⟨b,off,h5,h6⟩
   ·exact .inl (by rw[h4];simp)
   ·refine .inr ⟨b,off+i,?_,fun k hk=>?_⟩
    ·rw[h5,Nat.mul_one,Option.map_some,Addr.add_lit]
    ·rw[hlen] at hk
     rw[Nat.add_assoc,h6 (i+k) (by omega)]
     simp[List.getD,hk]
theorem ZbG:Tryz.prog.elem 53=5:=by kernel_rfl
theorem Zev (w:World):(sizeOf 5).run Tryz.prog w=.ok 1 w:=by
 obtain⟨i0,hi,_,hz1,_⟩:=info_parts ZlG
 simp[sizeOf,typeInfo,hi,hz1]
theorem ZaA:Tryz.prog.underlying 53=some (.slice (Tryz.prog.elem 53)):=by rw[ZbG];exact Tryz.underlying53
theorem Zjm (w:World) (v:Value) (l:List UInt8) (hr:Rd w v l) (k:IntKind) (i:Int) (h0:0<=i) (h2:i<=l.length):
 ∃ v',(Instr.sliceAt 53 v (some (.int k i)) none none).run Tryz.prog w=.ok v' w∧Rd w v' (l.drop i.toNat):=by
 have h:=hr
 obtain⟨ao,cap,rfl,hlc,_⟩:=hr
 refine⟨sliced ao i.toNat l.length cap 1,?_,?_⟩
 ·rw[run_sliceAt_slice w 53 _ _ _ _ ZaA,run_slice_l w 53 ao l.length cap ZaA k i h0 (by omega),ZbG,Zev]
  rfl
 ·have:=h.mid i.toNat l.length cap (by omega) zL hlc zL
  rw[List.take_of_length_le (by simp)] at this
  exact this
theorem Zhn (w:World) {ops:Array Oper} {rest:List Oper} {o:Oper} {a:Act} {Q:Exit->Act->World->Prop} (hgd:o.guard=none) (x:Operand) (lo hi mx:Option Operand)
 (ho:o.op=.slice 53 x lo hi mx) (l:List UInt8)
 (hrun:∃ v',(Instr.sliceAt 53 (a.eval x) (lo.map a.eval) (hi.map a.eval) (mx.map a.eval)).run Tryz.prog w=.ok v' w∧Rd w v' l)
 (h:∀ v',Rd w v' l->wpList Tryz.prog ops Q rest (a.put o.dst v') w):wpList Tryz.prog ops Q (o::rest) a w:=
 wpList_plain hgd fun _ hK=>by
  obtain⟨v',hrun,hr⟩:=hrun
  unfold Oper.wp execOp
  simp only [ho,hrun,Sem.run_bind,Sem.run_pure,Result.andThen_ok]
  exact hK _ _ (h v' hr)
def ZrG (e:Ent):Value:=.agg #[.int .i64 e.proc,.int .i64 e.seq,.int .i64 e.resp]
def ZeN (e:Ent):Array Value:=#[.int .i64 e.proc,.int .i64 e.seq,.int .i64 e.resp]
def ZlY (e:Ent):Prop:=I64 e.proc∧I64 e.seq∧I64 e.resp
def Be (w:World) (b:Nat) (cs:Array Value):Prop:=w.heap[b]?=some (.cells cs 85 (0,0))
theorem Be.lt {w:World} {b:Nat} {cs:Array Value} (h:Be w b cs):b<w.heap.size:=(Array.getElem?_eq_some_iff.1 h).1
theorem Be.below {w w':World} {b B:Nat} {cs:Array Value} (h:Be w b cs) (hb:Below B w w') (hB:w.heap.size<=B):Be w' b cs:=(hb.block b (by have:=h.lt;omega)).trans h
theorem Be.cell {w:World} {b:Nat} {cs:Array Value} (h:Be w b cs) (j:Nat):w.cell? ⟨b,j,none⟩=cs[j]?∧w.frozen? ⟨b,j,none⟩=false:=⟨cell_of_row w b j _ _ _ h,frozen_of_row w b j _ _ h⟩
def Zno (w:World) (b o:Nat) (e:Ent):Prop:=
 w.cell? ⟨b,o,none⟩=some (.int .i64 e.proc)∧w.cell? ⟨b,o+1,none⟩=some (.int .i64 e.seq)∧w.cell? ⟨b,o+2,none⟩=some (.int .i64 e.resp)
theorem Zno.lt {w:World} {b o:Nat} {e:Ent} (h:Zno w b o e):b<w.heap.size:=World.block_lt_of_cell? w ⟨b,o,none⟩ h.1
theorem Zno.keep {w w':World} {b o:Nat} {e:Ent} (h:Zno w b o e) (hk:w'.heap[b]?=w.heap[b]?):Zno w' b o e:=by
 have hc:∀ i,w'.cell? ⟨b,i,none⟩=w.cell? ⟨b,i,none⟩:=fun i=>World.cell?_of_block (a:=⟨b,i,none⟩) hk
 unfold Zno at h ⊢
 simp only [hc]
 exact h
def RdE (w:World) (v:Value) (l:List Ent):Prop:=
 ∃ ao cap,v=.slice ao l.length cap∧l.length<=cap∧cap<=maxLen∧(ao=none->cap=0)∧(∀ e ∈ l,ZlY e)∧
  (l=[]∨∃ b off,ao=some ⟨b,off,none⟩∧∀ j,j<l.length->Zno w b (off+j*3) (l.getD j ZaP))
theorem RdE.nil (w:World):RdE w (.slice none 0 0) []:=⟨none,0,rfl,Nat.le_refl _,Nat.zero_le _,fun _=>rfl,(fun r h=>by simp at h),.inl rfl⟩
theorem RdE.below {w w':World} {v:Value} {l:List Ent} (h:RdE w v l) {B:Nat} (hb:Below B w w') (hB:w.heap.size<=B):RdE w' v l:=by
 obtain⟨ao,cap,h1,h2,h3,hn,hw,h4⟩:=h
 refine⟨ao,cap,h1,h2,h3,hn,hw,?_⟩
 rcases h4 with h4 | ⟨b,off,h5,h6⟩
 ·exact .inl h4
 ·refine .inr ⟨b,off,h5,fun j hj=>?_⟩
  have h7:=h6 j hj
  exact h7.keep (hb.block b (by have:=h7.lt;omega))
def Zae:List Ent->List Value
 | []=>[]
 | r::t=>(ZeN r).toList++Zae t
theorem Zat:∀ l:List Ent,(Zae l).length=l.length*3
 | []=>rfl
 | r::t=>by
  rw[Zae,List.length_append,Zat t,List.length_cons]
  simp[ZeN]
  omega
theorem ZcO:∀ a b:List Ent,Zae (a++b)=Zae a++Zae b
 | [],_=>rfl
 | r::t,b=>by rw[List.cons_append,Zae,ZcO t b,Zae,List.append_assoc]
theorem Zbj:∀ (l:List Ent) (j k:Nat),j<l.length->k<3->(Zae l)[j*3+k]?=(ZeN (l.getD j ZaP))[k]?
 | r::t,0,k,_,hk=>by
  rw[Zae,Nat.zero_mul,Nat.zero_add,List.getElem?_append_left (by simp[ZeN];omega)]
  simp[List.getD]
 | r::t,j+1,k,hj,hk=>by
  have e:(j+1)*3+k=(ZeN r).toList.length+(j*3+k):=by simp[ZeN];omega
  rw[Zae,e,List.getElem?_append_right (by omega),Nat.add_sub_cancel_left,Zbj t j k (by simpa using hj) hk]
  simp[List.getD]
theorem Zce (l:List Ent):∀ u ∈ Zae l,u.oneCell'=true:=by
 induction l with
 | nil=>intro u hu;simp[Zae] at hu
 | cons r t ih=>
  intro u hu
  rw[Zae] at hu
  rcases List.mem_append.1 hu with h | h
  ·simp[ZeN] at h
   rcases h with rfl | rfl | rfl <;> rfl
  ·exact ih u h
def Zbh (w:World) (B:Nat) (v:Value) (l:List Ent):Prop:=w.ownsRow B 85 3 v l.length (Zae l)
theorem Zbh.nil (w:World) (B:Nat):Zbh w B (.slice none 0 0) []:=World.ownsRow_nil w B 85 3
theorem Zbh.rd {w:World} {B:Nat} {v:Value} {l:List Ent} (h:Zbh w B v l) (hw:∀ r ∈ l,ZlY r):RdE w v l:=by
 rcases h.2 with ⟨hv,hn⟩ | ⟨g,cap,cur,hv,hb,hg,hnc,hcm,hcs,htake⟩
 ·exact⟨none,0,by rw[hv,hn],by omega,Nat.zero_le _,fun _=>rfl,hw,.inl (List.eq_nil_of_length_eq_zero hn)⟩
 ·refine⟨some ⟨g,0,none⟩,cap,hv,hnc,hcm,(fun e=>by cases e),hw,.inr ⟨g,0,rfl,fun j hj=>?_⟩⟩
  have hc:∀ k u,k<3->(ZeN (l.getD j ZaP))[k]?=some u->w.cell? ⟨g,0+j*3+k,none⟩=some u:=fun k u hk hu=>by
   have:=World.ownsRow.cells h (g:=g) (by rw[hv];rfl) (j*3+k) u ((Zbj l j k hj hk).trans hu)
   rw[Addr.add_lit] at this
   rw[Nat.add_assoc]
   exact this
  exact⟨hc 0 _ (by decide) rfl,hc 1 _ (by decide) rfl,hc 2 _ (by decide) rfl⟩
theorem Zbh.below {w w':World} {B B':Nat} {v:Value} {l:List Ent} (h:Zbh w B v l) (hb:Below B' w w') (hB:w.heap.size<=B'):Zbh w' B v l:=by
 obtain⟨h1,h2⟩:=h
 refine⟨h1,?_⟩
 rcases h2 with h2 | ⟨g,cap,cur,hv,hbg,hg,r⟩
 ·exact .inl h2
 ·have hlt:g<w.heap.size:=(Array.getElem?_eq_some_iff.1 hg).1
  exact .inr ⟨g,cap,cur,hv,hbg,by rw[hb.block g (by omega)];exact hg,r⟩
theorem Zbh.mono {w:World} {B B':Nat} {v:Value} {l:List Ent} (h:Zbh w B v l) (hB:B'<=B):Zbh w B' v l:=by
 obtain⟨h1,h2⟩:=h
 refine⟨h1,?_⟩
 rcases h2 with h2 | ⟨g,cap,cur,hv,hb,r⟩
 ·exact .inl h2
 ·exact .inr ⟨g,cap,cur,hv,by omega,r⟩
theorem Zbh.shape {w:World} {B:Nat} {v:Value} {l:List Ent} (h:Zbh w B v l):∃ ao cap,v=.slice ao l.length cap:=by
 rcases h.2 with ⟨hv,hn⟩ | ⟨g,cap,cur,hv,_⟩
 ·exact⟨none,0,by rw[hv,hn]⟩
 ·exact⟨_,_,hv⟩
theorem RdE.shape {w:World} {v:Value} {l:List Ent} (h:RdE w v l):∃ ao cap,v=.slice ao l.length cap:=by
 obtain⟨ao,cap,hv,_⟩:=h
 exact⟨ao,cap,hv⟩
theorem Zis:(Tryz.prog.info? 85).map (fun i=>(i.zero,i.size,i.bytes))=some (some (.agg #[.int .i64 0,.int .i64 0,.int .i64 0]),3,24):=by kernel_rfl
theorem Zkx (w:World) (ty:TypeId) (B:Nat) (v:Value) (l:List Ent) (h:Zbh w B v l) (r:Ent) (hlim:l.length<=1000000) (hbase:B<=w.heap.size):
 ∃ v' w',(Builtin.append_ #[39,39] ty #[v,.slice (some ⟨w.heap.size,0,none⟩) 1 1]).run Tryz.prog (w.alloc (.cells (ZeN r) 85))=.ok v' w'∧Zbh w' B v' (l++[r])∧Below B w w':=by
 obtain⟨i0,hi,hz0,hz1,hz2⟩:=info_parts Zis
 obtain⟨v',w',hrun,ho,hg,_⟩:=run_append_own (P:=Tryz.prog) (w.alloc (.cells (ZeN r) 85)) B 39 ty 85 i0 _ 3 24 Tryz.underlying39 hi hz0 hz1 hz2 rfl (by decide) v l.length (Zae l) (h.alloc _)
  ⟨w.heap.size,0,none⟩ 1 1 (Zae [r]) (Zat [r]) (fun j u hj=>by
   rw[Addr.add_lit,Nat.zero_add,cell_of_row _ w.heap.size j _ 85 (0,0) (heap_alloc_new w _)]
   simpa[Zae] using hj) (Zce [r]) (by unfold maxLen;omega) (by omega) (by simp;omega)
 refine⟨v',w',hrun,?_,?_⟩
 ·unfold Zbh
  rw[List.length_append,ZcO]
  exact ho
 ·exact((Below.refl _ _).alloc hbase _).grown hg (by simp;omega) (fun k hk=>(World.ownsRow.lt h k hk).1)
theorem Zho (w:World) {ops:Array Oper} {rest:List Oper} {o:Oper} {a:Act} {Q:Exit->Act->World->Prop} (hgd:o.guard=none) (s x:Operand)
 (ho:o.op=.call { callee:=.builtin .append,args:=#[s,x],argTypes:=#[39,39] })
 (B:Nat) (v:Value) (l:List Ent) (hs:a.eval s=v) (hown:Zbh w B v l) (r:Ent) (hx:a.eval x=.slice (some ⟨w.heap.size,0,none⟩) 1 1)
 (hlim:l.length<=1000000) (hbase:B<=w.heap.size)
 (h:∀ v' w',Zbh w' B v' (l++[r])->Below B w w'->wpList Tryz.prog ops Q rest (a.put o.dst v') w'):wpList Tryz.prog ops Q (o::rest) a (w.alloc (.cells (ZeN r) 85)):=
 wpList_plain hgd fun _ hK=>by
  obtain⟨v',w',hrun,h2,h3⟩:=Zkx w o.type B v l hown r hlim hbase
  unfold Oper.wp execOp
  simp only [ho,resolve,invoke,builtin,Sem.run_bind,Sem.run_pure,Result.andThen_ok,List.map_toArray,List.map_cons,List.map_nil,hs,hx,hrun]
  exact hK _ _ (h v' w' h2 h3)
def SnV (w:World) (v:Value) (s:ZaX):Prop:=
 ∃ vl vt,v=.agg #[.int .i64 s.idx,.int .i64 s.st.kind,vl,.bool s.st.shut,.int .i64 s.st.eng,vt]∧RdI w vl s.st.L∧I64 s.st.kind∧I64 s.st.eng∧RdE w vt s.tab∧I64 s.idx
def ZcP (p:Int):List Ent->Nat
 | []=>0
 | x::t=>if p<x.proc then 0 else ZcP p t+1
theorem Znp (p:Int):∀ t,ZcP p t<=t.length
 | []=>Nat.le_refl _
 | x::t=>by
  rw[ZcP]
  split
  ·exact Nat.zero_le _
  ·have:=Znp p t
   rw[List.length_cons]
   omega
def Zpi (p:Int) (t:List Ent):List Ent:=t.filter (fun x=>decide (x.proc≠p))
theorem ZvW (p:Int) (t:List Ent):(Zpi p t).length<=t.length:=List.length_filter_le _ _
theorem Znq (e:Ent):∀ t:List Ent,ZeW t e=(Zpi e.proc t).take (ZcP e.proc (Zpi e.proc t))++(e::(Zpi e.proc t).drop (ZcP e.proc (Zpi e.proc t)))
 | []=>rfl
 | x::t=>by
  have ih:=Znq e t
  unfold ZeW at ih ⊢
  unfold Zpi at ih ⊢
  have hf:(x::t).filter (fun y=>decide (y.proc≠e.proc))=if x.proc=e.proc then t.filter (fun y=>decide (y.proc≠e.proc)) else x::t.filter (fun y=>decide (y.proc≠e.proc)):=by
   rw[List.filter_cons]
   by_cases h:x.proc=e.proc <;> simp[h]
  rw[Zhi,hf]
  by_cases h1:x.proc=e.proc
  ·have h2:¬ e.proc<x.proc:=by omega
   simp only [h1,if_true]
   rw[if_neg (by simp),decide_eq_false (by omega),Bool.false_or,ih]
   rfl
  ·simp only [if_neg h1]
   by_cases h2:e.proc<x.proc
   ·rw[if_pos (by simp[h2]),decide_eq_true h2,Bool.or_true,Zhj,ZcP,if_pos h2]
    rfl
   ·rw[if_neg (fun h=>h2 h.2),decide_eq_false h2,Bool.or_false,ZcP,if_neg h2,ih]
    rfl
theorem ZkZ {p:Int}:∀ {t:List Ent},(∀ j,j<t.length->¬ p<(t.getD j ZaP).proc)->ZcP p t=t.length
 | [],_=>rfl
 | x::t,h=>by
  have h0:=h 0 (by simp)
  rw[show(x::t).getD 0 ZaP=x from rfl] at h0
  rw[ZcP,if_neg h0,ZkZ (fun j hj=>h (j+1) (by simpa using hj))]
  rfl
theorem Znr {p:Int}:∀ {t:List Ent} {i:Nat},i<t.length->(∀ j,j<i->¬ p<(t.getD j ZaP).proc)->p<(t.getD i ZaP).proc->ZcP p t=i
 | [],i,hi,_,_=>absurd hi (Nat.not_lt_zero _)
 | x::t,0,_,_,h=>by
  rw[show(x::t).getD 0 ZaP=x from rfl] at h
  rw[ZcP,if_pos h]
 | x::t,i+1,hi,hb,h=>by
  have h0:=hb 0 (by omega)
  rw[show(x::t).getD 0 ZaP=x from rfl] at h0
  rw[ZcP,if_neg h0,Znr (i:=i) (by simpa using hi) (fun j hj=>hb (j+1) (by omega)) h]
theorem ZtY {n:Nat} {b:List UInt8} {r:List Ent × List UInt8} (h:ZdI n b=some r):n<=b.length:=by
 obtain⟨t,x⟩:=r
 obtain⟨h1,h2⟩:=ZfT n b t x h
 have:=ZtD t
 rw[h2,List.length_append]
 omega
theorem Zns {b:List UInt8} (h0:(Zab b).2≠0):Zeh b=(ZdI (Zab b).1 (b.drop (Zab b).2)).bind (fun r=>if r.2=[] then some r.1 else none):=by
 unfold Zeh
 by_cases h1:b.length<(Zab b).1
 ·rw[if_pos (.inr h1)]
  cases h:ZdI (Zab b).1 (b.drop (Zab b).2) with
  | none=>rfl
  | some r=>
   have:=ZtY h
   rw[List.length_drop] at this
   omega
 rw[if_neg (by omega)]
 cases ZdI (Zab b).1 (b.drop (Zab b).2) with
 | none=>rfl
 | some p=>
  obtain⟨t,x⟩:=p
  cases x <;> rfl
theorem Zpj {l:List UInt8} {a:Nat} (h:a<l.length):Zbs (l.drop a)=(l.drop a).take 64::Zbs (l.drop (a+64)):=by
 rw[ZcD (fun e=>by
  have:=congrArg List.length e
  rw[List.length_drop,List.length_nil] at this
  omega),List.drop_drop]
theorem ZtZ (P:List (List UInt8)):Zhh P↔P=Zbs P.flatten:=
 ⟨fun h=>(ZeV P h).symm,fun h=>by rw[h];exact ZhN _ _ zL⟩
theorem Zua (e:Ent):ZaF ⟨0,e.proc,e.seq,⟨0,0,0⟩,e.resp⟩↔ZfP e:=by
 unfold ZaF ZfP ZcS
 simp only
 omega
def Zjn (t:List Ent):Nat->Int
 | 0=>0
 | k+1=>(t.getD k ZaP).proc+1
theorem Zpk {t:List Ent} {k:Nat}:ZcT t (k+1)↔ZcT t k∧ZfP (t.getD k ZaP)∧Zjn t k<=(t.getD k ZaP).proc:=by
 rw[ZcT.next]
 constructor
 ·rintro⟨h1,h2,h3⟩
  refine⟨h1,h2,?_⟩
  cases k with
  | zero=>exact h2.1
  | succ k=>
   have:=h3 (by omega)
   rw[Nat.add_sub_cancel] at this
   rw[Zjn]
   omega
 ·rintro⟨h1,h2,h3⟩
  refine⟨h1,h2,fun h=>?_⟩
  cases k with
  | zero=>omega
  | succ k=>
   rw[Zjn] at h3
   rw[Nat.add_sub_cancel]
   omega
theorem Zub (i:Int) (t:List Ent):¬ Zks ⟨i,ZeT,t⟩:=by
 rintro⟨-,h,-⟩
 revert h
 show ¬ Zcw ZeT
 decide
def ZbY:Nat->List UInt8->Option (List Nat × List UInt8)
 | 0,b=>some ([],b)
 | n+1,b=>if(Zab b).2=0 then none else(ZbY n (b.drop (Zab b).2)).map (fun r=>((Zab b).1::r.1,r.2))
theorem Zdj {P:Program} (w:World) (dT sT ty elem:TypeId) (k:Nat) (b o dLen dCap:Nat) (a:Addr) (sLen sCap:Nat) (cs:List Value)
 (hu:P.underlying dT=some (.slice elem)) (hs:(P.info? elem).map (·.size)=some k) (hn:cs.length=Nat.min sLen dLen*k)
 (hsrc:∀ j v,cs[j]?=some v->w.cell? (a.add j)=some v) (hc:∀ j,j<cs.length->(w.cell? ⟨b,o+j,none⟩).isSome=true) (hf:∀ j,j<cs.length->w.frozen? ⟨b,o+j,none⟩=false) (h1:∀ v ∈ cs,v.oneCell'=true):
 (Builtin.copy_ #[dT,sT] ty #[.slice (some ⟨b,o,none⟩) dLen dCap,.slice (some a) sLen sCap]).run P w=.ok (goInt (Nat.min sLen dLen)) (w.setCells b o cs):=by
 have hl:=run_loadCells_list (P:=P) w a cs hsrc
 have hst:=run_storeCells_cells (P:=P) b o cs 0 w (by simpa using hc) (by simpa using hf) h1
 cases hq:P.info? elem with
 | none=>simp[hq] at hs
 | some i=>
  have hi:i.size=k:=by simpa[hq] using hs
  rw[hn] at hl
  simp[Builtin.copy_,run_underlying hu,Builtin.lenOf,Builtin.firstCells,sizeOf,typeInfo,hq,hi,hl,hst]
def ZdQ:Nat->List Value
 | 0=>[]
 | n+1=>.int .i64 0::.int .i64 0::.int .i64 0::ZdQ n
theorem ZbS:∀ n,(ZdQ n).length=n*3
 | 0=>rfl
 | n+1=>by rw[ZdQ,List.length_cons,List.length_cons,List.length_cons,ZbS n];omega
theorem Zhp:∀ n,∀ v ∈ ZdQ n,v=.int .i64 0
 | 0,v,h=>by simp[ZdQ] at h
 | n+1,v,h=>by
  rw[ZdQ,List.mem_cons,List.mem_cons,List.mem_cons] at h
  rcases h with h | h | h | h
  ·exact h
  ·exact h
  ·exact h
  ·exact Zhp n v h
theorem Zla (n:Nat):(Builtin.zeroCells (Value.agg #[.int .i64 0,.int .i64 0,.int .i64 0]).cells n).toList=ZdQ n:=by
 have hsz:(Value.agg #[.int .i64 0,.int .i64 0,.int .i64 0]).cells=#[.int .i64 0,.int .i64 0,.int .i64 0]:=by rfl
 rw[hsz]
 apply List.ext_getElem?
 intro i
 by_cases h:i<n*3
 ·have h2:i<(ZdQ n).length:=by rw[ZbS];exact h
  have h3:(ZdQ n)[i]?=some (.int .i64 0):=by
   rw[List.getElem?_eq_getElem h2,Zhp n _ (List.getElem_mem h2)]
  rw[h3]
  have hm:i % 3=0∨i % 3=1∨i % 3=2:=by omega
  simp only [Builtin.zeroCells,Array.getElem?_toList,Array.getElem?_map]
  have h4:(Array.range (n*(#[Value.int .i64 0,.int .i64 0,.int .i64 0]:Array Value).size))[i]?=some i:=by simp[h]
  rw[h4]
  have h5:(#[Value.int .i64 0,.int .i64 0,.int .i64 0]:Array Value).size=3:=rfl
  rw[h5]
  rcases hm with e | e | e <;> rw[Option.map_some,e] <;> rfl
 ·rw[List.getElem?_eq_none (by simp[Builtin.zeroCells];omega),List.getElem?_eq_none (by rw[ZbS];omega)]
theorem Zjo {P:Program} (w:World) (t e ty:TypeId) (ht:P.underlying t=some (.slice e)) (hv:∀ w,(zeroValue e).run P w=.ok (.agg #[.int .i64 0,.int .i64 0,.int .i64 0]) w) (b o n c:Nat) (hn:0<n)
 (hc:∀ j,j<n*3->(w.cell? ⟨b,o+j,none⟩).isSome=true) (hf:∀ j,j<n*3->w.frozen? ⟨b,o+j,none⟩=false):
 (Builtin.clear_ #[t] ty #[.slice (some ⟨b,o,none⟩) n c]).run P w=.ok (.tuple #[]) (w.setCells b o (ZdQ n)):=by
 have hst:=run_storeCells_cells (P:=P) b o (ZdQ n) 0 w (by rw[ZbS];simpa using hc) (by rw[ZbS];simpa using hf) (by intro v hv';rw[Zhp n v hv'];rfl)
 simp only [Nat.add_zero] at hst
 obtain⟨m,rfl⟩:∃ m,n=m+1:=⟨n-1,by omega⟩
 simp[Builtin.clear_,run_underlying ht,hv,Zla,hst]
def Zpl (r s:Ent):Bool:=r.proc == s.proc && r.seq == s.seq && r.resp == s.resp
theorem Zuc (w:World) (r s:Ent):(binOp .neq 85 (.agg #[.int .i64 r.proc,.int .i64 r.seq,.int .i64 r.resp]) (.agg #[.int .i64 s.proc,.int .i64 s.seq,.int .i64 s.resp])).run Tryz.prog w=.ok (.bool (!Zpl r s)) w:=by
 have u3:=Tryz.underlying3
 have a3:=Tryz.isAgg3
 have z3:=Tryz.sizeOf3
 have hS:Tryz.prog.underlying 85=some (.struct (Tryz.prog.fieldsOf 85)):=by kernel_rfl
 have hp:Tryz.prog.stoodInHeld 85=false:=by kernel_rfl
 unfold Zpl
 rw[run_neq_struct,show(10000:Nat)=9999+1 from rfl,run_equalIn_agg w 9999 85 _ _ hS hp]
 simp only [Program.fieldsOf,Tryz.underlying85]
 go_simp
 repeat' split
 all_goals simp_all
theorem Zud:Tryz.prog.eqGuardType Tryz.prog.depth 85=false:=by kernel_rfl
theorem Znt (r s:Ent):Zpl r s=true↔r=s:=by
 obtain⟨i,p,q⟩:=r
 obtain⟨i',p',q'⟩:=s
 simp[Zpl]
 constructor
 ·rintro⟨⟨rfl,rfl⟩,rfl⟩
  simp
 ·rintro⟨rfl,rfl,rfl⟩
  simp
theorem ZrH (r:Ent):Zpl r r=true:=(Znt r r).2 rfl
theorem Zue {r s:Ent} (h:r≠s):Zpl r s=false:=by
 cases hq:Zpl r s
 ·rfl
 ·exact absurd ((Znt _ _).1 hq) h
open Go.RowKit Go.Shelf
def ZvX:Go.Shelf.Ren:=⟨fun | 111=>89 | n=>n,fun | 28=>23 | 3=>3 | 4=>4 | 0=>0 | n=>n,fun | n=>n⟩
theorem Zzi:Go.Proofs.Lays.n111 Tryz.prog ZvX:={
 mixed:=by kernel_rfl
 f111:=Tryz.func89.trans (congrArg some (by kernel_rfl))
 t0:=Tryz.underlying0
 a0:=Tryz.isAgg0
 z0:=Tryz.sizeOf0
 v0:=Tryz.zeroValue0
 t3:=Tryz.underlying3
 a3:=Tryz.isAgg3
 z3:=Tryz.sizeOf3
 v3:=Tryz.zeroValue3
 t4:=Tryz.underlying4
 a4:=Tryz.isAgg4
 z4:=Tryz.sizeOf4
 v4:=Tryz.zeroValue4
 t28:=Tryz.underlying23
 a28:=Tryz.isAgg23
 z28:=Tryz.sizeOf23
 v28:=Tryz.zeroValue23 }
def ZrI:Go.Shelf.Ren:=⟨fun | 15=>39 | n=>n,fun | 22=>23 | 3=>3 | 4=>4 | n=>n,fun | n=>n⟩
theorem Zuf:Go.Proofs.Lays2.n15 Tryz.prog ZrI:={
 mixed:=by kernel_rfl
 f15:=Tryz.func39.trans (congrArg some (by kernel_rfl))
 t3:=Tryz.underlying3
 a3:=Tryz.isAgg3
 z3:=Tryz.sizeOf3
 v3:=Tryz.zeroValue3
 t4:=Tryz.underlying4
 a4:=Tryz.isAgg4
 z4:=Tryz.sizeOf4
 v4:=Tryz.zeroValue4
 t22:=Tryz.underlying23
 a22:=Tryz.isAgg23
 z22:=Tryz.sizeOf23
 v22:=Tryz.zeroValue23
 i3:=by kernel_rfl }
def ZrJ:Go.Shelf.Ren:=⟨fun | 23=>210 | n=>n,fun | 22=>23 | 3=>3 | 4=>4 | 0=>0 | n=>n,fun | n=>n⟩
theorem Zyy:Go.Proofs.Lays2.n23 Tryz.prog ZrJ:={
 mixed:=by kernel_rfl
 f23:=Tryz.func210.trans (congrArg some (by kernel_rfl))
 t0:=Tryz.underlying0
 a0:=Tryz.isAgg0
 z0:=Tryz.sizeOf0
 v0:=Tryz.zeroValue0
 t3:=Tryz.underlying3
 a3:=Tryz.isAgg3
 z3:=Tryz.sizeOf3
 v3:=Tryz.zeroValue3
 t4:=Tryz.underlying4
 a4:=Tryz.isAgg4
 z4:=Tryz.sizeOf4
 v4:=Tryz.zeroValue4
 t22:=Tryz.underlying23
 a22:=Tryz.isAgg23
 z22:=Tryz.sizeOf23
 v22:=Tryz.zeroValue23
 i3:=by kernel_rfl }
def Zlb:Go.Shelf.Ren:=⟨fun | 21=>212 | 27=>223 | 28=>224 | 35=>229 | 39=>232 | n=>n,fun | 22=>23 | 3=>3 | 4=>4 | 0=>0 | n=>n,fun | n=>n⟩
theorem Znu:Go.Proofs.Lays2.n21 Tryz.prog Zlb:={
 mixed:=by kernel_rfl
 f21:=Tryz.func212.trans (congrArg some (by kernel_rfl))
 f27:=Tryz.func223.trans (congrArg some (by kernel_rfl))
 f28:=Tryz.func224.trans (congrArg some (by kernel_rfl))
 f35:=Tryz.func229.trans (congrArg some (by kernel_rfl))
 f39:=Tryz.func232.trans (congrArg some (by kernel_rfl))
 t0:=Tryz.underlying0
 a0:=Tryz.isAgg0
 z0:=Tryz.sizeOf0
 v0:=Tryz.zeroValue0
 t3:=Tryz.underlying3
 a3:=Tryz.isAgg3
 z3:=Tryz.sizeOf3
 v3:=Tryz.zeroValue3
 t4:=Tryz.underlying4
 a4:=Tryz.isAgg4
 z4:=Tryz.sizeOf4
 v4:=Tryz.zeroValue4
 t22:=Tryz.underlying23
 a22:=Tryz.isAgg23
 z22:=Tryz.sizeOf23
 v22:=Tryz.zeroValue23
 i3:=by kernel_rfl }
def ZgY (cur:Array Value):Nat->List Value->Array Value
 | _,[]=>cur
 | o,v::r=>ZgY (cur.setIfInBounds o v) (o+1) r
theorem ZaC:∀ (vs:List Value) (o:Nat) (cur:Array Value),(ZgY cur o vs).size=cur.size
 | [],_,_=>rfl
 | v::r,o,cur=>by rw[ZgY,ZaC r];simp
theorem ZaV:∀ (vs:List Value) (o:Nat) (cur:Array Value) (j:Nat),j<cur.size->(ZgY cur o vs)[j]?=if o<=j∧j<o+vs.length then vs[j-o]? else cur[j]?
 | [],o,cur,j,_=>by
  rw[ZgY,if_neg (by rw[List.length_nil];omega)]
 | v::r,o,cur,j,hj=>by
  rw[ZgY,ZaV r (o+1) _ j (by simpa using hj)]
  by_cases h:j=o
  ·subst h
   rw[if_neg (by omega),if_pos (by simp)]
   simp[hj]
  ·by_cases h2:o+1<=j∧j<o+1+r.length
   ·rw[if_pos h2,if_pos (by simp;omega)]
    rw[show j-o=(j-(o+1))+1 by omega]
    simp
   ·rw[if_neg h2,if_neg (by simp;omega)]
    simp[show ¬ o=j by omega]
theorem ZaD (g:Nat) (t:TypeId):∀ (vs:List Value) (o:Nat) (w:World) (cur:Array Value),w.heap[g]?=some (.cells cur t (0,0))->(w.setCells g o vs).heap[g]?=some (.cells (ZgY cur o vs) t (0,0))
 | [],_,_,_,h=>h
 | v::r,o,w,cur,h=>by
  rw[World.setCells,ZgY]
  exact ZaD g t r (o+1) _ _ (heap_setCell_same w g o cur t v h)
theorem Zcf {B g:Nat} {a:World} (hg:B<=g):∀ (vs:List Value) (o:Nat) (w:World),Below B a w->Below B a (w.setCells g o vs)
 | [],_,_,h=>h
 | v::r,o,w,h=>by
  rw[World.setCells]
  exact Zcf hg r (o+1) _ (h.setCell hg v)
theorem Zjp {B:Nat} {a w:World} (h:Below B a w):Below B a w.drew:=⟨h.os,h.tape,h.output,h.size,h.block⟩
theorem Zax.ofRow {w:World} {B g cap:Nat} {cur:Array Value} {l:List Int} (hB:B<=g) (hg:w.heap[g]?=some (.cells cur 3 (0,0))) (hn:l.length<=cap) (hm:cap<=maxLen) (hs:cur.size=cap) (hc:∀ j,j<l.length->cur[j]?=some (.int .i64 (l.getD j 0))):
 Zax w B (.slice (some ⟨g,0,none⟩) l.length cap) l:=by
 refine⟨by rw[Zba,Nat.mul_one],.inr ⟨g,cap,cur,rfl,hB,hg,hn,hm,by rw[hs,Nat.mul_one],?_⟩⟩
 apply List.ext_getElem?
 intro j
 rw[Nat.mul_one]
 by_cases hj:j<l.length
 ·rw[List.getElem?_take_of_lt hj,Zbi l j hj,Array.getElem?_toList]
  exact hc j hj
 ·rw[List.getElem?_eq_none (by simp;omega),List.getElem?_eq_none (by rw[Zba];omega)]
theorem Zax.ofRowN {w:World} {B g cap n:Nat} {cur:Array Value} {l:List Int} (hnl:n=l.length) (hB:B<=g) (hg:w.heap[g]?=some (.cells cur 3 (0,0))) (hn:l.length<=cap) (hm:cap<=maxLen) (hs:cur.size=cap) (hc:∀ j,j<l.length->cur[j]?=some (.int .i64 (l.getD j 0))):
 Zax w B (.slice (some ⟨g,0,none⟩) n cap) l:=by
 subst hnl
 exact Zax.ofRow hB hg hn hm hs hc
theorem Zax.row {w:World} {B:Nat} {v:Value} {l:List Int} (h:Zax w B v l):(v=.slice none 0 0∧l=[])∨∃ g cap cur,v=.slice (some ⟨g,0,none⟩) l.length cap∧B<=g∧g<w.heap.size∧w.heap[g]?=some (.cells cur 3 (0,0))∧l.length<=cap∧cap<=maxLen∧cur.size=cap∧∀ j,j<l.length->cur[j]?=some (.int .i64 (l.getD j 0)):=by
 rcases h.2 with ⟨h1,h2⟩ | ⟨g,cap,cur,h1,h2,h3,h4,h5,h6,h7⟩
 ·exact .inl ⟨h1,List.eq_nil_of_length_eq_zero h2⟩
 ·refine .inr ⟨g,cap,cur,h1,h2,(Array.getElem?_eq_some_iff.1 h3).1,h3,h4,h5,by rw[h6,Nat.mul_one],fun j hj=>?_⟩
  have e:=Zbi l j hj
  rw[<-h7,Nat.mul_one,List.getElem?_take_of_lt hj,Array.getElem?_toList] at e
  exact e
theorem Zlc (w:World) (q:Nat):(w.drewN q).heap=w.heap:=by
 induction q generalizing w with
 | zero=>rfl
 | succ n ih=>exact ih _
structure Mv (w w':World) (v v':Value):Prop where
 grown:w.grownBy w' v.ownBlock
 lies:∀ b,v'.ownBlock=some b->v.ownBlock=some b∨w.heap.size<=b
theorem Mv.size {w w':World} {v v':Value} (h:Mv w w' v v'):w.heap.size<=w'.heap.size:=h.grown.size
theorem Mv.ofBelow {w w':World} (h:Below w.heap.size w w') (v:Value):Mv w w' v v:=⟨⟨h.os,h.tape,h.output,h.size,fun k hk _=>h.block k hk⟩,fun _ hb=>.inl hb⟩
theorem Mv.refl (w:World) (v:Value):Mv w w v v:=Mv.ofBelow (Below.refl _ _) v
theorem Mv.alloc (w:World) (v:Value) (X:Obj):Mv w (w.alloc X) v v:=Mv.ofBelow ((Below.refl _ _).alloc zL X) v
theorem Mv.trans {w w1 w2:World} {v v1 v2:Value} (h1:Mv w w1 v v1) (h2:Mv w1 w2 v1 v2):Mv w w2 v v2:=by
 have hs:=h1.size
 refine⟨⟨h2.grown.os.trans h1.grown.os,h2.grown.tape.trans h1.grown.tape,h2.grown.output.trans h1.grown.output,Nat.le_trans hs h2.size,fun k hk hne=>?_⟩,fun b hb=>?_⟩
 ·rw[h2.grown.block k (by omega) (fun e=>?_)]
  ·exact h1.grown.block k hk hne
  ·rcases h1.lies k e.symm with h | h
   ·exact hne h.symm
   ·omega
 ·rcases h2.lies b hb with h | h
  ·exact h1.lies b h
  ·exact .inr (by omega)
theorem Mv.drew {w w':World} {v v':Value} (h:Mv w w' v v'):Mv w w'.drew v v':=⟨⟨h.grown.os,h.grown.tape,h.grown.output,h.grown.size,h.grown.block⟩,h.lies⟩
theorem Mv.below {w w':World} {v v':Value} (h:Mv w w' v v') {B:Nat} {l:List Int} (ho:Zax w B v l) (hB:B<=w.heap.size):Below B w w':=
 ⟨h.grown.os,h.grown.tape,h.grown.output,h.size,fun k hk=>h.grown.block k (by omega) (fun e=>by have:=(World.ownsRow.lt ho k e.symm).1;omega)⟩
theorem Mv.app {w w':World} {v v':Value} {N:Nat} (h:w.grownBy w' v.ownBlock) (hN:w.heap.size=N) (h2:v'.ownBlock=v.ownBlock∨∃ g,v'.ownBlock=some g∧N<=g):Mv w w' v v':=by
 refine⟨h,fun b hb=>?_⟩
 rcases h2 with h2 | ⟨g,h2,h3⟩
 ·exact .inl (by rw[<-h2];exact hb)
 ·rw[h2] at hb
  injection hb with hb
  exact .inr (by omega)
theorem ZcG (g:Nat):∀ (vs:List Value) (o:Nat) (w:World) (k:Nat),k≠g->(w.setCells g o vs).heap[k]?=w.heap[k]?
 | [],_,_,_,_=>rfl
 | v::r,o,w,k,h=>by
  rw[World.setCells,ZcG g r (o+1) _ k h]
  exact Below.heap_setCell _ _ _ _ h
theorem Mv.cells {w w':World} {v:Value} {g n c n' c':Nat} (h:Mv w w' v (.slice (some ⟨g,0,none⟩) n c)) (o:Nat) (vs:List Value):Mv w (w'.setCells g o vs) v (.slice (some ⟨g,0,none⟩) n' c'):=by
 have hb:=Zcf (B:=0) (g:=g) (a:=w') (Nat.zero_le _) vs o w' (Below.refl _ _)
 refine⟨⟨hb.os.trans h.grown.os,hb.tape.trans h.grown.tape,hb.output.trans h.grown.output,Nat.le_trans h.size hb.size,fun k hk hne=>?_⟩,fun b hb=>h.lies b hb⟩
 rw[ZcG g vs o w' k (fun e=>?_)]
 ·exact h.grown.block k hk hne
 ·rcases h.lies g rfl with h' | h'
  ·exact hne (by rw[e,h'])
  ·omega
theorem Mv.made {w w':World} {v v0:Value} (h:Mv w w' v v0) (X:Obj) (n c:Nat):Mv w (w'.alloc X) v (.slice (some ⟨w'.heap.size,0,none⟩) n c):=by
 have hb:=(Below.refl w'.heap.size w').alloc zL X
 refine⟨⟨hb.os.trans h.grown.os,hb.tape.trans h.grown.tape,hb.output.trans h.grown.output,Nat.le_trans h.size hb.size,fun k hk hne=>?_⟩,fun b hb=>.inr ?_⟩
 ·rw[hb.block k (by have:=h.size;omega)]
  exact h.grown.block k hk hne
 ·have:=ZoK hb
  have:=h.size
  omega
theorem Mv.drewN {w w':World} {v v':Value} (h:Mv w w' v v') (q:Nat):Mv w (w'.drewN q) v v':=by
 have hb:=Zaz (Below.refl 0 w') q
 exact⟨⟨hb.os.trans h.grown.os,hb.tape.trans h.grown.tape,hb.output.trans h.grown.output,Nat.le_trans h.size hb.size,fun k hk hne=>by rw[Zlc];exact h.grown.block k hk hne⟩,h.lies⟩
theorem Zax.put {w:World} {B:Nat} {v:Value} {l:List Int} (h:Zax w B v l) (j:Nat) (hj:j<l.length) (n:Int):
 ∃ g cap,v=.slice (some ⟨g,0,none⟩) l.length cap∧w.cell? ⟨g,j,none⟩=some (.int .i64 (l.getD j 0))∧w.frozen? ⟨g,j,none⟩=false∧B<=g∧g<w.heap.size∧Zax (w.setCell ⟨g,j,none⟩ (.int .i64 n)) B v (l.set j n)∧Mv w (w.setCell ⟨g,j,none⟩ (.int .i64 n)) v v:=by
 rcases h.row with ⟨_,h2⟩ | ⟨g,cap,cur,rfl,h2,hlt,h3,h4,h5,h6,h7⟩
 ·subst h2;simp at hj
 ·refine⟨g,cap,rfl,?_,frozen_of_row w g j _ _ h3,h2,hlt,?_,(Mv.refl w (.slice (some ⟨g,0,none⟩) l.length cap)).cells j [_]⟩
  ·rw[cell_of_row w g j _ _ _ h3]
   exact h7 j hj
  ·have e:l.length=(l.set j n).length:=by simp
   rw[e]
   refine Zax.ofRow h2 (heap_setCell_same w g j _ _ _ h3) (by rw[<-e];exact h4) h5 (by simpa using h6) (fun i hi=>?_)
   rw[<-e] at hi
   by_cases hij:i=j
   ·subst hij
    have:i<cur.size:=by omega
    simp[this,List.getD,hi]
   ·have hne:¬ j=i:=fun h=>hij h.symm
    have:=h7 i hi
    simp[hne,this,List.getD]
theorem Zhq (v:Value) (l:List Int) (w:World) (hr:RdI w v l) (hlim:l.length<=1000000):
 Calls Tryz.prog 39 #[v] w fun e w'=>∃ v',e=.returned v'∧Zax w' w.heap.size v' l∧Below w.heap.size w w':=by
 obtain⟨ao,cap,rfl,hlc,hcm,hn0,hi,hao⟩:=hr
 cases ao with
 | none=>
  have hc:=hn0 rfl
  have hl:l=[]:=List.eq_nil_of_length_eq_zero (by omega)
  subst hl
  refine Calls.mono (Any.slices_Clone_int_nil Zuf _ cap w) ?_
  rintro e w' ⟨rfl,rfl⟩
  exact⟨_,rfl,Zax.nil _ _,Below.refl _ _⟩
 | some a=>
  by_cases hl:l=[]
  ·subst hl
   refine Calls.mono (Any.slices_Clone_int_zero Zuf a cap w) ?_
   rintro e w' ⟨v',rfl,ho,_,hb⟩
   exact⟨v',rfl,ho,hb⟩
  ·rcases hao with hao | ⟨b,off,hab,hc⟩
   ·exact absurd hao hl
   ·injection hab with hab
    subst hab
    refine Calls.mono (Any.slices_Clone_int Zuf b off l.length cap l w zL (by omega) hc) ?_
    rintro e w' ⟨v',rfl,ho,_,hb⟩
    refine⟨v',rfl,?_,hb⟩
    rw[List.take_length] at ho
    exact ho
theorem ZrK (va:Value) (A:List Int) (vb:Value) (B:List Int) (w:World) (ha:RdI w va A) (hb:RdI w vb B):
 Calls Tryz.prog 89 #[va,vb] w fun e w'=>e=.returned (.bool (decide (A=B)))∧Below w.heap.size w w':=by
 obtain⟨ao,cap,rfl,hlc,hcm,hn0,hi,hao⟩:=ha
 obtain⟨bo,bcap,rfl,hlc',hcm',hn0',hi',hbo⟩:=hb
 by_cases hl:A.length=B.length
 ·by_cases h0:A.length=0
  ·have hA:A=[]:=List.eq_nil_of_length_eq_zero h0
   have hB:B=[]:=List.eq_nil_of_length_eq_zero (by omega)
   subst hA
   subst hB
   refine Calls.mono (Any.slices_Equal_int_empty Zzi ao bo cap 0 bcap w (by omega)) ?_
   rintro e w' ⟨rfl,rfl⟩
   exact⟨rfl,Below.refl _ _⟩
  ·rcases hao with hao | ⟨b1,o1,rfl,hc1⟩
   ·rw[hao] at h0;simp at h0
   rcases hbo with hbo | ⟨b2,o2,rfl,hc2⟩
   ·have e0:B.length=0:=by rw[hbo];rfl
    omega
   have hcm1:cap<=9223372036854775807:=by unfold maxLen at hcm;omega
   have hcm2:bcap<=9223372036854775807:=by unfold maxLen at hcm';omega
   refine Calls.mono (Any.slices_Equal_int Zzi b1 o1 A.length cap b2 o2 B.length bcap A B w zL zL (by omega) (by omega) hc1 hc2) ?_
   rintro e w' ⟨rfl,q,rfl⟩
   refine⟨?_,Zaz (Below.refl _ _) q⟩
   rw[List.take_length,List.take_length]
   by_cases h:A=B
   ·rw[decide_eq_true h,beq_iff_eq.2 h]
   ·rw[decide_eq_false h,beq_eq_false_iff_ne.2 h]
 ·refine Calls.mono (Any.slices_Equal_int_lens Zzi ao bo A.length cap B.length bcap w hl) ?_
  rintro e w' ⟨rfl,rfl⟩
  exact⟨by rw[decide_eq_false (fun h=>hl (by rw[h]))],Below.refl _ _⟩
theorem Zjq (v:Value) (l:List Int) (B:Nat) (w:World) (ho:Zax w B v l) (i j:Nat) (hij:i<j) (hj:j<=l.length) (I J:Int) (hI:I=i) (hJ:J=j):
 Calls Tryz.prog 210 #[v,.int .i64 I,.int .i64 J] w fun e w'=>∃ v',e=.returned v'∧Zax w' B v' (l.take i++l.drop j)∧Mv w w' v v':=by
 subst hI
 subst hJ
 rcases ho.row with ⟨_,h2⟩ | ⟨g,cap,cur,rfl,hB,hlt,hg,hn,hm,hs,hc⟩
 ·subst h2;simp at hj;omega
 ·unfold maxLen at hm
  refine Calls.mono (Any.slices_Delete_int_cells Zyy g 0 l.length cap i j l w zL hn (by omega) (by omega) hj
   (fun k hk=>by rw[Nat.zero_add,cell_of_row w g k _ _ _ hg];exact hc k hk) (fun k hk=>by rw[Nat.zero_add];exact frozen_of_row w g k _ _ hg)) ?_
  rintro e w' ⟨rfl,q,rfl⟩
  refine⟨_,rfl,?_,((Mv.refl w (.slice (some ⟨g,0,none⟩) l.length cap)).drewN q).cells _ _⟩
  have hlen:(l.take i++l.drop j).length=l.length-(j-i):=by simp;omega
  rw[<-hlen]
  refine Zax.ofRow hB (ZaD g _ _ _ _ cur (by rw[Zlc];exact hg)) (by omega) (by unfold maxLen;omega) (by rw[ZaC];exact hs) (fun k hk=>?_)
  rw[ZaV _ _ _ _ (by omega),List.take_length,if_pos (by simp at hk ⊢;omega),Nat.sub_zero,List.map_append,List.getElem?_append_left (by simpa using hk)]
  exact Zbi _ k hk
theorem get3 {α:Type} (A vs:List α) (i:Nat) (hi:i<=A.length) (j:Nat):(A.take i++(vs++A.drop i))[j]?=if j<i then A[j]? else if j<i+vs.length then vs[j-i]? else A[j-vs.length]?:=by
 have hl:(A.take i).length=i:=by simp;omega
 by_cases h1:j<i
 ·rw[if_pos h1,List.getElem?_append_left (by omega),List.getElem?_take_of_lt h1]
 ·rw[if_neg h1,List.getElem?_append_right (by omega),hl]
  by_cases h2:j<i+vs.length
  ·rw[if_pos h2,List.getElem?_append_left (by omega)]
  ·rw[if_neg h2,List.getElem?_append_right (by omega),List.getElem?_drop]
   congr 1
   omega
theorem Zfa (A B:List Int):Zak (A++B)=Zak A++Zak B:=by simp[Zak]
theorem ZlZ (A:List Int) (i:Nat):Zak (A.take i)=(Zak A).take i:=by simp[Zak]
theorem Zma (A:List Int) (i:Nat):Zak (A.drop i)=(Zak A).drop i:=by simp[Zak]
theorem Zgz (l:List Int) (i:Nat) (hi:i<=l.length) (x y:Int) (j:Nat) (hj:j<(l.take i++([x,y]++l.drop i)).length):
 some (.int .i64 ((l.take i++([x,y]++l.drop i)).getD j 0))=if j<i then(Zak l)[j]? else if j<i+2 then[Value.int .i64 x,.int .i64 y][j-i]? else(Zak l)[j-2]?:=by
 rw[<-Zbi _ j hj,Zfa,Zfa,ZlZ,Zma]
 exact get3 (Zak l) (Zak [x,y]) i (by rw[Zba];exact hi) j
theorem Zpm (v:Value) (l:List Int) (B:Nat) (w:World) (ho:Zax w B v l) (hB:B<=w.heap.size) (hlim:l.length<=1000000) (i:Nat) (hi:i<=l.length) (I:Int) (hI:I=i) (x y:Int) (N:Nat) (hN:N=w.heap.size):
 Calls Tryz.prog 212 #[v,.int .i64 I,.slice (some ⟨N,0,none⟩) 2 2] (w.alloc (.cells #[.int .i64 x,.int .i64 y] 3)) fun e w'=>∃ v',e=.returned v'∧Zax w' B v' (l.take i++([x,y]++l.drop i))∧Mv w w' v v':=by
 subst hI
 subst hN
 have hm0:Mv w (w.alloc (.cells #[.int .i64 x,.int .i64 y] 3)) v v:=Mv.alloc w v _
 have hv:=heap_alloc_new w (.cells #[.int .i64 x,.int .i64 y] 3)
 have hsz:(w.alloc (.cells #[.int .i64 x,.int .i64 y] 3)).heap.size=w.heap.size+1:=by simp
 have hg0:∀ k,k<w.heap.size->(w.alloc (.cells #[.int .i64 x,.int .i64 y] 3)).heap[k]?=w.heap[k]?:=fun k hk=>Below.heap_alloc _ _ _ hk
 generalize w.alloc (.cells #[.int .i64 x,.int .i64 y] 3)=W at *
 have hlen:(l.take i++([x,y]++l.drop i)).length=l.length+2:=by simp;omega
 have hvs:∀ j u,[Value.int .i64 x,.int .i64 y][j]?=some u->W.cell? ⟨w.heap.size,0+j,none⟩=some u:=fun j u hu=>by
  rw[Nat.zero_add,cell_of_row W w.heap.size j _ _ _ hv]
  simpa using hu
 have h1v:∀ u ∈ [Value.int .i64 x,.int .i64 y],u.oneCell'=true:=fun u hu=>by
  simp at hu
  rcases hu with rfl | rfl <;> rfl
 have hcl:=Zba l
 have h1c:=ZmO l
 have hz:(Value.int .i64 0).cells.size=1:=rfl
 have e3:Zlb.t 3=3:=rfl
 rcases ho.row with ⟨rfl,rfl⟩ | ⟨g,cap,cur,rfl,hBg,hlt,hg,hn,hm,hs,hc⟩
 ·have hi0:i=0:=by simpa using hi
  subst hi0
  refine Calls.mono (Any2.slices_Insert_int_end_grow Znu none 0 0 w.heap.size 0 2 2 [] [.int .i64 x,.int .i64 y] W (by omega) (by omega) (by omega) (by omega) rfl rfl (fun _=>rfl) (fun a ha=>by cases ha) hvs h1v) ?_
  rintro e w' ⟨rfl,rfl⟩
  rw[e3]
  have hge:=grownCap_ge W (0+2) 0 3
  have hle:=grownCap_le_maxLen W (0+2) 0 3 (by unfold maxLen;omega)
  refine⟨_,rfl,?_,hm0.drew.made _ _ _⟩
  have e2:0+2=([x,y]:List Int).length:=rfl
  show Zax _ B (.slice (some ⟨W.heap.size,0,none⟩) (0+2) (grownCap W (0+2) 0 3)) [x,y]
  generalize grownCap W (0+2) 0 3=gc at *
  exact Zax.ofRow (by omega) (heap_alloc_new W.drew _) hge hle (by simp[size_zeroCells,hz];omega) (fun j hj=>by
   have hj':j=0∨j=1:=by simp at hj;omega
   rcases hj' with rfl | rfl <;> (rw[Array.getElem?_append_left (by simp)];rfl))
 ·have hgW:W.heap[g]?=some (.cells cur 3 (0,0)):=(hg0 g hlt).trans hg
  have hcs:∀ j u,(Zak l)[j]?=some u->W.cell? ⟨g,0+j,none⟩=some u:=fun j u hu=>by
   have hj:j<l.length:=by rw[<-hcl];exact(List.getElem?_eq_some_iff.1 hu).1
   rw[Nat.zero_add,cell_of_row W g j _ _ _ hgW,hc j hj,<-Zbi l j hj,hu]
  have hcurj:∀ j,j<l.length->cur[j]?=(Zak l)[j]?:=fun j hj=>by rw[hc j hj,Zbi l j hj]
  have hm':cap<=9223372036854775807:=by unfold maxLen at hm;omega
  by_cases hroom:l.length+2<=cap
  ·have hsp:∀ j,j<l.length+2->(W.cell? ⟨g,0+j,none⟩).isSome=true:=fun j hj=>by
    rw[Nat.zero_add,cell_of_row W g j _ _ _ hgW,Array.getElem?_eq_getElem (by omega)]
    rfl
   have hfz:∀ j,j<l.length+2->W.frozen? ⟨g,0+j,none⟩=false:=fun j hj=>frozen_of_row W g _ _ _ hgW
   by_cases he:i=l.length
   ·subst he
    refine Calls.mono (Any2.slices_Insert_int_end_room Znu g 0 l.length cap w.heap.size 0 2 2 [.int .i64 x,.int .i64 y] W (by omega) hroom hm' rfl
     (fun j hj=>by rw[Nat.add_assoc];exact hsp _ (by omega)) (fun j hj=>by rw[Nat.add_assoc];exact hfz _ (by omega)) hvs h1v) ?_
    rintro e w' ⟨rfl,rfl⟩
    refine⟨_,rfl,?_,hm0.cells _ _⟩
    rw[<-hlen]
    refine Zax.ofRow hBg (ZaD g _ _ _ _ cur hgW) (by omega) hm (by rw[ZaC];exact hs) (fun j hj=>?_)
    rw[ZaV _ _ _ _ (by omega),Zgz l l.length zL x y j hj,Nat.zero_add]
    rw[hlen] at hj
    by_cases h1:j<l.length
    ·rw[if_neg (by omega),if_pos h1,hcurj j h1]
    ·rw[if_pos (by simp;omega),if_neg h1,if_pos (by omega)]
   ·refine Calls.mono (Any2.slices_Insert_int_shift Znu g 0 l.length cap i w.heap.size 0 2 2 (Zak l) [.int .i64 x,.int .i64 y] W (by omega) (by omega) hroom hm' (by omega) hcl rfl hcs hsp hfz hvs h1c h1v
     3 3 2 cap (by simp[World.shape?,hv]) (by simp[World.shape?,hgW,hs]) (by omega) (frozen_of_row W _ _ _ _ hv) (frozen_of_row W _ _ _ _ hv)) ?_
    rintro e w' ⟨rfl,rfl⟩
    refine⟨_,rfl,?_,(Mv.cells (n':=0) (c':=0) hm0.drew _ _).cells _ _⟩
    rw[<-hlen]
    refine Zax.ofRow hBg (ZaD g _ _ _ _ _ (ZaD g _ _ _ _ cur hgW)) (by omega) hm (by rw[ZaC,ZaC];exact hs) (fun j hj=>?_)
    rw[ZaV _ _ _ _ (by rw[ZaC];omega),ZaV _ _ _ _ (by omega),Zgz l i hi x y j hj,Nat.zero_add,Nat.zero_add]
    rw[hlen] at hj
    have hdl:((Zak l).drop i).length=l.length-i:=by simp[Zak]
    rw[hdl]
    by_cases h1:j<i
    ·rw[if_neg (by omega),if_neg (by omega),if_pos h1,hcurj j (by omega)]
    ·by_cases h2:j<i+2
     ·rw[if_pos (by simp;omega),if_neg h1,if_pos h2]
     ·rw[if_neg (by simp;omega),if_pos (by omega),if_neg h1,if_neg h2,List.getElem?_drop]
      congr 1
      omega
  ·by_cases he:i=l.length
   ·subst he
    refine Calls.mono (Any2.slices_Insert_int_end_grow Znu (some ⟨g,0,none⟩) l.length cap w.heap.size 0 2 2 (Zak l) [.int .i64 x,.int .i64 y] W (by omega) hn (by omega) (by omega) hcl rfl (fun h=>by cases h)
     (fun a ha j u hu=>by injection ha with ha;subst ha;rw[Addr.add_lit];exact hcs j u hu) hvs h1v) ?_
    rintro e w' ⟨rfl,rfl⟩
    rw[e3]
    have hge:=grownCap_ge W (l.length+2) cap 3
    have hle:=grownCap_le_maxLen W (l.length+2) cap 3 (by unfold maxLen;omega)
    refine⟨_,rfl,?_,hm0.drew.made _ _ _⟩
    show Zax _ B (.slice (some ⟨W.heap.size,0,none⟩) (l.length+2) (grownCap W (l.length+2) cap 3)) _
    generalize grownCap W (l.length+2) cap 3=gc at *
    rw[<-hlen]
    refine Zax.ofRow (by omega) (heap_alloc_new W.drew _) (by omega) hle (by simp[size_zeroCells,hz,hcl];omega) (fun j hj=>?_)
    rw[Zgz l l.length zL x y j hj]
    rw[hlen] at hj
    rw[Array.getElem?_append_left (by simp[hcl];omega),List.getElem?_toArray]
    by_cases h1:j<l.length
    ·rw[if_pos h1,List.getElem?_append_left (by omega)]
    ·rw[if_neg h1,if_pos (by omega),List.getElem?_append_right (by omega),hcl]
   ·refine Calls.mono (Any2.slices_Insert_int_grow Znu g 0 l.length cap i w.heap.size 0 2 2 (Zak l) [.int .i64 x,.int .i64 y] W (by omega) (by omega) hn (by omega) (by omega) hcl rfl hcs hvs h1c h1v) ?_
    rintro e w' ⟨rfl,rfl⟩
    rw[e3]
    have hge:=grownCap_ge W (l.length+2) cap 3
    have hle:=grownCap_le_maxLen W (l.length+2) cap 3 (by unfold maxLen;omega)
    refine⟨_,rfl,?_,((hm0.made _ 0 0).drew.cells (n':=0) (c':=0) _ _).drew.cells _ _⟩
    show Zax _ B (.slice (some ⟨W.heap.size,0,none⟩) (l.length+2) (grownCap W (l.length+2) cap 3)) _
    generalize grownCap W (l.length+2) cap 3=gc at *
    have hti:((Zak l).take i).length=i:=by simp[hcl];omega
    have hdl:((Zak l).drop i).length=l.length-i:=by simp[Zak]
    refine Zax.ofRowN hlen.symm (cur:=ZgY (ZgY (((Zak l).take i).toArray++Builtin.zeroCells (Value.int .i64 0).cells (l.length+2-i)++Builtin.zeroCells (Value.int .i64 0).cells (gc-(l.length+2))) i [.int .i64 x,.int .i64 y]) (i+2) ((Zak l).drop i)) (by omega) (ZaD _ _ _ _ _ _ (ZaD _ _ _ _ _ _ (heap_alloc_new W _))) (by omega) hle ?_ (fun j hj=>?_)
    ·rw[ZaC,ZaC]
     simp[size_zeroCells,hz,hti]
     omega
    ·rw[Zgz l i hi x y j hj]
     rw[hlen] at hj
     have hcs1:(((Zak l).take i).toArray++Builtin.zeroCells (Value.int .i64 0).cells (l.length+2-i)++Builtin.zeroCells (Value.int .i64 0).cells (gc-(l.length+2))).size=gc:=by
      simp[size_zeroCells,hz,hti]
      omega
     rw[ZaV _ _ _ _ (by rw[ZaC];omega),ZaV _ _ _ _ (by omega),hdl]
     by_cases h1:j<i
     ·rw[if_neg (by omega),if_neg (by omega),if_pos h1,Array.getElem?_append_left (by simp[size_zeroCells,hz,hti];omega),Array.getElem?_append_left (by simp[hti];omega),List.getElem?_toArray,List.getElem?_take_of_lt h1]
     ·by_cases h2:j<i+2
      ·rw[if_neg (by omega),if_pos (by simp;omega),if_neg h1,if_pos h2]
      ·rw[if_pos (by omega),if_neg h1,if_neg h2,List.getElem?_drop]
       congr 1
       omega
theorem Zbh.row {w:World} {B:Nat} {v:Value} {l:List Ent} (h:Zbh w B v l):(v=.slice none 0 0∧l=[])∨
 ∃ g cap cur,v=.slice (some ⟨g,0,none⟩) l.length cap∧B<=g∧g<w.heap.size∧w.heap[g]?=some (.cells cur 85 (0,0))∧l.length<=cap∧cap<=maxLen∧cur.size=cap*3∧∀ j,j<l.length*3->cur[j]?=(Zae l)[j]?:=by
 rcases h.2 with ⟨hv,hn⟩ | ⟨g,cap,cur,hv,hb,hg,hnc,hcm,hcs,htake⟩
 ·have e:l=[]:=List.eq_nil_of_length_eq_zero hn
  subst e
  exact .inl ⟨hv,rfl⟩
 ·refine .inr ⟨g,cap,cur,hv,hb,(Array.getElem?_eq_some_iff.1 hg).1,hg,hnc,hcm,hcs,fun j hj=>?_⟩
  rw[<-htake,List.getElem?_take_of_lt hj,Array.getElem?_toList]
theorem Zbh.ofRow {w:World} {B g cap n:Nat} {cur:Array Value} {l:List Ent} (hn:n=l.length) (hB:B<=g) (hg:w.heap[g]?=some (.cells cur 85 (0,0))) (hc:l.length<=cap) (hm:cap<=maxLen) (hs:cur.size=cap*3) (hcell:∀ j,j<l.length*3->cur[j]?=(Zae l)[j]?):
 Zbh w B (.slice (some ⟨g,0,none⟩) n cap) l:=by
 subst hn
 refine⟨by rw[Zat],.inr ⟨g,cap,cur,rfl,hB,hg,hc,hm,hs,?_⟩⟩
 apply List.ext_getElem?
 intro j
 by_cases hj:j<l.length*3
 ·rw[List.getElem?_take_of_lt hj,Array.getElem?_toList]
  exact hcell j hj
 ·rw[List.getElem?_eq_none (by simp;omega),List.getElem?_eq_none (by rw[Zat];omega)]
theorem Zbh.empty (w:World) (B:Nat) (hB:B<=w.heap.size):Zbh (w.alloc (.cells #[] 85)) B (.slice (some ⟨w.heap.size,0,none⟩) 0 0) []:=
 Zbh.ofRow (l:=[]) rfl hB (heap_alloc_new w _) zL (Nat.zero_le _) rfl (fun j hj=>absurd hj (by simp))
theorem Zew:∀ (l:List Ent) (i:Nat),Zae (l.take i)=(Zae l).take (i*3)
 | l,0=>by simp[Zae]
 | [],i+1=>by simp[Zae]
 | x::t,i+1=>by
  rw[List.take_succ_cons,show(i+1)*3=i*3+1+1+1 by omega]
  show Value.int .i64 x.proc::.int .i64 x.seq::.int .i64 x.resp::Zae (t.take i)=(Value.int .i64 x.proc::.int .i64 x.seq::.int .i64 x.resp::Zae t).take (i*3+1+1+1)
  rw[Zew t i]
  rfl
theorem Zex:∀ (l:List Ent) (i:Nat),Zae (l.drop i)=(Zae l).drop (i*3)
 | l,0=>by simp
 | [],i+1=>by simp[Zae]
 | x::t,i+1=>by
  rw[List.drop_succ_cons,show(i+1)*3=i*3+1+1+1 by omega]
  show Zae (t.drop i)=(Value.int .i64 x.proc::.int .i64 x.seq::.int .i64 x.resp::Zae t).drop (i*3+1+1+1)
  rw[Zex t i]
  rfl
theorem Zbh.cut {w:World} {B g n cap:Nat} {l:List Ent} (h:Zbh w B (.slice (some ⟨g,0,none⟩) n cap) l) (i:Nat) (hi:i<=l.length):Zbh w B (.slice (some ⟨g,0,none⟩) i cap) (l.take i):=by
 rcases h.row with ⟨h1,-⟩ | ⟨g',cap',cur,h1,hB,hlt,hg,hc,hm,hs,hcell⟩
 ·cases h1
 ·injection h1 with h1 h2 h3
  injection h1 with h1
  injection h1 with h1
  subst h1 h3
  exact Zbh.ofRow (by rw[List.length_take];omega) hB hg (by rw[List.length_take];omega) hm hs (fun j hj=>by
   rw[List.length_take] at hj
   rw[hcell j (by omega),Zew,List.getElem?_take_of_lt (by omega)])
theorem Zbh.cells {w:World} {B g n cap:Nat} {l:List Ent} (h:Zbh w B (.slice (some ⟨g,0,none⟩) n cap) l) (o:Nat) (ho:l.length*3<=o) (vs:List Value):Zbh (w.setCells g o vs) B (.slice (some ⟨g,0,none⟩) n cap) l:=by
 rcases h.row with ⟨h1,-⟩ | ⟨g',cap',cur,h1,hB,hlt,hg,hc,hm,hs,hcell⟩
 ·cases h1
 ·injection h1 with h1 h2 h3
  injection h1 with h1
  injection h1 with h1
  subst h1 h3
  exact Zbh.ofRow h2 hB (ZaD g _ vs o w cur hg) hc hm (by rw[ZaC];exact hs) (fun j hj=>by
   rw[ZaV _ _ _ _ (by omega),if_neg (by omega)]
   exact hcell j hj)
theorem Zbh.put {w:World} {B g n cap:Nat} {l:List Ent} (h:Zbh w B (.slice (some ⟨g,0,none⟩) n cap) l) (i:Nat) (hi:i<l.length) (e:Ent):Zbh (w.setCells g (i*3) (Zae [e])) B (.slice (some ⟨g,0,none⟩) n cap) (l.set i e):=by
 rcases h.row with ⟨h1,-⟩ | ⟨g',cap',cur,h1,hB,hlt,hg,hc,hm,hs,hcell⟩
 ·cases h1
 ·injection h1 with h1 h2 h3
  injection h1 with h1
  injection h1 with h1
  subst h1 h3
  have hl3:(Zae [e]).length=3:=Zat [e]
  refine Zbh.ofRow (by rw[List.length_set];exact h2) hB (ZaD g _ _ _ w cur hg) (by rw[List.length_set];exact hc) hm (by rw[ZaC];exact hs) (fun j hj=>?_)
  rw[List.length_set] at hj
  obtain⟨q,k,hk,rfl⟩:∃ q k,k<3∧j=q*3+k:=⟨j / 3,j % 3,Nat.mod_lt _ (by decide),by omega⟩
  rw[ZaV _ _ _ _ (by omega),hl3,Zbj (l.set i e) q k (by rw[List.length_set];omega) hk]
  by_cases hq:q=i
  ·subst hq
   rw[if_pos (by omega),show q*3+k-q*3=0*3+k by omega,Zbj [e] 0 k (by simp) hk]
   congr 2
   simp[List.getD,hi]
  ·rw[if_neg (by omega),hcell _ (by omega),Zbj l q k (by omega) hk]
   congr 2
   have:¬ i=q:=fun h=>hq h.symm
   simp[List.getD,this]
theorem RdE.cells {w:World} {a:Addr} {n cap:Nat} {l:List Ent} (h:RdE w (.slice (some a) n cap) l):∀ j u,(Zae l)[j]?=some u->w.cell? (a.add j)=some u:=by
 obtain⟨ao,c,h1,h2,h3,hn,hw,h4⟩:=h
 injection h1 with h1 _ _
 subst h1
 intro j u hu
 have hj:j<l.length*3:=by rw[<-Zat];exact(List.getElem?_eq_some_iff.1 hu).1
 rcases h4 with h4 | ⟨b,off,h5,h6⟩
 ·rw[h4] at hj
  simp at hj
 ·injection h5 with h5
  subst h5
  obtain⟨q,k,hk,rfl⟩:∃ q k,k<3∧j=q*3+k:=⟨j / 3,j % 3,Nat.mod_lt _ (by decide),by omega⟩
  rw[Zbj l q k (by omega) hk] at hu
  obtain⟨c0,c1,c2⟩:=h6 q (by omega)
  rw[Addr.add_lit,<-Nat.add_assoc]
  match k,hk with
  | 0,_=>exact c0.trans hu
  | 1,_=>exact c1.trans hu
  | 2,_=>exact c2.trans hu
theorem Zjr (w:World) (ty:TypeId) (B:Nat) (v:Value) (l:List Ent) (h:Zbh w B v l) (vx:Value) (m:List Ent) (hr:RdE w vx m) (hlim:l.length+m.length<=1000000) (hbase:B<=w.heap.size):
 ∃ v' w',(Builtin.append_ #[39,39] ty #[v,vx]).run Tryz.prog w=.ok v' w'∧Zbh w' B v' (l++m)∧Below B w w':=by
 obtain⟨i0,hi,hz0,hz1,hz2⟩:=info_parts Zis
 have hr':=hr
 obtain⟨ao,cap,rfl,hlc,hcm,hn0,hw,hao⟩:=hr
 cases ao with
 | none=>
  have hc:=hn0 rfl
  subst hc
  have hl:m=[]:=List.eq_nil_of_length_eq_zero (by omega)
  subst hl
  have hrun:=run_append_owned_none (P:=Tryz.prog) w B 39 ty 85 i0 3 Tryz.underlying39 hi v l.length (Zae l) h
  exact⟨v,w,hrun,by rw[List.append_nil];exact h,Below.refl _ _⟩
 | some a=>
  obtain⟨v',w',hrun,ho,hg,_⟩:=run_append_own (P:=Tryz.prog) w B 39 ty 85 i0 _ 3 24 Tryz.underlying39 hi hz0 hz1 hz2 rfl (by decide) v l.length (Zae l) h
   a m.length cap (Zae m) (Zat m) hr'.cells (Zce m) (by unfold maxLen;omega) (by omega) hbase
  refine⟨v',w',hrun,?_,?_⟩
  ·unfold Zbh
   rw[List.length_append,ZcO]
   exact ho
  ·exact(Below.refl _ _).grown hg hbase (fun k hk=>(World.ownsRow.lt h k hk).1)
theorem Zcs (w:World) {ops:Array Oper} {rest:List Oper} {o:Oper} {a:Act} {Q:Exit->Act->World->Prop} (hgd:o.guard=none) (s x:Operand)
 (ho:o.op=.call { callee:=.builtin .append,args:=#[s,x],argTypes:=#[39,39] })
 (B:Nat) (v:Value) (l:List Ent) (hs:a.eval s=v) (hown:Zbh w B v l) (vx:Value) (m:List Ent) (hx:a.eval x=vx) (hr:RdE w vx m)
 (hlim:l.length+m.length<=1000000) (hbase:B<=w.heap.size)
 (h:∀ v' w',Zbh w' B v' (l++m)->Below B w w'->wpList Tryz.prog ops Q rest (a.put o.dst v') w'):wpList Tryz.prog ops Q (o::rest) a w:=
 wpList_plain hgd fun _ hK=>by
  obtain⟨v',w',hrun,h2,h3⟩:=Zjr w o.type B v l hown vx m hr hlim hbase
  unfold Oper.wp execOp
  simp only [ho,resolve,invoke,builtin,Sem.run_bind,Sem.run_pure,Result.andThen_ok,List.map_toArray,List.map_cons,List.map_nil,hs,hx,hrun]
  exact hK _ _ (h v' w' h2 h3)
theorem Zhr (v:Value) (l:List Ent) (w:World) (hr:RdE w v l) (hlim:l.length<=1000000):
 Calls Tryz.prog 40 #[v] w fun e w'=>∃ v',e=.returned v'∧Zbh w' w.heap.size v' l∧Below w.heap.size w w':=by
 have HR:=ZZ hr
 obtain⟨ao,cap,rfl,hlc,-,hn,-⟩:=hr
 cases ao with
 | none=>
  obtain rfl:cap=0:=hn rfl
  obtain rfl:l=[]:=List.eq_nil_of_length_eq_zero (by omega)
  clear hn hlc
  have hnil:∀ w,(binOp .eql 39 (.slice none 0 0) (.slice none 0 0)).run Tryz.prog w=.ok (.bool true) w:=fun w=>run_eql_slice_nil w _ _ none 0 0 Tryz.underlying39
  go_enter Tryz.func40,Tryz.ntmps40
  go_wp2
  go_ret
  exact⟨_,rfl,Zbh.nil _ _,Below.refl _ _⟩
 | some a=>
  clear hn
  have hnil:∀ w,(binOp .eql 39 (.slice (some a) l.length cap) (.slice none 0 0)).run Tryz.prog w=.ok (.bool false) w:=fun w=>run_eql_slice_nil w _ _ (some a) _ _ Tryz.underlying39
  have HB0:Hid (∀ X,Below w.heap.size w (w.alloc X)):=fun X=>(Below.refl _ _).alloc zL X
  have HO0:Hid (Zbh (w.alloc (.cells #[] 85)) w.heap.size (.slice (some ⟨w.heap.size,0,none⟩) 0 0) []):=ZZ (Zbh.empty w _ zL)
  go_enter Tryz.func40,Tryz.ntmps40
  go_wp2_with(at_builtin;refine Zcs _ rfl _ _ rfl w.heap.size _ [] rfl HO0.out _ l rfl (HR.out.below (HB0.out _) zL) (by simp;omega) (by simp) ?_)
  intro v1 W1 ho1 hb1
  have HO1:=ZZ ho1
  have HB1:=ZZ ((HB0.out _).trans hb1)
  clear ho1 hb1
  go_wp2
  go_ret
  exact⟨_,rfl,HO1.out,HB1.out⟩
def Zxc (p:Ent->Bool) (l:List Ent) (k:Int):Prop:=(k=-1∧∀ j,j<l.length->p (l.getD j ZaP)=false)∨∃ i:Nat,k=(i:Int)∧i<l.length∧(∀ j,j<i->p (l.getD j ZaP)=false)∧p (l.getD i ZaP)=true
theorem ZfA (g R:Nat) (p:Ent->Bool) (v:Value) (l:List Ent) (w:World) (hr:RdE w v l)
 (eg:∀ args W,(callFunc g args).run Tryz.prog W=.ok (.enter g args) W)
 (hp:∀ W e,Below w.heap.size w W->Calls Tryz.prog g #[ZrG e,.pointer (some ⟨R,0,none⟩)] W fun x w'=>x=.returned (.bool (p e))∧Below W.heap.size W w'):
 Calls Tryz.prog 87 #[v,.func (.func g) #[] #[.pointer (some ⟨R,0,none⟩)]] w fun x w'=>∃ k:Int,x=.returned (.int .i64 k)∧Zxc p l k∧Below w.heap.size w w':=by
 have HR:=ZZ hr
 have HP:=ZZ hp
 obtain⟨va,vc,rfl,hlc,hcm,-,-,hao⟩:=hr
 have HAO:=ZZ hao
 have hml:(l.length:Int)<=9223372036854775807:=by unfold maxLen at hcm;omega
 clear hp hlc hcm hao
 go_enter Tryz.func87,Tryz.ntmps87
 go_wp2
 go_loopw[8] (fun vi wr=>∃ q:Nat,vi=.int .i64 (q:Int)∧q<=l.length∧Hid (∀ j,j<q->p (l.getD j ZaP)=false)∧Hid (Below w.heap.size w wr)) (fun vi _=>l.length-(intOf vi).toNat)
 case atStart=>exact⟨0,rfl,Nat.zero_le _,ZZ (fun j hj=>absurd hj (Nat.not_lt_zero _)),Below.refl _ _⟩
 case round=>
  obtain⟨q,rfl,hq,hN,hB⟩:=hrel
  by_cases hlt:q<l.length
  case neg=>
   obtain rfl:q=l.length:=by omega
   go_wp2
   go_ret
   exact⟨-1,rfl,.inl ⟨rfl,hN.out⟩,hB.out⟩
  have hqi:(q:Int)<(l.length:Int):=by omega
  rcases HAO.out with h0 | ⟨b,off,rfl,hc⟩
  ·rw[h0] at hlt;simp at hlt
  obtain⟨c0,c1,c2⟩:=(hc q hlt).keep (hB.out.block b (hc q hlt).lt)
  have HC:=ZZ (HP.out wr (l.getD q ZaP) hB.out)
  have HX:Hid (∀ j,j<q+1->j=q∨j<q):=ZZ (fun j hj=>by omega)
  obtain⟨e,he⟩:∃ e,e=l.getD q ZaP:=⟨_,rfl⟩
  rw[<-he] at HC c0 c1 c2
  have HE:=ZZ he
  obtain⟨pe,hpe⟩:∃ pe,pe=p e:=⟨_,rfl⟩
  rw[<-hpe] at HC
  have HPE:=ZZ hpe
  clear he hc HP HAO HR hpe
  unfold ZrG at HC
  obtain⟨ep,es,er⟩:=e
  simp only at HC c0 c1 c2
  go_wp2_with fail
  refine HC.out.mono ?_
  rintro x W1 ⟨rfl,hb1⟩
  have HB1:=ZZ (hB.out.trans (hb1.mono hB.out.size))
  clear hb1 HC
  cases pe with
  | true=>
   go_wp2
   go_ret
   exact⟨(q:Int),rfl,.inr ⟨q,rfl,hlt,hN.out,by rw[<-HE.out];exact HPE.out.symm⟩,HB1.out⟩
  | false=>
   go_wp2
   go_roundw
   case rel=>exact⟨q+1,by go_num,by omega,ZZ (fun j hj=>by
    rcases HX.out j hj with h | h
    ·rw[h,<-HE.out];exact HPE.out.symm
    ·exact hN.out j h),HB1⟩
   case measure=>simp[intOf];omega
theorem ZfW (p:Ent->Bool) (l:List Ent) (j:Nat) (hj:j<l.length):(l.take (j+1)).filter (fun e=>!p e)=(l.take j).filter (fun e=>!p e)++if p (l.getD j ZaP)=true then[] else[l.getD j ZaP]:=by
 have e1:l.take (j+1)=l.take j++[l.getD j ZaP]:=by
  rw[List.take_add_one,List.getElem?_eq_getElem hj]
  simp[List.getD,hj]
 rw[e1,List.filter_append]
 congr 1
 generalize l.getD j ZaP=x
 cases h:p x <;> simp[h]
theorem Zjs (p:Ent->Bool) (l:List Ent) (i:Nat) (hi:i<=l.length) (h:∀ j,j<i->p (l.getD j ZaP)=false):(l.take i).filter (fun e=>!p e)=l.take i:=by
 rw[List.filter_eq_self]
 intro e he
 obtain⟨j,hj,rfl⟩:=List.getElem_of_mem he
 rw[List.length_take] at hj
 have:=h j (by omega)
 rw[List.getElem_take]
 simp only [List.getD,List.getElem?_eq_getElem (show j<l.length by omega),Option.getD_some] at this
 simp[this]
def Zii (p:Ent->Bool) (l L:List Ent) (i j:Nat):Prop:=L.length=l.length∧L.take i=(l.take j).filter (fun e=>!p e)∧L.drop j=l.drop j∧i<j
theorem Zii.start {p:Ent->Bool} {l:List Ent} {i:Nat} (hi:i<l.length) (h:∀ j,j<i->p (l.getD j ZaP)=false) (hp:p (l.getD i ZaP)=true):Zii p l l i (i+1):=by
 refine⟨rfl,?_,rfl,Nat.lt_succ_self _⟩
 rw[ZfW p l i hi,if_pos hp,List.append_nil,Zjs p l i (by omega) h]
theorem Zii.at {p:Ent->Bool} {l L:List Ent} {i j:Nat} (h:Zii p l L i j):L.getD j ZaP=l.getD j ZaP:=by
 obtain⟨h1,h2,h3,h4⟩:=h
 have e1:(L.drop j).getD 0 ZaP=L.getD j ZaP:=by simp[List.getD]
 have e2:(l.drop j).getD 0 ZaP=l.getD j ZaP:=by simp[List.getD]
 rw[<-e1,<-e2,h3]
theorem Znv {L l:List Ent} {j:Nat} (h:L.drop j=l.drop j):L.drop (j+1)=l.drop (j+1):=by
 rw[<-List.drop_drop,<-List.drop_drop,h]
theorem Zii.skip {p:Ent->Bool} {l L:List Ent} {i j:Nat} (h:Zii p l L i j) (hj:j<l.length) (hp:p (l.getD j ZaP)=true):Zii p l L i (j+1):=by
 obtain⟨h1,h2,h3,h4⟩:=h
 refine⟨h1,?_,Znv h3,by omega⟩
 rw[ZfW p l j hj,if_pos hp,List.append_nil,h2]
theorem Zii.keep {p:Ent->Bool} {l L:List Ent} {i j:Nat} (h:Zii p l L i j) (hj:j<l.length) (hp:p (l.getD j ZaP)=false):Zii p l (L.set i (l.getD j ZaP)) (i+1) (j+1):=by
 obtain⟨h1,h2,h3,h4⟩:=h
 refine⟨by rw[List.length_set,h1],?_,?_,by omega⟩
 ·rw[ZfW p l j hj,if_neg (by rw[hp];simp),<-h2,List.take_add_one,List.take_set_of_le zL]
  congr 1
  rw[List.getElem?_set_self (by omega)]
  rfl
 ·rw[List.drop_set_of_lt (by omega)]
  exact Znv h3
theorem Zbh.put3 {w:World} {B g n cap:Nat} {l:List Ent} (h:Zbh w B (.slice (some ⟨g,0,none⟩) n cap) l) (i:Nat) (hi:i<l.length) (p s r:Int) (o0 o1 o2:Nat) (h0:o0=i*3) (h1:o1=i*3+1) (h2:o2=i*3+2):
 Zbh (((w.setCell ⟨g,o0,none⟩ (.int .i64 p)).setCell ⟨g,o1,none⟩ (.int .i64 s)).setCell ⟨g,o2,none⟩ (.int .i64 r)) B (.slice (some ⟨g,0,none⟩) n cap) (l.set i ⟨p,s,r⟩):=by
 subst h0 h1 h2
 exact h.put i hi ⟨p,s,r⟩
theorem Zbh.ent {w:World} {B g n cap:Nat} {l:List Ent} (h:Zbh w B (.slice (some ⟨g,0,none⟩) n cap) l) (i:Nat) (hi:i<l.length):Zno w g (i*3) (l.getD i ZaP)∧(∀ k,w.frozen? ⟨g,k,none⟩=false)∧B<=g∧l.length<=cap∧cap<=maxLen∧n=l.length:=by
 rcases h.row with ⟨h1,-⟩ | ⟨g',cap',cur,h1,hB,hlt,hg,hc,hm,hs,hcell⟩
 ·cases h1
 ·injection h1 with h1 h2 h3
  injection h1 with h1
  injection h1 with h1
  subst h1 h3
  have hx:∀ k,k<3->w.cell? ⟨g,i*3+k,none⟩=(ZeN (l.getD i ZaP))[k]?:=fun k hk=>by
   rw[cell_of_row w g (i*3+k) _ _ _ hg,hcell _ (by omega),Zbj l i k hi hk]
  exact⟨⟨hx 0 (by decide),hx 1 (by decide),hx 2 (by decide)⟩,fun k=>frozen_of_row w g k _ _ hg,hB,hc,hm,h2⟩
theorem Zpn {C:Nat} {w0 w:World} (h:Below C w0 w) (R:Nat) (hR:C<=R) (o0 o1 o2:Nat) (x0 x1 x2:Value):Below C w0 (((w.setCell ⟨R,o0,none⟩ x0).setCell ⟨R,o1,none⟩ x1).setCell ⟨R,o2,none⟩ x2):=
 ((h.setCell hR _).setCell hR _).setCell hR _
theorem Zmb (w:World):(zeroValue 85).run Tryz.prog w=.ok (.agg #[.int .i64 0,.int .i64 0,.int .i64 0]) w:=Tryz.zeroValue85 w
theorem Zjt (g R:Nat) (p:Ent->Bool) (v:Value) (l:List Ent) (B:Nat) (w:World) (ho:Zbh w B v l) (hI:∀ e ∈ l,ZlY e) (hBw:B<=w.heap.size) (hlim:l.length<=1000000)
 (eg:∀ args W,(callFunc g args).run Tryz.prog W=.ok (.enter g args) W)
 (hp:∀ W e,Below B w W->Calls Tryz.prog g #[ZrG e,.pointer (some ⟨R,0,none⟩)] W fun x w'=>x=.returned (.bool (p e))∧Below W.heap.size W w'):
 Calls Tryz.prog 86 #[v,.func (.func g) #[] #[.pointer (some ⟨R,0,none⟩)]] w fun x w'=>∃ v',x=.returned v'∧Zbh w' B v' (l.filter (fun e=>!p e))∧Below B w w':=by
 have HO:=ZZ ho
 have HP:=ZZ hp
 have HIX:=ZZ (ZfA g R p v l w (ho.rd hI) eg (fun W e h=>hp W e (h.mono hBw)))
 obtain⟨va,vc,hv⟩:=ho.shape
 subst hv
 clear ho hp
 go_enter Tryz.func86,Tryz.ntmps86
 go_wp2_with fail
 refine HIX.out.mono ?_
 rintro x W0 ⟨k,rfl,hf,hb0⟩
 have HB0:=ZZ (hb0.mono hBw)
 have HO0:=ZZ (HO.out.below hb0 zL)
 clear HIX hb0 HO
 rcases hf with ⟨rfl,hf⟩ | ⟨i0,rfl,hi0,hf,hpi⟩
 ·have HE:Hid (l.filter (fun e=>!p e)=l):=ZZ (by
   have:=Zjs p l l.length zL hf
   rwa [List.take_length] at this)
  clear hf
  go_wp2
  go_ret
  exact⟨_,rfl,by rw[HE.out];exact HO0.out,HB0.out⟩
 have HD0:=ZZ (Zii.start hi0 hf hpi)
 clear hf hpi
 rcases HO0.out.row with ⟨-,h2⟩ | ⟨gr,cap,cur,h1,hBg,-,-,hlc,hcm,-,-⟩
 ·rw[h2] at hi0;simp at hi0
 injection h1 with h1 _ h3
 subst h1 h3
 have hml:(l.length:Int)<=1000000:=by omega
 clear cur hcm
 have ei:((i0:Int) == -1)=false:=beq_eq_false_iff_ne.2 (by omega)
 go_wp2
 go_loopw[5,6] (fun v5 v6 wr=>∃ (i j:Nat) (L:List Ent),v5=.int .i64 (i:Int)∧v6=.int .i64 (j:Int)∧i<j∧j<=l.length∧Hid (Zbh wr B (.slice (some ⟨gr,0,none⟩) l.length vc) L)∧Hid (Zii p l L i j)∧Hid (Below B w wr)) (fun _ v6 _=>l.length-(intOf v6).toNat)
 case atStart=>exact⟨i0,i0+1,l,rfl,by go_num,by omega,by omega,HO0,HD0,HB0⟩
 case round=>
  clear HO0 HD0 HB0 ei
  obtain⟨i,j,L,rfl,rfl,hij,hjl,hO,hD,hB⟩:=hrel
  by_cases hlt:j<l.length
  case neg=>
   obtain rfl:j=l.length:=by omega
   have hL:L.length=l.length:=hD.out.1
   have HT:Hid (L.take i=l.filter (fun e=>!p e)):=ZZ (by rw[hD.out.2.1,List.take_length])
   have hE:=(hO.out.ent i (by omega)).2.1
   have HK:Hid (∀ ty,(Builtin.clear_ #[39] ty #[.slice (some ⟨gr,i*3,none⟩) (l.length-i) (vc-i)]).run Tryz.prog wr=.ok (.tuple #[]) (wr.setCells gr (i*3) (ZdQ (l.length-i)))):=ZZ (fun ty=>
    Zjo wr _ _ _ Tryz.underlying39 Zmb gr (i*3) (l.length-i) (vc-i) (by omega) (fun k hk=>by
     obtain⟨q,r,hr,rfl⟩:∃ q r,r<3∧k=q*3+r:=⟨k / 3,k % 3,Nat.mod_lt _ (by decide),by omega⟩
     have:=(hO.out.ent (i+q) (by omega)).1
     rw[show i*3+(q*3+r)=(i+q)*3+r by omega]
     match r,hr with
     | 0,_=>rw[show(i+q)*3+0=(i+q)*3 from rfl,this.1];rfl
     | 1,_=>rw[this.2.1];rfl
     | 2,_=>rw[this.2.2];rfl) (fun k _=>hE _))
   have HOC:=ZZ ((hO.out.cut i (by omega)).cells (i*3) (by rw[List.length_take];omega) (ZdQ (l.length-i)))
   rw[HT.out] at HOC
   have HBC:=ZZ (Zcf hBg (ZdQ (l.length-i)) (i*3) wr hB.out)
   have hvi:¬ (vc=i):=by omega
   have hb1:(i:Int)<=(l.length:Int):=by omega
   have hb2:(i:Int)<=(vc:Int):=by omega
   have hb3:i<=l.length:=by omega
   have hb4:i<=vc:=by omega
   clear hE
   have hK:=HK.out
   go_wp2
   go_ret
   exact⟨_,rfl,HOC.out,HBC.out⟩
  have hji:(j:Int)<(l.length:Int):=by omega
  have hLl:L.length=l.length:=hD.out.1
  obtain⟨⟨c0,c1,c2⟩,-,-⟩:=hO.out.ent j (by omega)
  rw[hD.out.at] at c0 c1 c2
  have HSK:=ZZ (hD.out.skip hlt)
  have HKP:=ZZ (hD.out.keep hlt)
  obtain⟨e,he⟩:∃ e,e=l.getD j ZaP:=⟨_,rfl⟩
  rw[<-he] at c0 c1 c2 HSK HKP
  obtain⟨pe,hpe⟩:∃ pe,pe=p e:=⟨_,rfl⟩
  have HC:=ZZ (fun W h=>HP.out W e h)
  rw[<-hpe] at HC HSK HKP
  obtain⟨ep,es,er⟩:=e
  unfold ZrG at HC
  simp only at HC c0 c1 c2 HKP
  clear he hpe hD
  have HB2:Hid (∀ X,Below B w (wr.alloc X)):=ZZ (fun X=>hB.out.alloc (Nat.le_trans hBw hB.out.size) X)
  have HX:Hid (Be (wr.alloc (.cells #[.int .i64 ep,.int .i64 es,.int .i64 er] 85)) wr.heap.size #[.int .i64 ep,.int .i64 es,.int .i64 er]):=ZZ (heap_alloc_new wr _)
  have HOW:Hid (∀ X,Zbh (wr.alloc X) B (.slice (some ⟨gr,0,none⟩) l.length vc) L):=ZZ (fun X=>hO.out.below ((Below.refl _ _).alloc zL X) zL)
  go_wp2_with fail
  refine(HC.out _ (HB2.out _)).mono ?_
  rintro x W1 ⟨rfl,hb1⟩
  have HB3:=ZZ ((HB2.out (.cells #[.int .i64 ep,.int .i64 es,.int .i64 er] 85)).trans (hb1.mono (by have:=hB.out.size;simp;omega)))
  have HX3:=ZZ (HX.out.below hb1 zL)
  have HO3:=ZZ ((HOW.out (.cells #[.int .i64 ep,.int .i64 es,.int .i64 er] 85)).below hb1 zL)
  clear hb1 HC HB2 HX HOW c0 c1 c2 hO hB
  cases pe with
  | true=>
   go_wp2
   go_roundw
   case rel=>exact⟨i,j+1,L,rfl,by go_num,by omega,by omega,HO3,ZZ (HSK.out (by simp)),HB3⟩
   case measure=>simp[intOf];omega
  | false=>
   obtain⟨⟨d0,d1,d2⟩,hfz,hBg2,-⟩:=HO3.out.ent i (by omega)
   obtain⟨b0,f0⟩:=HX3.out.cell 0
   obtain⟨b1,f1⟩:=HX3.out.cell 1
   obtain⟨b2,f2⟩:=HX3.out.cell 2
   have z0:=hfz (i*3)
   have z1:=hfz (i*3+1)
   have z2:=hfz (i*3+2)
   have hii:(i:Int)<(l.length:Int):=by omega
   have hil:i<l.length:=by omega
   clear hfz
   go_wp2
   go_roundw
   case rel=>exact⟨i+1,j+1,L.set i ⟨ep,es,er⟩,by go_num,by go_num,by omega,by omega,ZZ (HO3.out.put3 i (by omega) ep es er _ _ _ (by omega) (by omega) (by omega)),ZZ (HKP.out (by simp)),ZZ (Zpn HB3.out gr hBg _ _ _ _ _ _)⟩
   case measure=>simp[intOf];omega
theorem RdE.one (w:World) (e:Ent) (he:ZlY e):RdE (w.alloc (.cells (ZeN e) 85)) (.slice (some ⟨w.heap.size,0,none⟩) 1 1) [e]:=by
 have h:=Zbh.ofRow (w:=w.alloc (.cells (ZeN e) 85)) (B:=w.heap.size) (g:=w.heap.size) (cap:=1) (l:=[e]) (n:=1) rfl zL (heap_alloc_new w _) zL (by unfold maxLen;decide) rfl (fun j hj=>by
  rw[List.length_singleton] at hj
  match j,hj with
  | 0,_=>rfl
  | 1,_=>rfl
  | 2,_=>rfl)
 exact h.rd (fun x hx=>by rw[List.mem_singleton.1 hx];exact he)
theorem Zld (l:List Ent) (i:Nat) (hi:i<=l.length) (e:Ent) (f:Nat->Option Value) (h1:∀ j,j<i*3->f j=(Zae l)[j]?) (h2:∀ j,j<3->f (i*3+j)=(Zae [e])[j]?)
 (h3:∀ j,j<(l.length-i)*3->f ((i+1)*3+j)=(Zae (l.drop i))[j]?) (j:Nat) (hj:j<(l.length+1)*3):f j=(Zae (l.take i++(e::l.drop i)))[j]?:=by
 have e1:l.take i++(e::l.drop i)=l.take i++([e]++l.drop i):=rfl
 have l1:(Zae (l.take i)).length=i*3:=by rw[Zat,List.length_take];congr 1;omega
 have l2:(Zae [e]).length=3:=Zat [e]
 rw[e1,ZcO,ZcO]
 by_cases g1:j<i*3
 ·rw[List.getElem?_append_left (by omega),h1 j g1,Zew,List.getElem?_take_of_lt g1]
 ·rw[List.getElem?_append_right (by omega),l1]
  by_cases g2:j<i*3+3
  ·rw[List.getElem?_append_left (by omega),<-h2 (j-i*3) (by omega)]
   congr 1
   omega
  ·rw[List.getElem?_append_right (by omega),l2,<-h3 (j-i*3-3) (by omega)]
   congr 1
   omega
theorem Zdr (l:List Ent) (i:Nat) (hi:i<=l.length) (e:Ent):(l.take i++(e::l.drop i)).length=l.length+1:=by simp;omega
def Zyl (w:World) (B:Nat) (L:List Ent) (x:Ending) (w':World):Prop:=∃ v',x=.returned v'∧Zbh w' B v' L∧Below B w w'
theorem Zpo (v:Value) (l:List Ent) (B:Nat) (w:World) (ho:Zbh w B v l) (hB:B<=w.heap.size) (hlim:l.length<=100000) (e:Ent) (he:ZlY e) (I:Int) (hI:I=(l.length:Nat)) (N:Nat) (hN:N=w.heap.size):
 Calls Tryz.prog 88 #[v,.int .i64 I,.slice (some ⟨N,0,none⟩) 1 1] (w.alloc (.cells (ZeN e) 85)) fun x w'=>Zyl w B (l.take l.length++(e::l.drop l.length)) x w':=by
 subst hI hN
 have HE:Hid (l.take l.length++(e::l.drop l.length)=l++[e]):=ZZ (by rw[List.take_length,List.drop_length])
 rw[HE.out]
 have HR:=ZZ (RdE.one w e he)
 have HB0:Hid (∀ X,Below B w (w.alloc X)):=fun X=>(Below.refl _ _).alloc hB X
 have HO:=ZZ (ho.below ((Below.refl w.heap.size w).alloc zL (.cells (ZeN e) 85)) zL)
 have hsz:B<=(w.alloc (.cells (ZeN e) 85)).heap.size:=by simp;omega
 rcases ho.row with ⟨rfl,rfl⟩ | ⟨g,cap,cur,rfl,hBg,hlt,hg,hn,hm,hs,hc⟩
 ·clear ho HE
  go_enter Tryz.func88,Tryz.ntmps88
  go_wp2_with(at_builtin;refine Zcs _ rfl _ _ rfl B _ [] rfl HO.out _ [e] rfl HR.out (by simp) hsz ?_)
  intro v1 W1 ho1 hb1
  have HO1:=ZZ ho1
  have HB1:=ZZ ((HB0.out _).trans hb1)
  clear ho1 hb1
  go_wp2
  go_ret
  exact⟨_,rfl,HO1.out,HB1.out⟩
 ·have hmi:(cap:Int)<=9223372036854775807:=by unfold maxLen at hm;omega
  have hni:(l.length:Int)<=(cap:Int):=by omega
  clear ho HE hc hg hs hm
  by_cases hcl:cap=l.length
  all_goals
   go_enter Tryz.func88,Tryz.ntmps88
   go_wp2_with(at_builtin;refine Zcs _ rfl _ _ rfl B _ l rfl HO.out _ [e] rfl HR.out (by simp;omega) hsz ?_)
   intro v1 W1 ho1 hb1
   have HO1:=ZZ ho1
   have HB1:=ZZ ((HB0.out _).trans hb1)
   clear ho1 hb1
   go_wp2
   go_ret
   exact⟨_,rfl,HO1.out,HB1.out⟩
theorem Zyz (w:World) (g N kA kB:Nat) (hne:N≠g) (la ca lb cb o:Nat) (hsa:w.shape? N=some (85,kA)) (hsb:w.shape? g=some (85,kB)) (hkB:kB≠0) (hfa:∀ k,w.frozen? ⟨N,k,none⟩=false):
 (callFunc 129 #[.slice (some ⟨N,0,none⟩) la ca,.slice (some ⟨g,o,none⟩) lb cb]).run Tryz.prog w=.ok (.value (.bool false)) w:=by
 rw[run_callFunc_extern Tryz.func129 (by kernel_rfl) (by kernel_rfl) (by kernel_rfl) (e:=Extern.SlicesOverlaps.overlaps #[39,39] #[4]) (by kernel_rfl),
  Lib.run_overlaps_apart w 39 4 85 Tryz.underlying39 3 Tryz.sizeOf85 ⟨N,0,none⟩ ⟨g,o,none⟩ la ca lb cb hne _ _ kA kB hsa hsb hkB (hfa 0) (hfa kA)]
 rfl
theorem Zit:(Tryz.prog.info? 85).map (·.size)=some 3:=by
 obtain⟨i0,hi,hz0,hz1,hz2⟩:=info_parts Zis
 rw[hi]
 simp[hz1]
theorem Znw (g cap:Nat) (l:List Ent) (B:Nat) (w:World) (ho:Zbh w B (.slice (some ⟨g,0,none⟩) l.length cap) l) (hB:B<=w.heap.size) (i:Nat) (hi:i<l.length) (hroom:l.length+1<=cap) (e:Ent) (I:Int) (hI:I=(i:Nat)) (N:Nat) (hN:N=w.heap.size):
 Calls Tryz.prog 88 #[.slice (some ⟨g,0,none⟩) l.length cap,.int .i64 I,.slice (some ⟨N,0,none⟩) 1 1] (w.alloc (.cells (ZeN e) 85)) fun x w'=>Zyl w B (l.take i++(e::l.drop i)) x w':=by
 subst hI
 rcases ho.row with ⟨h1,-⟩ | ⟨g',cap',cur,h1,hBg,hlt,hg,hn,hm,hs,hc⟩
 ·cases h1
 injection h1 with h1 _ h3
 injection h1 with h1
 injection h1 with h1
 subst h1 h3
 clear ho
 have hv:(w.alloc (.cells (ZeN e) 85)).heap[N]?=some (.cells (ZeN e) 85 (0,0)):=by rw[hN];exact heap_alloc_new w _
 have hg0:(w.alloc (.cells (ZeN e) 85)).heap[g]?=some (.cells cur 85 (0,0)):=(Below.heap_alloc _ _ _ hlt).trans hg
 have HB0:Hid (Below B w (w.alloc (.cells (ZeN e) 85))):=(Below.refl _ _).alloc hB _
 generalize w.alloc (.cells (ZeN e) 85)=W at *
 have hne:N≠g:=by omega
 have hm':(cap:Int)<=9223372036854775807:=by unfold maxLen at hm;omega
 have hfz:∀ (j:Nat),W.frozen? ⟨g,j,none⟩=false:=fun j=>frozen_of_row W g j _ _ hg0
 have hov:∀ la ca lb cb o,(callFunc 129 #[.slice (some ⟨N,0,none⟩) la ca,.slice (some ⟨g,o,none⟩) lb cb]).run Tryz.prog W=.ok (.value (.bool false)) W:=fun la ca lb cb o=>
  Zyz W g N 3 (cap*3) hne la ca lb cb o (by simp[World.shape?,hv,ZeN]) (by simp[World.shape?,hg0,hs]) (by omega) (fun k=>frozen_of_row W N k _ _ hv)
 have hdl:(Zae (l.drop i)).length=(l.length-i)*3:=by rw[Zat,List.length_drop]
 have hsome:∀ j,j<(l.length+1)*3->(W.cell? ⟨g,j,none⟩).isSome=true:=fun j hj=>by
  rw[cell_of_row W g j _ _ _ hg0,Array.getElem?_eq_getElem (by omega)]
  rfl
 have hcp1:∀ W',(∀ x,W'.cell? x=W.cell? x)->(∀ x,W'.frozen? x=W.frozen? x)->∀ ty dc sc,(Builtin.copy_ #[39,39] ty #[.slice (some ⟨g,(i+1)*3,none⟩) (l.length-i) dc,.slice (some ⟨g,i*3,none⟩) (l.length+1-i) sc]).run Tryz.prog W'=.ok (goInt (Nat.min (l.length+1-i) (l.length-i))) (W'.setCells g ((i+1)*3) (Zae (l.drop i))):=fun W' hWc hWf ty dc sc=>
  Zdj W' _ _ ty 85 3 g ((i+1)*3) (l.length-i) dc ⟨g,i*3,none⟩ (l.length+1-i) sc (Zae (l.drop i)) Tryz.underlying39 Zit (by rw[hdl];simp only [Nat.min_def];split <;> omega)
   (fun j v hj=>by
    have hj':j<(l.length-i)*3:=by rw[<-hdl];exact(List.getElem?_eq_some_iff.1 hj).1
    rw[Addr.add_lit,hWc,cell_of_row W g _ _ _ _ hg0,hc _ (by omega)]
    rw[Zex,List.getElem?_drop] at hj
    exact hj)
   (fun j hj=>by rw[hWc];exact hsome _ (by omega)) (fun j hj=>by rw[hWf];exact hfz _) (Zce _)
 obtain⟨W1,hW1⟩:∃ W1,W1=W.drew.setCells g ((i+1)*3) (Zae (l.drop i)):=⟨_,rfl⟩
 have hg1:W1.heap[g]?=some (.cells (ZgY cur ((i+1)*3) (Zae (l.drop i))) 85 (0,0)):=by rw[hW1];exact ZaD g _ _ _ W.drew cur hg0
 have hv1:W1.heap[N]?=some (.cells (ZeN e) 85 (0,0)):=by rw[hW1,ZcG g _ _ _ N hne];exact hv
 have hl3:(Zae [e]).length=3:=Zat [e]
 have hcp2:∀ W',(∀ x,W'.cell? x=W1.cell? x)->(∀ x,W'.frozen? x=W1.frozen? x)->∀ ty dc,(Builtin.copy_ #[39,39] ty #[.slice (some ⟨g,i*3,none⟩) (l.length+1-i) dc,.slice (some ⟨N,0,none⟩) 1 1]).run Tryz.prog W'=.ok (goInt (Nat.min 1 (l.length+1-i))) (W'.setCells g (i*3) (Zae [e])):=fun W' hWc hWf ty dc=>
  Zdj W' _ _ ty 85 3 g (i*3) (l.length+1-i) dc ⟨N,0,none⟩ 1 1 (Zae [e]) Tryz.underlying39 Zit (by rw[hl3];simp only [Nat.min_def];split <;> omega)
   (fun j v hj=>by
    rw[Addr.add_lit,hWc,Nat.zero_add,cell_of_row W1 N _ _ _ _ hv1]
    have:(Zae [e])[j]?=(ZeN e)[j]?:=by
     have hj':j<3:=by rw[<-hl3];exact(List.getElem?_eq_some_iff.1 hj).1
     have:=Zbj [e] 0 j (by simp) hj'
     rwa [Nat.zero_mul,Nat.zero_add] at this
    rw[<-this]
    exact hj)
   (fun j hj=>by
    rw[hWc,cell_of_row W1 g _ _ _ _ hg1,Array.getElem?_eq_getElem (by rw[ZaC];omega)]
    rfl) (fun j hj=>by rw[hWf];exact frozen_of_row W1 g _ _ _ hg1) (Zce _)
 have HFIN:Hid (Zyl w B (l.take i++(e::l.drop i)) (.returned (.slice (some ⟨g,0,none⟩) (l.length+1) cap)) (W1.setCells g (i*3) (Zae [e]))):=ZZ (by
  refine⟨_,rfl,Zbh.ofRow (Zdr l i (by omega) e).symm hBg (ZaD g _ _ _ W1 _ hg1) (by rw[Zdr l i (by omega) e];exact hroom) hm (by rw[ZaC,ZaC];exact hs) (fun j hj=>?_),?_⟩
  ·rw[Zdr l i (by omega) e] at hj
   refine Zld l i (by omega) e (fun j=>(ZgY (ZgY cur ((i+1)*3) (Zae (l.drop i))) (i*3) (Zae [e]))[j]?) (fun k hk=>?_) (fun k hk=>?_) (fun k hk=>?_) j hj
   ·show(ZgY (ZgY cur ((i+1)*3) (Zae (l.drop i))) (i*3) (Zae [e]))[k]?=_
    rw[ZaV _ _ _ _ (by rw[ZaC];omega),if_neg (by omega),ZaV _ _ _ _ (by omega),if_neg (by omega)]
    exact hc k (by omega)
   ·show(ZgY (ZgY cur ((i+1)*3) (Zae (l.drop i))) (i*3) (Zae [e]))[i*3+k]?=_
    rw[ZaV _ _ _ _ (by rw[ZaC];omega),if_pos (by omega),Nat.add_sub_cancel_left]
   ·show(ZgY (ZgY cur ((i+1)*3) (Zae (l.drop i))) (i*3) (Zae [e]))[(i+1)*3+k]?=_
    rw[ZaV _ _ _ _ (by rw[ZaC];omega),if_neg (by omega),ZaV _ _ _ _ (by omega),if_pos (by omega),Nat.add_sub_cancel_left]
  ·rw[hW1]
   exact Zcf hBg _ _ _ (Zcf hBg _ _ _ (Zjp HB0.out)))
 have hcq1:=fun ty dc sc=>hcp1 W.drew (fun _=>rfl) (fun _=>rfl) ty dc sc
 have hcq2:=fun ty dc=>hcp2 W1 (fun _=>rfl) (fun _=>rfl) ty dc
 clear hcp1 hcp2
 rw[hW1] at HFIN hcq2
 clear hW1 hg1 hv1 hc hs hg hg0 hv hsome hfz hm HB0 hdl hl3 hN
 have mixed:Tryz.prog.follows .mixedOrders=true:=by kernel_rfl
 have hz2:¬ ((i:Int)=(l.length:Int)):=by omega
 have hz3:((i:Int) == (l.length:Int))=false:=beq_eq_false_iff_ne.2 hz2
 have hw1:IntKind.i64.wrap ((i:Int)+1)=(i:Int)+1:=by rw[IntKind.wrap_i64];omega
 have hw2:IntKind.i64.wrap ((l.length:Int)+1)=(l.length:Int)+1:=by rw[IntKind.wrap_i64];omega
 have hb1:(0:Int)<=(i:Int)+1:=by omega
 have hin:i<=l.length:=by omega
 have hini:(i:Int)<=(l.length:Int):=by omega
 have htn:((i:Int)+1).toNat=i+1:=by omega
 have htl:((l.length:Int)+1).toNat=l.length+1:=by omega
 have hb2:¬ (cap=i+1):=by omega
 have hb3:(i:Int)<=(l.length:Int)+1:=by omega
 have hb4:¬ (cap=i):=by omega
 have hb5:¬ ((cap:Int)<(l.length:Int)+1):=by omega
 have hb6:(l.length:Int)+1<=(cap:Int):=by omega
 have hb7:(i:Int)+1<=(l.length:Int)+1:=by omega
 generalize Zae (l.drop i)=dcs at *
 generalize Zae [e]=ecs at *
 generalize l.take i++(e::l.drop i)=LL at *
 go_enter Tryz.func88,Tryz.ntmps88
 go_wp2_with(simp only [hov])
 go_region_law_o (refine step_copy_runI rfl _ _ 39 39 rfl _ _ (by simp[Act.eval,Act.put]) (by simp[Act.eval,Act.put]) (hcq1 _ _ _) ?_)
 go_wp2_with(at_builtin;refine wpList_copy_runI _ rfl _ _ 39 39 rfl _ _ rfl rfl (hcq2 _ _) ?_)
 go_wp2
 go_ret
 exact HFIN.out
theorem Znx (g cap:Nat) (l:List Ent) (B:Nat) (w:World) (ho:Zbh w B (.slice (some ⟨g,0,none⟩) l.length cap) l) (hB:B<=w.heap.size) (i:Nat) (hi:i<l.length) (hroom:cap<l.length+1) (hlim:l.length<=100000) (e:Ent) (I:Int) (hI:I=(i:Nat)) (N:Nat) (hN:N=w.heap.size):
 Calls Tryz.prog 88 #[.slice (some ⟨g,0,none⟩) l.length cap,.int .i64 I,.slice (some ⟨N,0,none⟩) 1 1] (w.alloc (.cells (ZeN e) 85)) fun x w'=>Zyl w B (l.take i++(e::l.drop i)) x w':=by
 subst hI
 rcases ho.row with ⟨h1,-⟩ | ⟨g',cap',cur,h1,hBg,hlt,hg,hn,hm,hs,hc⟩
 ·cases h1
 injection h1 with h1 _ h3
 injection h1 with h1
 injection h1 with h1
 subst h1 h3
 clear ho
 obtain⟨i0,hi0,hz0,hz1,hz2⟩:=info_parts Zis
 have hv:(w.alloc (.cells (ZeN e) 85)).heap[N]?=some (.cells (ZeN e) 85 (0,0)):=by rw[hN];exact heap_alloc_new w _
 have hg0:(w.alloc (.cells (ZeN e) 85)).heap[g]?=some (.cells cur 85 (0,0)):=(Below.heap_alloc _ _ _ hlt).trans hg
 have HB0:Hid (Below B w (w.alloc (.cells (ZeN e) 85))):=(Below.refl _ _).alloc hB _
 have hszW:(w.alloc (.cells (ZeN e) 85)).heap.size=w.heap.size+1:=by simp
 generalize w.alloc (.cells (ZeN e) 85)=W at *
 have hl3:(Zae [e]).length=3:=Zat [e]
 have hdl:(Zae (l.drop i)).length=(l.length-i)*3:=by rw[Zat,List.length_drop]
 have htl:((Zae l).take (i*3)).length=i*3:=by rw[List.length_take,Zat];omega
 have hold:(Builtin.firstCells i0.size i (.slice (some ⟨g,0,none⟩) i cap)).run Tryz.prog W.drew=.ok ((Zae l).take (i*3)).toArray W.drew:=by
  rw[hz1]
  exact run_firstCells_some W.drew 3 i ⟨g,0,none⟩ i cap ((Zae l).take (i*3)) htl (fun j v hj=>by
   have hj':j<i*3:=by rw[<-htl];exact(List.getElem?_eq_some_iff.1 hj).1
   rw[List.getElem?_take_of_lt hj'] at hj
   rw[Addr.add_lit,Nat.zero_add,cell_of_row W.drew g j _ _ _ hg0,hc j (by omega)]
   exact hj)
 have hik:i+(l.length+1-i)=l.length+1:=by omega
 have hkk:(l.length:Int)+1-(i:Int)=((l.length+1-i:Nat):Int):=by omega
 obtain⟨G,hG⟩:∃ G,G=grownCap W (l.length+1) cap 85:=⟨_,rfl⟩
 obtain⟨ROW,hROW⟩:∃ ROW,ROW=((Zae l).take (i*3)).toArray++Builtin.zeroCells (Value.agg #[.int .i64 0,.int .i64 0,.int .i64 0]).cells (l.length+1-i)++Builtin.zeroCells (Value.agg #[.int .i64 0,.int .i64 0,.int .i64 0]).cells (G-(l.length+1)):=⟨_,rfl⟩
 have hrz:∀ ty,(Builtin.append_ #[39,3] ty #[.slice (some ⟨g,0,none⟩) i cap,.int .i64 ((l.length:Int)+1-(i:Int))]).run Tryz.prog W=.ok (.slice (some ⟨W.heap.size,0,none⟩) (l.length+1) G) ((W.alloc (.cells ROW 85)).drew):=fun ty=>by
  have h:=Lib.run_append_grow_zeros W 39 3 ty 85 i0 _ .i64 .i64 Tryz.underlying39 Tryz.underlying3 hi0 hz0 (some ⟨g,0,none⟩) i cap _ hold (l.length+1-i) (by omega) (by omega) (by omega) (by omega) (by rw[hz2];omega) (by rw[hz2,hik];exact growslice_fits_wide hroom (by omega))
  rw[hik,<-hG,<-hROW,<-hkk] at h
  exact h
 have hGn:l.length+1<=G:=by rw[hG];exact grownCap_ge W _ _ _
 have hGm:G<=maxLen:=by rw[hG];exact grownCap_le_maxLen W (l.length+1) cap 85 (by unfold maxLen;omega)
 have hz3s:∀ n,(Builtin.zeroCells (Value.agg #[.int .i64 0,.int .i64 0,.int .i64 0]).cells n).size=n*3:=fun n=>by
  rw[<-Array.length_toList,Zla,ZbS]
 have hRs:ROW.size=G*3:=by
  rw[hROW,Array.size_append,Array.size_append,hz3s,hz3s,List.size_toArray,htl]
  omega
 have hRc:∀ j,j<i*3->ROW[j]?=(Zae l)[j]?:=fun j hj=>by
  rw[hROW,Array.append_assoc,Array.getElem?_append_left (by rw[List.size_toArray,htl];exact hj),List.getElem?_toArray,List.getElem?_take_of_lt hj]
 have hrow:(W.alloc (.cells ROW 85)).drew.heap[W.heap.size]?=some (.cells ROW 85 (0,0)):=heap_alloc_new W _
 have hvW:(W.alloc (.cells ROW 85)).drew.heap[N]?=some (.cells (ZeN e) 85 (0,0)):=(Below.heap_alloc W _ N (by omega)).trans hv
 have hgW:(W.alloc (.cells ROW 85)).drew.heap[g]?=some (.cells cur 85 (0,0)):=(Below.heap_alloc W _ g (by omega)).trans hg0
 have HB1:Hid (Below B w (W.alloc (.cells ROW 85)).drew):=ZZ (Zjp (HB0.out.alloc (by omega) _))
 have hBM:B<=W.heap.size:=by omega
 have hNM:N≠W.heap.size:=by omega
 have hgM:g≠W.heap.size:=by omega
 obtain⟨W2,hW2⟩:∃ W2,W2=(W.alloc (.cells ROW 85)).drew:=⟨_,rfl⟩
 rw[<-hW2] at hrow hvW hgW HB1
 have hcq1:∀ ty dc,(Builtin.copy_ #[39,39] ty #[.slice (some ⟨W.heap.size,i*3,none⟩) (l.length+1-i) dc,.slice (some ⟨N,0,none⟩) 1 1]).run Tryz.prog W2=.ok (goInt (Nat.min 1 (l.length+1-i))) (W2.setCells W.heap.size (i*3) (Zae [e])):=fun ty dc=>
  Zdj W2 _ _ ty 85 3 W.heap.size (i*3) (l.length+1-i) dc ⟨N,0,none⟩ 1 1 (Zae [e]) Tryz.underlying39 Zit (by rw[hl3];simp only [Nat.min_def];split <;> omega)
   (fun j v hj=>by
    rw[Addr.add_lit,Nat.zero_add,cell_of_row W2 N _ _ _ _ hvW]
    have:(Zae [e])[j]?=(ZeN e)[j]?:=by
     have hj':j<3:=by rw[<-hl3];exact(List.getElem?_eq_some_iff.1 hj).1
     have:=Zbj [e] 0 j (by simp) hj'
     rwa [Nat.zero_mul,Nat.zero_add] at this
    rw[<-this]
    exact hj)
   (fun j hj=>by
    rw[cell_of_row W2 _ _ _ _ _ hrow,Array.getElem?_eq_getElem (by omega)]
    rfl) (fun j hj=>frozen_of_row W2 _ _ _ _ hrow) (Zce _)
 obtain⟨W3,hW3⟩:∃ W3,W3=(W2.setCells W.heap.size (i*3) (Zae [e])).drew:=⟨_,rfl⟩
 have hrow3:W3.heap[W.heap.size]?=some (.cells (ZgY ROW (i*3) (Zae [e])) 85 (0,0)):=by rw[hW3];exact ZaD _ _ _ _ W2 ROW hrow
 have hg3:W3.heap[g]?=some (.cells cur 85 (0,0)):=by
  rw[hW3]
  exact(ZcG W.heap.size _ _ W2 g hgM).trans hgW
 have HB3:Hid (Below B w W3):=ZZ (by rw[hW3];exact Zjp (Zcf hBM _ _ _ HB1.out))
 have hcq2:∀ ty dc sc,(Builtin.copy_ #[39,39] ty #[.slice (some ⟨W.heap.size,(i+1)*3,none⟩) (l.length-i) dc,.slice (some ⟨g,i*3,none⟩) (l.length-i) sc]).run Tryz.prog W3=.ok (goInt (Nat.min (l.length-i) (l.length-i))) (W3.setCells W.heap.size ((i+1)*3) (Zae (l.drop i))):=fun ty dc sc=>
  Zdj W3 _ _ ty 85 3 W.heap.size ((i+1)*3) (l.length-i) dc ⟨g,i*3,none⟩ (l.length-i) sc (Zae (l.drop i)) Tryz.underlying39 Zit (by rw[hdl];simp only [Nat.min_def];split <;> omega)
   (fun j v hj=>by
    have hj':j<(l.length-i)*3:=by rw[<-hdl];exact(List.getElem?_eq_some_iff.1 hj).1
    rw[Addr.add_lit,cell_of_row W3 g _ _ _ _ hg3,hc _ (by omega)]
    rw[Zex,List.getElem?_drop] at hj
    exact hj)
   (fun j hj=>by
    rw[cell_of_row W3 _ _ _ _ _ hrow3,Array.getElem?_eq_getElem (by rw[ZaC];omega)]
    rfl) (fun j hj=>frozen_of_row W3 _ _ _ _ hrow3) (Zce _)
 have HFIN:Hid (Zyl w B (l.take i++(e::l.drop i)) (.returned (.slice (some ⟨W.heap.size,0,none⟩) (l.length+1) G)) (W3.setCells W.heap.size ((i+1)*3) (Zae (l.drop i)))):=ZZ (by
  refine⟨_,rfl,Zbh.ofRow (Zdr l i (by omega) e).symm hBM (ZaD _ _ _ _ W3 _ hrow3) (by rw[Zdr l i (by omega) e];exact hGn) hGm (by rw[ZaC,ZaC];exact hRs) (fun j hj=>?_),?_⟩
  ·rw[Zdr l i (by omega) e] at hj
   refine Zld l i (by omega) e (fun j=>(ZgY (ZgY ROW (i*3) (Zae [e])) ((i+1)*3) (Zae (l.drop i)))[j]?) (fun k hk=>?_) (fun k hk=>?_) (fun k hk=>?_) j hj
   ·show(ZgY (ZgY ROW (i*3) (Zae [e])) ((i+1)*3) (Zae (l.drop i)))[k]?=_
    rw[ZaV _ _ _ _ (by rw[ZaC];omega),if_neg (by omega),ZaV _ _ _ _ (by omega),if_neg (by omega)]
    exact hRc k hk
   ·show(ZgY (ZgY ROW (i*3) (Zae [e])) ((i+1)*3) (Zae (l.drop i)))[i*3+k]?=_
    rw[ZaV _ _ _ _ (by rw[ZaC];omega),if_neg (by omega),ZaV _ _ _ _ (by omega),if_pos (by omega),Nat.add_sub_cancel_left]
   ·show(ZgY (ZgY ROW (i*3) (Zae [e])) ((i+1)*3) (Zae (l.drop i)))[(i+1)*3+k]?=_
    rw[ZaV _ _ _ _ (by rw[ZaC];omega),if_pos (by omega),Nat.add_sub_cancel_left]
  ·exact Zcf hBM _ _ _ HB3.out)
 rw[hW3] at HFIN hcq2
 rw[hW2] at HFIN hcq2 hcq1
 clear hW3 hW2 hg3 hrow3 hrow hvW hgW hRs hRc hz3s HB3 HB1 hold hROW hc hs hg hg0 hv hm HB0 hdl hl3 htl hz2 hz1 hz0 hi0 hG hNM hgM hGm hkk hik hszW hN hBM
 have mixed:Tryz.prog.follows .mixedOrders=true:=by kernel_rfl
 have hz2:¬ ((i:Int)=(l.length:Int)):=by omega
 have hz3:((i:Int) == (l.length:Int))=false:=beq_eq_false_iff_ne.2 hz2
 have hw1:IntKind.i64.wrap ((i:Int)+1)=(i:Int)+1:=by rw[IntKind.wrap_i64];omega
 have hw2:IntKind.i64.wrap ((l.length:Int)+1)=(l.length:Int)+1:=by rw[IntKind.wrap_i64];omega
 have hb1:(0:Int)<=(i:Int)+1:=by omega
 have hin:i<=l.length:=by omega
 have hini:(i:Int)<=(l.length:Int):=by omega
 have hinc:(i:Int)<=(cap:Int):=by omega
 have hicc:i<=cap:=by omega
 have htn:((i:Int)+1).toNat=i+1:=by omega
 have htl:((l.length:Int)+1).toNat=l.length+1:=by omega
 have hb2:¬ (G=i+1):=by omega
 have hb3:(i:Int)<=(l.length:Int)+1:=by omega
 have hb4:¬ (cap=i):=by omega
 have hb4':¬ (G=i):=by omega
 have hb5:(cap:Int)<(l.length:Int)+1:=by omega
 have hb7:(i:Int)+1<=(l.length:Int)+1:=by omega
 have hlb:(l.length:Int)<=100000:=by omega
 have hw3:IntKind.i64.wrap ((l.length:Int)+1-(i:Int))=(l.length:Int)+1-(i:Int):=by rw[IntKind.wrap_i64];omega
 clear hB hBg hlt hlim
 generalize Zae (l.drop i)=dcs at *
 generalize Zae [e]=ecs at *
 generalize l.take i++(e::l.drop i)=LL at *
 go_enter Tryz.func88,Tryz.ntmps88
 go_wp2_with(first
  | (at_builtin;refine Lib.wpList_append_run _ rfl _ _ _ _ rfl _ _ rfl rfl _ _ (hrz _) ?_)
  | (at_builtin;refine wpList_copy_runI _ rfl _ _ 39 39 rfl _ _ rfl rfl (hcq1 _ _) ?_))
 go_region_law_o (refine step_copy_runI rfl _ _ 39 39 rfl _ _ (by simp[Act.eval,Act.put]) (by simp[Act.eval,Act.put]) (hcq2 _ _ _) ?_)
 go_wp2
 go_ret
 exact HFIN.out
theorem Zpp (v:Value) (l:List Ent) (B:Nat) (w:World) (ho:Zbh w B v l) (hB:B<=w.heap.size) (hlim:l.length<=100000) (i:Nat) (hi:i<=l.length) (e:Ent) (he:ZlY e) (I:Int) (hI:I=(i:Nat)) (N:Nat) (hN:N=w.heap.size):
 Calls Tryz.prog 88 #[v,.int .i64 I,.slice (some ⟨N,0,none⟩) 1 1] (w.alloc (.cells (ZeN e) 85)) fun x w'=>Zyl w B (l.take i++(e::l.drop i)) x w':=by
 by_cases h:i=l.length
 ·subst h
  exact Zpo v l B w ho hB hlim e he I hI N hN
 ·rcases ho.row with ⟨-,rfl⟩ | ⟨g,cap,cur,rfl,-⟩
  ·exact absurd (by simpa using hi) (by simpa using h)
  ·by_cases hr:l.length+1<=cap
   ·exact Znw g cap l B w ho hB i (by omega) hr e I hI N hN
   ·exact Znx g cap l B w ho hB i (by omega) (by omega) hlim e I hI N hN
theorem ZdA {l:List UInt8} {n:Int} (h0:0<=n) (h1:n<4611686018427387904):ZrA l n=l++Lib.uvarint n.toNat:=if_pos ⟨h0,h1⟩
theorem Zxd {n:Int} (h:I64 n):(Lib.uvarint (Lib.zigzag n)).length<=10:=Lib.uvarint_length64 (ZeS h)
theorem ZfX {n:Nat} (h:n<4611686018427387904):(Lib.uvarint n).length<=10:=Lib.uvarint_length64 (by omega)
theorem Zpq (w:World) (X Y:Obj):((w.alloc X).alloc Y).heap[w.heap.size+1]?=some Y:=by
 have h:=heap_alloc_new (w.alloc X) Y
 have e:(w.alloc X).heap.size=w.heap.size+1:=by simp
 rwa [e] at h
def Zug (w:World) (l:List UInt8) (e:Ending) (w':World):Prop:=
 e=.returned (.tuple #[opV (Zay l).1,.int .i64 ((Zay l).2:Nat)])∧Below w.heap.size w w'
def ZrL (r:Rec):Value:=.agg #[.int .i64 r.idx,.int .i64 r.proc,.int .i64 r.seq,.int .i64 r.op.code,.int .i64 r.op.a,.int .i64 r.op.b,.int .i64 r.resp]
def ZdG (r:Rec):Array Value:=#[.int .i64 r.idx,.int .i64 r.proc,.int .i64 r.seq,.int .i64 r.op.code,.int .i64 r.op.a,.int .i64 r.op.b,.int .i64 r.resp]
def Zfw (r:Rec):Prop:=I64 r.idx∧I64 r.proc∧I64 r.seq∧Zxo r.op∧I64 r.resp
def Br (w:World) (b:Nat) (cs:Array Value):Prop:=w.heap[b]?=some (.cells cs 62 (0,0))
theorem Br.lt {w:World} {b:Nat} {cs:Array Value} (h:Br w b cs):b<w.heap.size:=(Array.getElem?_eq_some_iff.1 h).1
theorem Br.below {w w':World} {b B:Nat} {cs:Array Value} (h:Br w b cs) (hb:Below B w w') (hB:w.heap.size<=B):Br w' b cs:=(hb.block b (by have:=h.lt;omega)).trans h
theorem Br.cell {w:World} {b:Nat} {cs:Array Value} (h:Br w b cs) (j:Nat):w.cell? ⟨b,j,none⟩=cs[j]?∧w.frozen? ⟨b,j,none⟩=false:=⟨cell_of_row w b j _ _ _ h,frozen_of_row w b j _ _ h⟩
end Go.Proofs.YtnahjngbneicaaaGreatDoor
