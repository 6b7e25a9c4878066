import Derived.Test.YtnahjngbneicaaaGreatDoorStorePartsM
namespace Go.Proofs.YtnahjngbneicaaaGreatDoor
set_option maxRecDepth 100000
structure ZeM (kind:Int) (x:SDk) (all:List Rec) (n c:Nat):Prop where
 room:Zqw x all n c
 now:x.1.now=(ZaG (ZbV kind) all).1
 took:(ZaG (ZbV kind) all).2=0
 first:x.1.log.first=0
 fits:∀ r ∈ all,ZaF r
theorem ZsZ {kind:Int} (h0:0<=kind) (h1:kind<6):ZeM kind (ZmK kind,ZfL 1000000) [] 0 0:=
 ⟨⟨ZwP 1000000 kind h0 h1,Zvq,Nat.le_refl _,fun h=>by cases h⟩,rfl,rfl,rfl,(fun r hr=>by cases hr)⟩
theorem ZeM.append {kind:Int} {x:SDk} {all:List Rec} {n c:Nat} (h:ZeM kind x all n c) {l:List Rec} (hf:ZaY l) (hi:(l.headD Zai).idx=x.1.next) (hl:l.length<=20) (hc:c+l.length<=4000):(ZaT l x).2=0∧ZeM kind (ZaT l x).1 (all++l) (n+1) (c+l.length):=by
 obtain⟨k1,k2⟩:=h.room.append hf hi hl hc
 refine⟨k1,k2,?_,?_,?_,fun r hr=>?_⟩
 ·obtain⟨s,d⟩:=x
  have hn:s.now=(ZaG (ZbV kind) all).1:=h.now
  have ht:=ZiY all l (ZbV kind)
  rw[if_pos h.took,<-hn] at ht
  rw[ht]
  unfold ZaT at k1 ⊢
  rw[if_neg (fun hh=>hh hf),if_neg (fun hh=>hh hi)] at k1 ⊢
  dsimp only at k1 ⊢
  split at k1
  ·rename_i h3
   rw[if_pos h3]
   rfl
  ·rename_i h3
   exact absurd k1 h3
 ·obtain⟨s,d⟩:=x
  have hn:s.now=(ZaG (ZbV kind) all).1:=h.now
  have hok:OkS s:=h.room.run.ok
  have hch:ZaO s.next l:=by
   have hi':(l.headD Zai).idx=s.next:=hi
   rw[<-hi']
   exact hf.2.2.2
  have ht:=ZiY all l (ZbV kind)
  rw[if_pos h.took,<-hn] at ht
  rw[ht]
  exact Zge l s.now (by rw[hok.nx];exact hch) hf.2.2.1
 ·obtain⟨s,d⟩:=x
  have hok:OkS s:=h.room.run.ok
  have hf0:s.log.first=0:=h.first
  unfold ZaT at k1 ⊢
  rw[if_neg (fun hh=>hh hf),if_neg (fun hh=>hh hi)] at k1 ⊢
  dsimp only at k1 ⊢
  split at k1
  ·rename_i h3
   rw[if_pos h3]
   show(if s.cur=0 then s.log.start (ZdJ s d) s.next else s.log).first=0
   split
   ·show(if s.log.pcs.length=0 then s.next else s.log.first)=0
    split
    ·rename_i h0
     have h1:=hok.log.empty h0
     have h2:s.next=s.log.first+s.log.recs.length:=rfl
     rw[h1] at h2
     simpa[hf0] using h2
    ·exact hf0
   ·exact hf0
  ·rename_i h3
   exact absurd k1 h3
 ·rcases List.mem_append.1 hr with hr | hr
  ·exact h.fits r hr
  ·exact hf.2.2.1 r hr
theorem ZeM.rotate {kind:Int} {x:SDk} {all:List Rec} {n c:Nat} (h:ZeM kind x all n c):(Zcc x).2=0∧ZeM kind (Zcc x).1 all n c:=by
 obtain⟨k1,k2⟩:=h.room.rotate
 have hn:=Zop x
 have hr:(Zcc x).1.1.now=x.1.now∧(Zcc x).1.1.log=x.1.log:=by
  unfold Zcc
  split
  ·exact⟨hn.1,hn.2.2⟩
  ·exact⟨hn.1,hn.2.2⟩
 exact⟨k1,k2,hr.1.trans h.now,h.took,by rw[hr.2];exact h.first,h.fits⟩
theorem ZeM.reads {kind:Int} {x:SDk} {all:List Rec} {n c:Nat} (h:ZeM kind x all n c):ZdO x.1 0 x.1.next=(all,0):=by
 have hl:=h.room.run.len
 rw[h.room.run.reads (by rw[h.first];exact Int.le_refl _) (by omega) (Int.le_refl _),hl]
 simp
theorem Zqy {next:Int} {o:SOp} (h:ZaY (ZcX next o)):((ZcX next o).headD Zai).idx=next:=by
 have h1:1<=(ZcX next o).length:=h.1
 unfold ZcX at h1 ⊢
 rw[List.length_map,List.length_range] at h1
 obtain⟨m,hm⟩:∃ m,min o.many.toNat 20=m+1:=⟨min o.many.toNat 20-1,by omega⟩
 rw[hm,List.range_succ_eq_map,List.map_cons]
 show next+((0:Nat):Int)=next
 omega
theorem ZwT {l:List Rec} (h:ZaY l) {k:Nat} (hk:k<l.length):ZaY [l.getD k Zai]∧(l.getD k Zai).idx=(l.headD Zai).idx+k:=by
 have hm:l.getD k Zai ∈ l:=by
  have:l.getD k Zai=l[k]:=by simp[List.getD,hk]
  rw[this]
  exact List.getElem_mem hk
 have hc:=ZoZ h.2.2.2 k (by omega)
 have hd:l.drop k=l.getD k Zai::l.drop (k+1):=by
  rw[List.drop_eq_getElem_cons hk]
  simp[List.getD,hk]
 rw[hd] at hc
 refine⟨⟨Nat.le_refl _,(show(1:Nat)<=256 by decide),fun r hr=>?_,⟨rfl,trivial⟩⟩,hc.1⟩
 rw[List.mem_singleton.1 hr]
 exact h.2.2.1 _ hm
theorem Zvr {l:List Rec} {k:Nat} (hk:k<l.length):l.take (k+1)=l.take k++[l.getD k Zai]:=ZwF hk Zai
theorem Zyj {l:List Rec} {k:Nat} (hk:k<l.length):(l.drop k).take (k+1-k)=[l.getD k Zai]:=by
 have hd:l.drop k=l.getD k Zai::l.drop (k+1):=by
  rw[List.drop_eq_getElem_cons hk]
  simp[List.getD,hk]
 rw[hd,show k+1-k=1 by omega]
 rfl
end Go.Proofs.YtnahjngbneicaaaGreatDoor
