import Derived.Test.YtchddaafibjmgaaGreatMA1
import Derived.BigRegion
set_option maxRecDepth 100000
set_option maxHeartbeats 20000000
namespace Go.Proofs.YtchddaafibjmgaaGreat
section
open Go.RowKit
def spareB:ByteArray:=⟨#[115,112,97,114,101]⟩
def qe7:Lab:=(spareB,ByteArray.empty)
def qci (L:List Lab):List Lab:=L++List.replicate 8 qe7
def qcy (L:List Lab) (k:Nat):List Lab:=(qci L).take k++List.replicate (L.length+8 - k) (ByteArray.empty,ByteArray.empty)
theorem qcg (L:List Lab):(qci L).length=L.length+8:=by simp [qci]
theorem fillLabs_length (L:List Lab) (k:Nat) (h:k≤L.length+8):(qcy L k).length=L.length+8:=by
 simp only [qcy,List.length_append,List.length_take,qcg,List.length_replicate];omega
theorem fillLabs_full (L:List Lab):qcy L (L.length+8)=qci L:=by
 simp [qcy,List.take_of_length_le,qcg]
theorem fillLabs_succ (L:List Lab) (k:Nat) (h:k < L.length+8):(qcy L k).set k (qab (qci L) k)=qcy L (k+1):=by
 have hk:k < (qci L).length:=by rw [qcg];exact h
 unfold qcy qab
 rw [List.getElem?_eq_getElem hk,Option.getD_some,List.take_succ_eq_append_getElem hk,List.set_append_right _ _ (by simp [qcg];omega),List.append_assoc]
 congr 1
 rw [List.length_take,Nat.min_eq_left (by omega),Nat.sub_self,show L.length+8 - k=(L.length+8 - (k+1))+1 from by omega,List.replicate_succ]
 rfl
theorem lentLabs_low (L:List Lab) (k:Nat) (h:k < L.length):qab (qci L) k=qab L k:=by
 simp [qab,qci,List.getElem?_append_left h]
theorem lentLabs_high (L:List Lab) (k:Nat) (h:L.length≤k) (h':k < L.length+8):qab (qci L) k=qe7:=by
 unfold qab qci
 rw [List.getElem?_append_right h,List.getElem?_replicate,if_pos (by omega)]
 rfl
theorem Tryz.infoAL:(Tryz.prog.info? 68).map (fun i=>(i.zero,i.size,i.bytes))=some (some (.slice none 0 0),1,24):=by kernel_rfl
theorem Tryz.infoRL:(Tryz.prog.info? 40).map (fun i=>(i.zero,i.size,i.bytes))=some (some (.slice none 0 0),1,24):=by kernel_rfl
structure Item where
 L:List Lab
 a:Option Addr
 cap:Nat
 blk:Nat
def Item.out (it:Item):Value:= .slice (some ⟨it.blk,0,none⟩) (it.L.length+8) (it.L.length+8)
def Item.want (it:Item):Value:= .slice it.a it.L.length it.cap
def qcu (X:Nat) (v1 v2:Value) (b:Nat):Prop:=b=X∨v1.ownBlock=some b∨v2.ownBlock=some b
def qes (X:Nat) (v1 v2:Value) (its:List Item) (b:Nat):Prop:=qcu X v1 v2 b∨ ∃ it∈its,it.blk=b
structure Lent (w:World) (X:Nat) (v1 v2:Value) (its:List Item):Prop where
 box:w.heap[X]? =some (.cells #[v1,v2] 65 (0,0))
 r1:w.ownsRow 0 68 1 v1 its.length (its.map Item.out)
 r2:w.ownsRow 0 40 1 v2 its.length (its.map Item.want)
 out: ∀ it∈its,w.heap[it.blk]? =some (.cells (qav (qci it.L)).toArray 85 (0,0))
 len: ∀ it∈its,0 < it.L.length∧it.L.length≤4398046511104
 want: ∀ it∈its,qbd w it.a it.L
 apart: ∀ it∈its,∀ p,it.a=some p→ ¬ qes X v1 v2 its p.block
 ne1:v1.ownBlock≠some X
 ne2:v2.ownBlock≠some X
 ne12: ∀ k,v2.ownBlock=some k→v1.ownBlock≠some k
 neI: ∀ it∈its,¬ qcu X v1 v2 it.blk
 nodup:(its.map (·.blk)).Nodup
theorem qbd.stays {F:Nat→Prop} {w w':World} {a:Option Addr} {L:List Lab} (h:qbd w a L) (hk:Kept F w w') (hF: ∀ p,a=some p→ ¬ F p.block):qbd w' a L:=by
 intro k hlt
 obtain ⟨b,off,e,h1,h2⟩:=h k hlt
 have hl:=World.block_lt_of_cell? w _ h1
 refine ⟨b,off,e,?_,?_⟩
 ·rw [← h1];exact hk.cell hl (hF ⟨b,off,none⟩ e)
 ·rw [← h2];exact hk.cell hl (hF ⟨b,off,none⟩ e)
theorem Lent.footLt {w:World} {X:Nat} {v1 v2:Value} {its:List Item} (H:Lent w X v1 v2 its) {b:Nat} (h:qes X v1 v2 its b):b < w.heap.size:=by
 rcases h with (rfl| h| h)| ⟨it,hi,rfl⟩
 ·exact qo H.box
 ·exact (H.r1.lt b h).2
 ·exact (H.r2.lt b h).2
 ·exact qo (H.out it hi)
theorem Lent.kept {F:Nat→Prop} {w w':World} {X:Nat} {v1 v2:Value} {its:List Item} (H:Lent w X v1 v2 its) (hk:Kept F w w') (hF: ∀ b,qes X v1 v2 its b→ ¬ F b)
  (hW: ∀ it∈its,∀ p,it.a=some p→ ¬ F p.block):Lent w' X v1 v2 its:=by
 refine ⟨?_,hk.ownsRow H.r1 fun k h=>hF k (.inl (.inr (.inl h))),hk.ownsRow H.r2 fun k h=>hF k (.inl (.inr (.inr h))),fun it hi=> ?_,H.len,fun it hi=>(H.want it hi).stays hk (hW it hi),H.apart,H.ne1,H.ne2,H.ne12,H.neI,H.nodup⟩
 ·rw [hk.block X (qo H.box) (hF X (.inl (.inl rfl)))];exact H.box
 ·rw [hk.block _ (qo (H.out it hi)) (hF _ (.inr ⟨it,hi,rfl⟩))];exact H.out it hi
theorem store_lab {w:World} {S:Nat} {M:List Lab} {e:TypeId} (h:w.heap[S]? =some (.cells (qav M).toArray e (0,0))) (k:Nat) (x:Lab):
  ((w.setCell ⟨S,k * 2,none⟩ (.string x.1)).setCell ⟨S,k * 2+1,none⟩ (.string x.2)).heap[S]? =some (.cells (qav (M.set k x)).toArray e (0,0)):=by
 rw [qs (qs h _) _,labCells_set]
 simp
theorem step_two {w wr w2:World} {X:Nat} {v1 v2:Value} {its:List Item} {o:Obj} (H:Lent w X v1 v2 its) (hbw:Below w.heap.size w wr) (hg:(wr.alloc o).grownBy w2 v1.ownBlock):
  w2.cell? ⟨X,0,none⟩=some v1∧w2.cell? ⟨X,1,none⟩=some v2∧w2.frozen? ⟨X,0,none⟩=false∧w2.frozen? ⟨X,1,none⟩=false∧
   ∀ v1',(w2.setCell ⟨X,0,none⟩ v1').ownsRow 0 40 1 v2 its.length (its.map Item.want):=by
 have hX:=qo H.box
 have K:Kept (fun b=>v1.ownBlock=some b) w w2:=((Kept.of_below hbw).alloc o).grown hg (fun k hk _=>hk)
 have hb:w2.heap[X]? =some (.cells #[v1,v2] 65 (0,0)):=by rw [K.block X hX H.ne1];exact H.box
 refine ⟨by rw [ql hb];rfl,by rw [ql hb];rfl,qp hb,qp hb,fun v1'=> ?_⟩
 have K':Kept (fun b=>v1.ownBlock=some b∨b=X) w (w2.setCell ⟨X,0,none⟩ v1'):=(K.mono (G:=fun b=>v1.ownBlock=some b∨b=X) (fun _ _ h=>Or.inl h)).setCell (p:=⟨X,0,none⟩) (fun _=>Or.inr rfl) v1'
 exact K'.ownsRow H.r2 (fun k hk hF=>hF.elim (H.ne12 k hk) (fun e=>H.ne2 (e▸hk)))
theorem step_three {w wr w2 w3:World} {X:Nat} {v1 v2 v1':Value} {its:List Item} {o o':Obj} (H:Lent w X v1 v2 its) (hbw:Below w.heap.size w wr) (hg:(wr.alloc o).grownBy w2 v1.ownBlock)
  (hg2:((w2.setCell ⟨X,0,none⟩ v1').alloc o').grownBy w3 v2.ownBlock):w3.heap[X]? =some (.cells #[v1',v2] 65 (0,0))∧Kept (qcu X v1 v2) w w3:=by
 have hX:=qo H.box
 have K:Kept (fun b=>v1.ownBlock=some b) w w2:=((Kept.of_below hbw).alloc o).grown hg (fun k hk _=>hk)
 have hb:w2.heap[X]? =some (.cells #[v1,v2] 65 (0,0)):=by rw [K.block X hX H.ne1];exact H.box
 have hX2:=qo hb
 constructor
 ·rw [hg2.block X (by simp [World.setCell];omega) (fun e=>H.ne2 e.symm),Below.heap_alloc _ _ _ (by simp [World.setCell];omega),qs hb]
  rfl
 ·exact ((((K.mono (G:=qcu X v1 v2) fun b _ h=> .inr (.inl h)).setCell (p:=⟨X,0,none⟩) (fun _=> .inl rfl) v1').alloc o').grown hg2 fun k hk _=> .inr (.inr hk))
theorem lend_close {L:List Lab} {a:Option Addr} {cap X:Nat} {w wr w2 w3:World} {v1 v2 v1' v2':Value} {its:List Item} {o o':Obj} (H:Lent w X v1 v2 its) (hbw:Below w.heap.size w wr)
  (hB:wr.heap[w.heap.size]? =some (.cells (qav (qci L)).toArray 85 (0,0))) (hl:L.length≤4398046511104) (h0:0 < L.length) (h:qbd w a L) (hap: ∀ p,a=some p→ ¬ qes X v1 v2 its p.block)
  (hg:(wr.alloc o).grownBy w2 v1.ownBlock) (hg2:((w2.setCell ⟨X,0,none⟩ v1').alloc o').grownBy w3 v2.ownBlock)
  (ho1:w2.ownsRow 0 68 1 v1' (its.length+1) (its.map Item.out++ [.slice (some ⟨w.heap.size,0,none⟩) (L.length+8) (L.length+8)]))
  (ho2:w3.ownsRow 0 40 1 v2' (its.length+1) (its.map Item.want++ [.slice a L.length cap]))
  (hf1:v1'.ownBlock=v1.ownBlock∨ ∀ k,v1'.ownBlock=some k→(wr.alloc o).heap.size≤k) (hf2:v2'.ownBlock=v2.ownBlock∨ ∀ k,v2'.ownBlock=some k→((w2.setCell ⟨X,0,none⟩ v1').alloc o').heap.size≤k):
  Lent (w3.setCell ⟨X,1,none⟩ v2') X v1' v2' (its++ [⟨L,a,cap,w.heap.size⟩])∧Kept (qcu X v1 v2) w (w3.setCell ⟨X,1,none⟩ v2')∧ ∀ k,qcu X v1' v2' k→qcu X v1 v2 k∨w.heap.size≤k:=by
 obtain ⟨s0,s1⟩:=step_three H hbw hg hg2
 have hX:=qo H.box
 have hS:=qo hB
 have z1:wr.heap.size < w2.heap.size:=by have:=hg.size;simp at this;omega
 have z2:w2.heap.size < w3.heap.size:=by have:=hg2.size;simp at this;omega
 -- the blocks of the new rows: the old ones,or new ones
 have b1: ∀ k,v1'.ownBlock=some k→v1.ownBlock=some k∨wr.heap.size < k:=fun k hk=>hf1.elim (fun e=> .inl (e▸hk)) (fun f=> .inr (by have:=f k hk;simp at this;omega))
 have b2: ∀ k,v2'.ownBlock=some k→v2.ownBlock=some k∨w2.heap.size < k:=fun k hk=>hf2.elim (fun e=> .inl (e▸hk)) (fun f=> .inr (by have:=f k hk;simp at this;omega))
 have l1: ∀ k,v1.ownBlock=some k→k < w.heap.size:=fun k hk=>(H.r1.lt k hk).2
 have l2: ∀ k,v2.ownBlock=some k→k < w.heap.size:=fun k hk=>(H.r2.lt k hk).2
 have l1': ∀ k,v1'.ownBlock=some k→k < w2.heap.size:=fun k hk=>(ho1.lt k hk).2
 have KW:Kept (qcu X v1 v2) w (w3.setCell ⟨X,1,none⟩ v2'):=s1.setCell (p:=⟨X,1,none⟩) (fun _=> .inl rfl) v2'
 have Kr:Kept (qcu X v1 v2) wr (w3.setCell ⟨X,1,none⟩ v2'):=
  (((((((Kept.refl _ wr).alloc o).grown hg fun k hk _=> .inr (.inl hk)).setCell (p:=⟨X,0,none⟩) (fun _=> .inl rfl) v1').alloc o').grown hg2 fun k hk _=> .inr (.inr hk)).setCell (p:=⟨X,1,none⟩) (fun _=> .inl rfl) v2')
 have K2:Kept (fun b=>b=X∨v2.ownBlock=some b) w2 (w3.setCell ⟨X,1,none⟩ v2'):=
  (((((Kept.refl _ w2).setCell (p:=⟨X,0,none⟩) (fun _=> .inl rfl) v1').alloc o').grown hg2 fun k hk _=> .inr hk).setCell (p:=⟨X,1,none⟩) (fun _=> .inl rfl) v2')
 have K3:Kept (fun b=>b=X) w3 (w3.setCell ⟨X,1,none⟩ v2'):=(Kept.refl (fun b=>b=X) w3).setCell (p:=⟨X,1,none⟩) (fun _=>rfl) v2'
 have bf: ∀ k,qcu X v1' v2' k→qcu X v1 v2 k∨wr.heap.size < k:=by
  rintro k (rfl| hk| hk)
  ·exact .inl (.inl rfl)
  ·exact (b1 k hk).elim (fun e=> .inl (.inr (.inl e))) .inr
  ·exact (b2 k hk).elim (fun e=> .inl (.inr (.inr e))) (fun e=> .inr (by omega))
 have blt: ∀ k,qcu X v1 v2 k→k < w.heap.size:=fun k hk=>H.footLt (.inl hk)
 have alt: ∀ p,a=some p→p.block < w.heap.size:=by
  intro p e
  obtain ⟨b,off,e',h1,_⟩:=h 0 h0
  rw [e] at e'
  simp only [Option.some.injEq] at e'
  subst e'
  exact World.block_lt_of_cell? w _ h1
 have ilt: ∀ it∈its,∀ p,it.a=some p→p.block < w.heap.size:=by
  intro it hi p e
  obtain ⟨b,off,e',h1,_⟩:=H.want it hi 0 (H.len it hi).1
  rw [e] at e'
  simp only [Option.some.injEq] at e'
  subst e'
  exact World.block_lt_of_cell? w _ h1
 refine ⟨⟨?_,?_,?_,?_,?_,?_,?_,?_,?_,?_,?_,?_⟩,KW,fun k hk=>(bf k hk).elim .inl (fun e=> .inr (by omega))⟩
 ·rw [qs s0];rfl
 ·have:=K2.ownsRow ho1 (fun k hk hF=> ?_)
  ·simpa [Item.out] using this
  ·rcases hF with rfl| hF
   ·exact (b1 _ hk).elim H.ne1 (fun e=>by omega)
   ·exact (b1 _ hk).elim (H.ne12 _ hF) (fun e=>by have:=l2 _ hF;omega)
 ·have:=K3.ownsRow ho2 (fun k hk hF=> ?_)
  ·simpa [Item.want] using this
  ·subst hF
   exact (b2 _ hk).elim H.ne2 (fun e=>by omega)
 ·intro it hi
  rcases List.mem_append.1 hi with hi| hi
  ·rw [KW.block _ (qo (H.out it hi)) (H.neI it hi)];exact H.out it hi
  ·simp only [List.mem_singleton] at hi
   subst hi
   rw [Kr.block _ hS (fun hF=>by have:=blt _ hF;omega)];exact hB
 ·intro it hi
  rcases List.mem_append.1 hi with hi| hi
  ·exact H.len it hi
  ·simp only [List.mem_singleton] at hi
   subst hi
   exact ⟨h0,hl⟩
 ·intro it hi
  rcases List.mem_append.1 hi with hi| hi
  ·exact (H.want it hi).stays KW (fun p e hF=>H.apart it hi p e (.inl hF))
  ·simp only [List.mem_singleton] at hi
   subst hi
   exact h.stays KW (fun p e hF=>hap p e (.inl hF))
 ·intro it hi p e hF
  have hp:p.block < w.heap.size∧ ¬ qes X v1 v2 its p.block:=by
   rcases List.mem_append.1 hi with hi| hi
   ·exact ⟨ilt it hi p e,H.apart it hi p e⟩
   ·simp only [List.mem_singleton] at hi
    subst hi
    exact ⟨alt p e,hap p e⟩
  rcases hF with hF| ⟨it',hi',e'⟩
  ·exact (bf _ hF).elim (fun g=>hp.2 (.inl g)) (fun g=>by omega)
  ·rcases List.mem_append.1 hi' with hi'| hi'
   ·exact hp.2 (.inr ⟨it',hi',e'⟩)
   ·simp only [List.mem_singleton] at hi'
    subst hi'
    simp only at e'
    omega
 ·exact fun e=>(b1 _ e).elim H.ne1 (fun g=>by omega)
 ·exact fun e=>(b2 _ e).elim H.ne2 (fun g=>by omega)
 ·intro k e2 e1
  rcases b2 k e2 with g| g
  ·exact (b1 k e1).elim (H.ne12 k g) (fun g'=>by have:=l2 k g;omega)
  ·have:=l1' k e1;omega
 ·intro it hi hF
  have hi':it.blk≤w.heap.size∧ ¬ qcu X v1 v2 it.blk:=by
   rcases List.mem_append.1 hi with hi| hi
   ·exact ⟨Nat.le_of_lt (qo (H.out it hi)),H.neI it hi⟩
   ·simp only [List.mem_singleton] at hi
    subst hi
    exact ⟨Nat.le_refl _,fun g=>by have:=blt _ g;simp only at this;omega⟩
  exact (bf _ hF).elim hi'.2 (fun g=>by omega)
 ·rw [List.map_append,List.nodup_append]
  refine ⟨H.nodup,by simp,fun x hx y hy e=> ?_⟩
  obtain ⟨it,hi,rfl⟩:=List.mem_map.1 hx
  simp only [List.map_cons,List.map_nil,List.mem_singleton] at hy
  have:=qo (H.out it hi)
  omega
theorem round_in {wr:World} {S:Nat} {L:List Lab} {k:Nat} {e:TypeId} (h:wr.heap[S]? =some (.cells (qav (qcy L k)).toArray e (0,0))) (hin:k < L.length):
  ((((wr.setCell ⟨S,k * 2,none⟩ (.string ⟨#[115,112,97,114,101]⟩)).setCell ⟨S,k * 2+1,none⟩ (.string ⟨#[]⟩)).setCell ⟨S,k * 2,none⟩ (.string (qab L k).1)).setCell ⟨S,k * 2+1,none⟩ (.string (qab L k).2)).drew.heap[S]? =
   some (.cells (qav (qcy L (k+1))).toArray e (0,0)):=by
 have e2:=store_lab (store_lab h k qe7) k (qab L k)
 rw [List.set_set] at e2
 refine Eq.trans e2 ?_
 rw [← lentLabs_low L k hin,fillLabs_succ L k (by omega)]
theorem round_out {wr:World} {S:Nat} {L:List Lab} {k:Nat} {e:TypeId} (h:wr.heap[S]? =some (.cells (qav (qcy L k)).toArray e (0,0))) (hin: ¬ k < L.length) (hlt:k < L.length+8):
  ((wr.setCell ⟨S,k * 2,none⟩ (.string ⟨#[115,112,97,114,101]⟩)).setCell ⟨S,k * 2+1,none⟩ (.string ⟨#[]⟩)).heap[S]? =some (.cells (qav (qcy L (k+1))).toArray e (0,0)):=by
 have e2:=store_lab h k qe7
 refine Eq.trans e2 ?_
 rw [← lentLabs_high L k (by omega) hlt,fillLabs_succ L k hlt]
theorem lend_some (L:List Lab) (a:Option Addr) (cap X:Nat) (v1 v2:Value) (its:List Item) (w:World) (hl:L.length≤4398046511104) (h0:0 < L.length) (h:qbd w a L) (H:Lent w X v1 v2 its) (hits:its.length≤1000)
  (hap: ∀ p,a=some p→ ¬ qes X v1 v2 its p.block):
  Calls Tryz.prog 43 #[.pointer (some ⟨X,0,none⟩),.slice a L.length cap] w fun e w'=> ∃ v1' v2' B,e= .returned (.slice (some ⟨B,0,none⟩) L.length (L.length+8))∧w.heap.size≤B∧
   Lent w' X v1' v2' (its++ [⟨L,a,cap,B⟩])∧Kept (qcu X v1 v2) w w'∧ ∀ k,qcu X v1' v2' k→qcu X v1 v2 k∨w.heap.size≤k:=by
 obtain ⟨i0,hi,hz0,hz1,hz2⟩:=info_parts Tryz.infoLab
 go_enter Tryz.func43,Tryz.ntmps43
 go_wp2_with (at_make;refine qfw _ rfl _ _ 68 rfl 85 i0 _ 2 Tryz.underlying68 hi hz0 hz1 _ _ _ _ (L.length+8) rfl rfl (by omega) (by omega) (by rw [hz2];omega) (by unfold maxLen;omega) ?_;intro w1 hn1 hb1)
 clear hi hz0 hz1 hz2
 go_loopw [6] (fun i wr=> ∃ k:Nat,k≤L.length+8∧i= .int .i64 k∧Below w.heap.size w wr∧wr.heap[w.heap.size]? =some (.cells (qav (qcy L k)).toArray 85 (0,0))) (fun i _=>L.length+8 - (intOf i).toNat)
 case atStart=>exact ⟨0,Nat.zero_le _,rfl,hb1,by rw [hn1];congr 2;exact made_labs _⟩
 case round=>
  obtain ⟨k,hk,rfl,hbw,hB⟩:=hrel
  by_cases hlt:k < L.length+8
  ·obtain ⟨hc1,hc2⟩:=qcp (qcy L k) k (by rw [fillLabs_length L k hk];exact hlt)
   have hs1:wr.cell? ⟨w.heap.size,k * 2,none⟩=some (.string (qab (qcy L k) k).1):=by rw [ql hB];simpa using hc1
   have hs2:wr.cell? ⟨w.heap.size,k * 2+1,none⟩=some (.string (qab (qcy L k) k).2):=by rw [ql hB];simpa using hc2
   have hf1:wr.frozen? ⟨w.heap.size,k * 2,none⟩=false:=qp hB
   have hf2:wr.frozen? ⟨w.heap.size,k * 2+1,none⟩=false:=qp hB
   clear hc1 hc2
   have HB:Hid (wr.heap[w.heap.size]? =some (.cells (qav (qcy L k)).toArray 85 (0,0))):=hB
   clear hB
   by_cases hin:k < L.length
   ·obtain ⟨b,off,rfl,hc⟩:=h.head (by omega)
    obtain ⟨hc1,hc2⟩:=hc k hin
    have hbl:b < w.heap.size:=World.block_lt_of_cell? w _ hc1
    have hd1:wr.cell? ⟨b,off+k * 2,none⟩=some (.string (qab L k).1):=by rw [← hc1];exact hbw.cell hbl
    have hd2:wr.cell? ⟨b,off+k * 2+1,none⟩=some (.string (qab L k).2):=by rw [← hc2];exact hbw.cell hbl
    clear hc hc1 hc2
    go_wp2
    go_region
    go_wp2
    go_roundw
    case rel=>
     refine ⟨k+1,by omega,by go_num,?_,round_in HB.out hin⟩
     exact ((((hbw.setCell (Nat.le_refl _) _).setCell (Nat.le_refl _) _).setCell (Nat.le_refl _) _).setCell (Nat.le_refl _) _).drew
    case measure=>simp [intOf];omega
   ·go_wp2
    go_roundw
    case rel=>
     refine ⟨k+1,by omega,by go_num,?_,round_out HB.out hin hlt⟩
     exact (hbw.setCell (Nat.le_refl _) _).setCell (Nat.le_refl _) _
    case measure=>simp [intOf];omega
  ·obtain rfl:k=L.length+8:=by omega
   rw [fillLabs_full] at hB
   have hX:X < w.heap.size:=qo H.box
   have hbox:wr.heap[X]? =some (.cells #[v1,v2] 65 (0,0)):=by rw [hbw.block X hX];exact H.box
   have hx0:wr.cell? ⟨X,0,none⟩=some v1:=by rw [ql hbox];rfl
   have hx1:wr.cell? ⟨X,1,none⟩=some v2:=by rw [ql hbox];rfl
   have hfx0:wr.frozen? ⟨X,0,none⟩=false:=qp hbox
   have hr1:wr.ownsRow 0 68 1 v1 its.length (its.map Item.out):=(Kept.of_below (F:=qq) hbw).ownsRow H.r1 (fun _ _=>id)
   have HB:Hid (wr.heap[w.heap.size]? =some (.cells (qav (qci L)).toArray 85 (0,0))):=hB
   have hX':X < wr.heap.size:=qo hbox
   obtain ⟨i1,hi1,hz10,hz11,hz12⟩:=info_parts Tryz.infoAL
   obtain ⟨i2,hi2,hz20,hz21,hz22⟩:=info_parts Tryz.infoRL
   clear hB hbox
   go_wp2_with (first
    | (at_builtin;refine qy _ rfl (.tmp 46) (.tmp 48) 62 rfl 68 i1 _ 1 24 Tryz.underlying62 hi1 hz10 hz11 hz12 rfl (by decide) v1 its.length _ rfl (by exact hr1.alloc _) ⟨wr.heap.size,0,none⟩ 1 1 [.slice (some ⟨w.heap.size,0,none⟩) (L.length+8) (L.length+8)] rfl rfl (by exact cell_one_new _ _ _) (by intro u hu;simp at hu;subst hu;rfl) (by unfold maxLen;omega) (by omega) ?_;intro ao1 cp1 w2 ho1 hg1 hf1;obtain ⟨q0,q1,q2,q3,q4⟩:=step_two (w:=w) (wr:=wr) H hbw hg1)
    | (at_builtin;refine qy _ rfl (.tmp 56) (.tmp 58) 63 rfl 40 i2 _ 1 24 Tryz.underlying63 hi2 hz20 hz21 hz22 rfl (by decide) v2 its.length _ rfl (by exact (q4 _).alloc _) ⟨w2.heap.size,0,none⟩ 1 1 [.slice a L.length cap] rfl rfl (by exact cell_one_new' _ _ _ _ (qej _ _ _).symm) (by intro u hu;simp at hu;subst hu;rfl) (by unfold maxLen;omega) (by omega) ?_;intro ao2 cp2 w3 ho2 hg2 hf2;obtain ⟨s0,s1⟩:=step_three (w:=w) (wr:=wr) H hbw hg1 hg2;have t1:=ql (i:=1) s0;have t2:=qp (i:=1) s0;clear s0 s1 q0 q1 q2 q3))
   go_ret
   exact ⟨_,_,w.heap.size,rfl,Nat.le_refl _,lend_close H hbw HB.out hl h0 h hap hg1 hg2 ho1 ho2 hf1 hf2⟩
def Out (its:List Item) (a:Option Addr) (L:List Lab):Prop:=L= []∨ ∃ it∈its,it.L=L∧a=some ⟨it.blk,0,none⟩
theorem Out.labs {w:World} {X:Nat} {v1 v2:Value} {its:List Item} {a:Option Addr} {L:List Lab} (h:Out its a L) (H:Lent w X v1 v2 its):qbd w a L:=by
 rcases h with rfl| ⟨it,hi,rfl,rfl⟩
 ·exact qbd.nil _ _
 ·intro k hk
  have hb:=H.out it hi
  obtain ⟨g1,g2⟩:=qcp (qci it.L) k (by rw [qcg];omega)
  rw [lentLabs_low _ _ hk] at g1 g2
  refine ⟨it.blk,0,rfl,?_,?_⟩
  ·rw [ql hb];simpa using g1
  ·rw [ql hb];simpa using g2
theorem Out.mono {its its':List Item} {a:Option Addr} {L:List Lab} (h:Out its a L) (hs: ∀ it∈its,it∈its'):Out its' a L:=
 h.elim .inl (fun ⟨it,hi,r⟩=> .inr ⟨it,hs it hi,r⟩)
theorem lend_none (a:Option Addr) (cap X:Nat) (w:World):
  Calls Tryz.prog 43 #[.pointer (some ⟨X,0,none⟩),.slice a 0 cap] w fun e w'=>e= .returned (.slice none 0 0)∧w'=w:=by
 go_enter Tryz.func43,Tryz.ntmps43
 go_wp2
 go_ret
 exact ⟨rfl,rfl⟩
theorem lend_any (L:List Lab) (a:Option Addr) (cap X:Nat) (v1 v2:Value) (its:List Item) (w:World) (hl:L.length≤4398046511104) (h:qbd w a L) (H:Lent w X v1 v2 its) (hits:its.length≤1000)
  (hap:0 < L.length→ ∀ p,a=some p→ ¬ qes X v1 v2 its p.block):
  Calls Tryz.prog 43 #[.pointer (some ⟨X,0,none⟩),.slice a L.length cap] w fun e w'=> ∃ a' c' v1' v2' its',e= .returned (.slice a' L.length c')∧Out its' a' L∧L.length≤c'∧Lent w' X v1' v2' its'∧
   Kept (qcu X v1 v2) w w'∧(∀ k,qcu X v1' v2' k→qcu X v1 v2 k∨w.heap.size≤k)∧its'.length≤its.length+1∧(∀ it∈its,it∈its')∧(∀ it∈its',it∈its∨(0 < L.length∧it.a=a∧w.heap.size≤it.blk)):=by
 cases L with
 | nil=>
  refine (lend_none a cap X w).mono ?_
  rintro e w' ⟨rfl,rfl⟩
  exact ⟨none,0,v1,v2,its,rfl,.inl rfl,by simp,H,Kept.refl _ _,fun k hk=> .inl hk,by omega,fun it hi=>hi,fun it hi=> .inl hi⟩
 | cons x L=>
  refine (lend_some (x::L) a cap X v1 v2 its w hl (by simp) h H hits (hap (by simp))).mono ?_
  rintro e w' ⟨v1',v2',B,rfl,hB,H',K,hf⟩
  refine ⟨_,_,v1',v2',_,rfl,.inr ⟨⟨x::L,a,cap,B⟩,by simp,rfl,rfl⟩,by omega,H',K,hf,by simp,fun it hi=>by simp [hi],fun it hi=> ?_⟩
  rcases List.mem_append.1 hi with hi| hi
  ·exact .inl hi
  ·simp only [List.mem_singleton] at hi
   subst hi
   exact .inr ⟨by simp,rfl,hB⟩
end
section
open Go.RowKit
theorem labEq_refl (x:Lab):labEq x x=true:=by simp [labEq]
def zoneLab:Lab:=(⟨#[122,111,110,101]⟩,⟨#[111,116,104,101,114]⟩)
def qd0 (L:List Lab) (m:Nat):List Lab:=List.replicate m zoneLab++(qci L).drop m
theorem overLabs_length (L:List Lab) (m:Nat) (h:m≤L.length+8):(qd0 L m).length=L.length+8:=by
 simp only [qd0,List.length_append,List.length_replicate,List.length_drop,qcg];omega
theorem overLabs_at (L:List Lab) (m:Nat):qab (qd0 L m) m=qab (qci L) m:=by
 unfold qab qd0
 rw [List.getElem?_append_right (by simp)]
 simp
theorem overLabs_succ (L:List Lab) (m:Nat) (h:m < L.length+8):(qd0 L m).set m zoneLab=qd0 L (m+1):=by
 unfold qd0
 rw [List.set_append_right _ _ (by simp),List.length_replicate,Nat.sub_self,List.drop_eq_getElem_cons (by rw [qcg];exact h),List.set_cons_zero,List.replicate_succ',List.append_assoc]
 rfl
theorem still_fresh {its:List Item} {k:Nat} {it:Item} (h:(its.map (·.blk)).Nodup) (hlt:k < its.length) (e:it=its[k]): ¬ ∃ it'∈its.take k,it'.blk=it.blk:=by
 rintro ⟨it',hi,hb⟩
 obtain ⟨j,hj,e'⟩:=List.getElem_of_mem hi
 have hjk:j < k:=by simp at hj;omega
 rw [List.getElem_take] at e'
 have:=(List.pairwise_iff_getElem.1 h) j k (by simp;omega) (by simpa using hlt) hjk
 simp only [List.getElem_map] at this
 exact this (by rw [e',hb,e])
theorem still_facts {X:Nat} {v1:Value} {g2 c2:Nat} {its:List Item} {w ws:World} {j k:Nat} (H:Lent w X v1 (.slice (some ⟨g2,0,none⟩) its.length c2) its) (hK:Kept (fun b=> ∃ it∈its.take j,it.blk=b) w ws) (hlt:k < its.length):
  ws.heap[X]? =some (.cells #[v1,.slice (some ⟨g2,0,none⟩) its.length c2] 65 (0,0))∧ws.cell? ⟨g2,k,none⟩=some (its[k].want)∧qbd ws its[k].a its[k].L∧X < ws.heap.size∧g2 < ws.heap.size:=by
 have hin: ∀ b,qcu X v1 (.slice (some ⟨g2,0,none⟩) its.length c2) b→ ¬ ∃ it∈its.take j,it.blk=b:=fun b hb ⟨it,hi,e⟩=>H.neI it (List.mem_of_mem_take hi) (e▸hb)
 have hbox:=(hK.block X (qo H.box) (hin X (.inl rfl))).trans H.box
 have hr2:=hK.ownsRow H.r2 (fun b hb=>hin b (.inr (.inr hb)))
 obtain ⟨g,e,hg2,hc2⟩:=own_at hr2 (by omega)
 simp only [Option.some.injEq,Addr.mk.injEq,and_true] at e
 subst e
 refine ⟨hbox,by rw [hc2 k hlt];simp [hlt],?_,qo hbox,hg2⟩
 refine (H.want _ (List.getElem_mem hlt)).stays hK fun p e hF=>H.apart _ (List.getElem_mem hlt) p e (.inr ?_)
 obtain ⟨it,hi,e⟩:=hF
 exact ⟨it,List.mem_of_mem_take hi,e⟩
theorem still_mem {its:List Item} {k:Nat} {it:Item} (hlt:k < its.length) (e:it=its[k]): ∃ it'∈its.take (k+1),it'.blk=it.blk:=
 ⟨it,by rw [List.take_succ_eq_append_getElem hlt,← e];simp,rfl⟩
theorem over_round {F:Nat→Prop} {w W1:World} {blk m:Nat} {L:List Lab} (K:Kept F w W1) (hF:F blk) (hb:W1.heap[blk]? =some (.cells (qav (qd0 L m)).toArray 85 (0,0))) (hm:m < L.length+8):
  Kept F w ((W1.setCell ⟨blk,m * 2,none⟩ (.string ⟨#[122,111,110,101]⟩)).setCell ⟨blk,m * 2+1,none⟩ (.string ⟨#[111,116,104,101,114]⟩))∧
   ((W1.setCell ⟨blk,m * 2,none⟩ (.string ⟨#[122,111,110,101]⟩)).setCell ⟨blk,m * 2+1,none⟩ (.string ⟨#[111,116,104,101,114]⟩)).heap[blk]? =some (.cells (qav (qd0 L (m+1))).toArray 85 (0,0)):=by
 refine ⟨(K.setCell (p:=⟨blk,m * 2,none⟩) (fun _=>hF) _).setCell (p:=⟨blk,m * 2+1,none⟩) (fun _=>hF) _,?_⟩
 rw [← overLabs_succ L m hm]
 exact store_lab hb m zoneLab
theorem still_close {X:Nat} {v1 v2:Value} {its:List Item} {w wr:World} {k:Nat} (hK:Kept (fun b=> ∃ it∈its.take k,it.blk=b) w wr) (hb:wr.heap[X]? =some (.cells #[v1,v2] 65 (0,0))):
  Lent ((wr.setCell ⟨X,0,none⟩ (.slice none 0 0)).setCell ⟨X,1,none⟩ (.slice none 0 0)) X (.slice none 0 0) (.slice none 0 0) []∧
   Kept (qes X v1 v2 its) w ((wr.setCell ⟨X,0,none⟩ (.slice none 0 0)).setCell ⟨X,1,none⟩ (.slice none 0 0)):=by
 refine ⟨⟨?_,World.ownsRow_nil _ _ _ _,World.ownsRow_nil _ _ _ _,by simp,by simp,by simp,by simp,by simp [Value.ownBlock],by simp [Value.ownBlock],by simp [Value.ownBlock],by simp,by simp⟩,?_⟩
 ·rw [qs (qs hb _)];rfl
 ·have:=hK.mono (G:=qes X v1 v2 its) fun b _ ⟨it,hi,e⟩=> .inr ⟨it,List.mem_of_mem_take hi,e⟩
  exact (this.setCell (p:=⟨X,0,none⟩) (fun _=> .inl (.inl rfl)) _).setCell (p:=⟨X,1,none⟩) (fun _=> .inl (.inl rfl)) _
theorem still_any (X:Nat) (v1 v2:Value) (its:List Item) (w:World) (H:Lent w X v1 v2 its) (hits:its.length≤100000):
  Calls Tryz.prog 10 #[.pointer (some ⟨X,0,none⟩)] w fun e w'=>e= .returned (.bool true)∧Lent w' X (.slice none 0 0) (.slice none 0 0) []∧Kept (qes X v1 v2 its) w w':=by
 obtain ⟨a1,c1,rfl⟩:=qv H.r1
 obtain ⟨a2,c2,rfl⟩:=qv H.r2
 have hX:=qo H.box
 have hx0:w.cell? ⟨X,0,none⟩=some (.slice a1 its.length c1):=by rw [ql H.box];rfl
 go_enter Tryz.func10,Tryz.ntmps10
 go_wp2
 go_loopw [3,4] (fun ok i wr=> ∃ k:Nat,k≤its.length∧i= .int .i64 k∧ok= .bool true∧Kept (fun b=> ∃ it∈its.take k,it.blk=b) w wr) (fun _ i _=>its.length - (intOf i).toNat)
 case atStart=>exact ⟨0,Nat.zero_le _,rfl,rfl,Kept.refl _ _⟩
 case round=>
  obtain ⟨k,hk,rfl,rfl,hK⟩:=hrel
  have hin: ∀ b,qcu X (.slice a1 its.length c1) (.slice a2 its.length c2) b→ ¬ ∃ it∈its.take k,it.blk=b:=fun b hb ⟨it,hi,e⟩=>H.neI it (List.mem_of_mem_take hi) (e▸hb)
  have hbox:wr.heap[X]? =_:=(hK.block X hX (hin X (.inl rfl))).trans H.box
  have hx0:wr.cell? ⟨X,0,none⟩=some (.slice a1 its.length c1):=by rw [ql hbox];rfl
  have hx1:wr.cell? ⟨X,1,none⟩=some (.slice a2 its.length c2):=by rw [ql hbox];rfl
  have hfx0:wr.frozen? ⟨X,0,none⟩=false:=qp hbox
  have hfx1:wr.frozen? ⟨X,1,none⟩=false:=qp hbox
  by_cases hlt:k < its.length
  ·have hr1:=hK.ownsRow H.r1 (fun b hb=>hin b (.inr (.inl hb)))
   have hr2:=hK.ownsRow H.r2 (fun b hb=>hin b (.inr (.inr hb)))
   obtain ⟨g1,rfl,hg1,hc1⟩:=own_at hr1 (by omega)
   obtain ⟨g2,rfl,hg2,hc2⟩:=own_at hr2 (by omega)
   have hd1:wr.cell? ⟨g1,k,none⟩=some (its[k].out):=by rw [hc1 k hlt];simp [hlt]
   have hd2:wr.cell? ⟨g2,k,none⟩=some (its[k].want):=by rw [hc2 k hlt];simp [hlt]
   clear hc1 hc2 hr1 hr2
   obtain ⟨it,hit⟩: ∃ it,it=its[k]:=⟨_,rfl⟩
   rw [← hit] at hd1 hd2
   have him:it∈its:=hit▸List.getElem_mem hlt
   unfold Item.out at hd1
   unfold Item.want at hd2
   have Hit:Hid (it=its[k]):=hit
   clear hit hbox
   obtain ⟨hl0,hl1⟩:=H.len it him
   go_wp2
   have hb0:wr.heap[it.blk]? =some (.cells (qav (qd0 it.L 0)).toArray 85 (0,0)):=by
    refine (hK.block _ (qo (H.out it him)) (still_fresh H.nodup hlt Hit.out)).trans ?_
    rw [H.out it him];rfl
   have hK0:Kept (fun b=> ∃ it∈its.take (k+1),it.blk=b) w wr:=hK.mono fun b _ ⟨it,hi,e⟩=>⟨it,List.mem_of_mem_take (i:=k) (by rw [List.take_take,Nat.min_eq_left (by omega)];exact hi),e⟩
   clear hx0 hx1 hfx0 hfx1 hd1 hd2
   go_loopw [3,6] (fun ok i ws=> ∃ m:Nat,m≤it.L.length+8∧i= .int .i64 m∧ok= .bool true∧Kept (fun b=> ∃ it∈its.take (k+1),it.blk=b) w ws∧ws.heap[it.blk]? =some (.cells (qav (qd0 it.L m)).toArray 85 (0,0))) (fun _ i _=>it.L.length+8 - (intOf i).toNat)
   case atStart=>exact ⟨0,Nat.zero_le _,rfl,rfl,hK0,hb0⟩
   case round=>
    obtain ⟨m,hm,rfl,rfl,hKs,hbs⟩:=hrel
    by_cases hmt:m < it.L.length+8
    ·obtain ⟨hbox,hd2,hW,hXs,hgs⟩:=still_facts H hKs hlt
     rw [← Hit.out] at hd2 hW
     unfold Item.want at hd2
     have hx1:wr.cell? ⟨X,1,none⟩=some (.slice (some ⟨g2,0,none⟩) its.length c2):=by rw [ql hbox];rfl
     have hbl:=qo hbs
     obtain ⟨hc1,hc2⟩:=qcp (qd0 it.L m) m (by rw [overLabs_length _ _ hm];exact hmt)
     rw [overLabs_at] at hc1 hc2
     have he1:wr.cell? ⟨it.blk,m * 2,none⟩=some (.string (qab (qci it.L) m).1):=by rw [ql hbs];simpa using hc1
     have he2:wr.cell? ⟨it.blk,m * 2+1,none⟩=some (.string (qab (qci it.L) m).2):=by rw [ql hbs];simpa using hc2
     have hf1:wr.frozen? ⟨it.blk,m * 2,none⟩=false:=qp hbs
     have hf2:wr.frozen? ⟨it.blk,m * 2+1,none⟩=false:=qp hbs
     have HB:Hid (wr.heap[it.blk]? =some (.cells (qav (qd0 it.L m)).toArray 85 (0,0))):=hbs
     clear hc1 hc2 hbs hbox hb0
     by_cases hin':m < it.L.length
     ·obtain ⟨b,off,ha,hc⟩:=hW.head (by omega)
      obtain ⟨hc1,hc2⟩:=hc m hin'
      have hb':=World.block_lt_of_cell? wr _ hc1
      rw [ha] at hd2
      rw [lentLabs_low _ _ hin'] at he1 he2
      clear hc hW
      have heq:=fun w=>(eql_api (qab it.L m).1 (qab it.L m).2 (qab it.L m).1 (qab it.L m).2 w).trans (congrArg (fun q=>Result.ok (Value.bool q) w) (labEq_refl (qab it.L m)))
      go_wp2
      go_region
      go_wp2
      go_quiet (fail)
      go_wp2
      go_roundw
      case rel=>exact ⟨m+1,by omega,by go_num,rfl,over_round ((hKs.alloc _).drewN _) (still_mem hlt Hit.out) ((Below.heap_alloc _ _ _ hbl).trans HB.out) hmt⟩
      case measure=>simp [intOf];omega
     ·rw [lentLabs_high _ _ (by omega) hmt] at he1 he2
      have heq:=fun w=>(eql_api qe7.1 qe7.2 qe7.1 qe7.2 w).trans (congrArg (fun q=>Result.ok (Value.bool q) w) (labEq_refl qe7))
      unfold qe7 spareB at he1 he2 heq
      clear hW
      go_wp2
      go_quiet (fail)
      go_wp2
      go_roundw
      case rel=>exact ⟨m+1,by omega,by go_num,rfl,over_round ((hKs.alloc _).drewN _) (still_mem hlt Hit.out) ((Below.heap_alloc _ _ _ hbl).trans HB.out) hmt⟩
      case measure=>simp [intOf];omega
    ·go_wp2
     go_roundw
     case rel=>exact ⟨k+1,by omega,by go_num,rfl,hKs⟩
     case measure=>simp [intOf];omega
  ·have Hbox:Hid (wr.heap[X]? =some (.cells #[.slice a1 its.length c1,.slice a2 its.length c2] 65 (0,0))):=hbox
   clear hbox
   go_wp2
   go_ret
   exact ⟨rfl,still_close hK Hbox.out⟩
end
section
open Go.RowKit
def qe3 (C P:Nat→Prop) (w:World) (X:Nat) (its:List Item):Prop:=
 ∃ v1 v2,Lent w X v1 v2 its∧(∀ k,qes X v1 v2 its k→P k)∧ ∀ it∈its,∀ p,it.a=some p→C p.block
theorem qe3.mono {C P Q:Nat→Prop} {w:World} {X:Nat} {its:List Item} (h:qe3 C P w X its) (hq: ∀ k,P k→Q k):qe3 C Q w X its:=by
 obtain ⟨v1,v2,H,hf,hw⟩:=h
 exact ⟨v1,v2,H,fun k hk=>hq k (hf k hk),hw⟩
theorem qe3.kept {C P F:Nat→Prop} {w w':World} {X:Nat} {its:List Item} (h:qe3 C P w X its) (hk:Kept F w w') (hP: ∀ k,P k→ ¬ F k) (hC: ∀ k,C k→ ¬ F k):qe3 C P w' X its:=by
 obtain ⟨v1,v2,H,hf,hw⟩:=h
 exact ⟨v1,v2,H.kept hk (fun b hb=>hP b (hf b hb)) (fun it hi p e=>hC _ (hw it hi p e)),hf,hw⟩
theorem qe3.labs {C P:Nat→Prop} {w:World} {X:Nat} {its:List Item} {a:Option Addr} {L:List Lab} (h:qe3 C P w X its) (ho:Out its a L):qbd w a L:=by
 obtain ⟨v1,v2,H,_⟩:=h
 exact ho.labs H
structure LentI (C P:Nat→Prop) (W0 w:World) (X:Nat) (its:List Item):Prop where
 lent:qe3 C (grow P W0 w) w X its
 kept:Kept P W0 w
 cp: ∀ k,C k→ ¬ P k
 cb: ∀ k,C k→k < W0.heap.size
theorem LentI.refl {C P:Nat→Prop} {w:World} {X:Nat} {its:List Item} (h:qe3 C P w X its) (cp: ∀ k,C k→ ¬ P k) (cb: ∀ k,C k→k < w.heap.size):LentI C P w w X its:=
 ⟨h.mono fun _ hk=> .inl hk,Kept.refl _ _,cp,cb⟩
theorem LentI.drew {C P:Nat→Prop} {W0 w:World} {X:Nat} {its:List Item} (h:LentI C P W0 w X its):LentI C P W0 w.drew X its:=by
 obtain ⟨⟨v1,v2,Hl,hf,hw⟩,hk,cp,cb⟩:=h
 exact ⟨⟨v1,v2,Hl.kept ((Kept.refl qq _).drew) (fun _ _=>id) (fun _ _ _ _=>id),hf,hw⟩,hk.drew,cp,cb⟩
theorem LentI.still {C P:Nat→Prop} {W0 w:World} {X:Nat} {its:List Item} (h:LentI C P W0 w X its) {b:Nat} (hb:b < W0.heap.size) (hP: ¬ P b):
  (∀ o,w.cell? ⟨b,o,none⟩=W0.cell? ⟨b,o,none⟩)∧(∀ o,w.frozen? ⟨b,o,none⟩=W0.frozen? ⟨b,o,none⟩):=
 ⟨fun o=>h.kept.cell (p:=⟨b,o,none⟩) hb hP,fun o=>h.kept.frozen (p:=⟨b,o,none⟩) hb hP⟩
def Lst.inC (C:Nat→Prop) (x:Lst):Prop:=0 < x.L.length→ ∀ p,x.a=some p→C p.block
def Lst.outOf (its:List Item) (x y:Lst):Prop:=y.L=x.L∧y.L.length≤y.cap∧Out its y.a y.L
theorem Lst.outOf.mono {its its':List Item} {x y:Lst} (h:x.outOf its y) (hs: ∀ it∈its,it∈its'):x.outOf its' y:=⟨h.1,h.2.1,h.2.2.mono hs⟩
theorem qf3 (C P:Nat→Prop) (W0 w:World) (X:Nat) (its:List Item) (x:Lst) (H:LentI C P W0 w X its) (hx:x.ok W0) (hC:x.inC C) (hits:its.length≤1000):
  Calls Tryz.prog 43 #[.pointer (some ⟨X,0,none⟩),.slice x.a x.L.length x.cap] w fun e w'=> ∃ a' c' its',e= .returned (.slice a' x.L.length c')∧x.outOf its' ⟨a',x.L,c'⟩∧LentI C P W0 w' X its'∧
   its'.length≤its.length+1∧ ∀ it∈its,it∈its':=by
 obtain ⟨⟨v1,v2,Hl,hf,hw⟩,hk,cp,cb⟩:=H
 obtain ⟨o1,o2,o3,o4⟩:=hx
 have hCP: ∀ k,C k→ ¬ grow P W0 w k:=fun k hc hg=>hg.elim (cp k hc) (fun g=>by have:=cb k hc;omega)
 have hlab:qbd w x.a x.L:=by
  by_cases h0:0 < x.L.length
  ·exact o3.stays hk (fun p e hP=>cp _ (hC h0 p e) hP)
  ·intro k hk';omega
 refine (lend_any x.L x.a x.cap X v1 v2 its w o1 hlab Hl hits (fun h0 p e hF=>hCP _ (hC h0 p e) (hf _ hF))).mono ?_
 rintro e w' ⟨a',c',v1',v2',its',rfl,ho,hc,H',K,hbf,hlen,hsub,hnew⟩
 refine ⟨a',c',its',rfl,⟨rfl,hc,ho⟩,⟨⟨v1',v2',H',?_,?_⟩,?_,cp,cb⟩,hlen,hsub⟩
 ·intro k hk'
  have hlt:=H'.footLt hk'
  rcases hk' with hk'| ⟨it,hi,rfl⟩
  ·rcases hbf k hk' with g| g
   ·exact (hf k (.inl g)).elim .inl (fun q=> .inr ⟨q.1,hlt⟩)
   ·exact .inr ⟨Nat.le_trans hk.size g,hlt⟩
  ·rcases hnew it hi with g| g
   ·exact (hf _ (.inr ⟨it,g,rfl⟩)).elim .inl (fun q=> .inr ⟨q.1,hlt⟩)
   ·exact .inr ⟨Nat.le_trans hk.size g.2.2,hlt⟩
 ·intro it hi p e
  rcases hnew it hi with g| g
  ·exact hw it g p e
  ·exact hC g.1 p (g.2.1▸e)
 ·exact hk.trans K (fun i hi hF=>(hf i (.inl hF)).elim id (fun g=>by omega))
theorem stillG_any (C P:Nat→Prop) (w:World) (X:Nat) (its:List Item) (H:qe3 C P w X its) (hits:its.length≤100000):
  Calls Tryz.prog 10 #[.pointer (some ⟨X,0,none⟩)] w fun e w'=>e= .returned (.bool true)∧qe3 C P w' X []∧Kept P w w':=by
 obtain ⟨v1,v2,H,hf,hw⟩:=H
 refine (still_any X v1 v2 its w H hits).mono ?_
 rintro e w' ⟨rfl,H',K⟩
 refine ⟨rfl,⟨_,_,H',?_,by simp⟩,K.mono fun i _ hF=>hf i hF⟩
 rintro k ((rfl| h| h)| ⟨it,hi,_⟩)
 ·exact hf _ (.inl (.inl rfl))
 ·simp [Value.ownBlock] at h
 ·simp [Value.ownBlock] at h
 ·simp at hi
theorem qe3.init {C:Nat→Prop} {P:Nat→Prop} {w:World} (hP:P w.heap.size):qe3 C P (w.alloc (.cells #[.slice none 0 0,.slice none 0 0] 65)) w.heap.size []:=by
 refine ⟨.slice none 0 0,.slice none 0 0,⟨qm _ _,World.ownsRow_nil _ _ _ _,World.ownsRow_nil _ _ _ _,by simp,by simp,by simp,by simp,by simp [Value.ownBlock],by simp [Value.ownBlock],by simp [Value.ownBlock],by simp,by simp⟩,?_,by simp⟩
 rintro k ((rfl| h| h)| ⟨it,hi,_⟩)
 ·exact hP
 ·simp [Value.ownBlock] at h
 ·simp [Value.ownBlock] at h
 ·simp at hi
end
end Go.Proofs.YtchddaafibjmgaaGreat
