import Derived.Test.YtchddaafibjmgaaGreatME5
import Derived.Test.YtchddaafibjmgaaGreatMF1
import Derived.Deep.MidRow
import Derived.Test.YtchddaafibjmgaaGreatME9
set_option maxRecDepth 100000
set_option maxHeartbeats 20000000
namespace Go.Proofs.YtchddaafibjmgaaGreat
section
open Go.RowKit Go.Maps
theorem sizeST4:(Tryz.prog.info? 47).map (·.size)=some 20:=by kernel_rfl
theorem step_sched {C:Nat→Prop} {w:World} {Zp Yp Yr Lp X:Nat} {F P:Nat→Prop} {v4 v5 v6 v7:Value} {st:RefD} {its:List Item} (H:qas C w Zp Yp Yr Lp X F P v4 v5 v6 v7 st.abs st its) (o:qbr) (hk:o.kind=4) (ho:o.ok C w) (ht:st.tally≤8000000000000) (hits:its.length≤800) {G:Nat→Prop} {c0 c1 c2 c3:Nat} (B:Book G w X c0 c1 c2 c3) (hDG: ∀ b,qx Zp F Yr v4 v5 v6 v7 P b→ ¬ G b) (hCG: ∀ b,C b→ ¬ G b) (h0:c0≤1000000000000):
  Calls Tryz.prog 9 #[.pointer (some ⟨Zp,0,none⟩),.agg o.cells] w fun e w'=>e= .returned (.bool true)∧ ∃ F' P' u4 u5 u6 u7 its' G',qas C w' Zp Yp Yr Lp X F' P' u4 u5 u6 u7 (st.sched o.p).2.abs (st.sched o.p).2 its'∧its'.length≤its.length+5∧Book G' w' X (c0+1) c1 c2 c3∧
   qaw (fun b=>qx Zp F Yr v4 v5 v6 v7 P b∨G b) (fun b=>qx Zp F' Yr u4 u5 u6 u7 P' b∨G' b) w w'∧ ∀ b,qx Zp F' Yr u4 u5 u6 u7 P' b→ ¬ G' b:=by
 have htt:st.touched.length≤8000000000000:=by unfold RefD.tally at ht;omega
 obtain ⟨w0,hw0⟩: ∃ W,W=w.alloc (.cells o.cells 47):=⟨_,rfl⟩
 have hb0:Below w.heap.size w w0:=by rw [hw0];exact qi _ _
 have HRg:Hid (w0.rangeAt w.heap.size 0 o.cells.toList):=fun j v hv=>by
  rw [hw0,ql (qm _ _),Nat.zero_add]
  simpa using hv
 have c:=lsched_any (H.below hb0) o ⟨ho.s,ho.n.below hb0,ho.nc,ho.p.below hb0,ho.pc,ho.i⟩ htt hits (Book.kept B (Kept.of_below (F:=qq) hb0) fun _ _=>id) hDG hCG h0
 have HB:Hid _:=hb0
 clear H B hDG hCG h0 hb0 ho
 unfold qbr.cells at hw0
 rw [hk] at hw0
 have hgoal:Hid (Calls Tryz.prog 24 #[.pointer (some ⟨Zp,0,none⟩),.agg o.cells] w0 _):=c
 clear c
 conv=>
  arg 3
  unfold qbr.cells
  rw [hk]
 go_enter Tryz.func9,Tryz.ntmps9
 go_upto_region 12 with fail
 rw [← hw0]
 clear hw0
 go_wp2_with (first
  | (go_at_call 24;refine hgoal.out.mono ?_;rintro e w' ⟨rfl,F',P',u4,u5,u6,u7,its',G',q1,q2,q3,q4,q5⟩;have HQ:Hid _:=And.intro q1 (And.intro q2 (And.intro q3 (And.intro q4 q5)));clear q1 q2 q3 q4 q5)
  | (refine wpList_load_mid rfl 47 (.tmp 3) rfl w.heap.size 0 rfl o.cells.toList _ HRg.out Tryz.underlying47 rfl (by rw [sizeST4];rfl) ?_;rw [Array.toArray_toList]))
 go_ret
 obtain ⟨q1,q2,q3,q4,q5⟩:=HQ.out
 exact ⟨rfl,F',P',u4,u5,u6,u7,its',G',q1,q2,q3,qaw.trans (qaw.below HB.out) q4,q5⟩
theorem rule_sched:StepRule fun k=>k≠8∧k≠9:=by
 intro C D G w Z X st m c0 c1 c2 c3 o hp B hDG hCG ho hl hm ht h0 h1 h2 h3
 by_cases e4:o.kind=4
 ·obtain ⟨Yp,Yr,Lp,F,P,v4,v5,v6,v7,its,H,hn,hD⟩:=hp
  refine (step_sched H o e4 ho ht (by omega) B (fun b h=>hDG b ((hD b).1 h)) hCG (by omega)).mono ?_
  rintro e w' ⟨rfl,F',P',u4,u5,u6,u7,its',G',q1,q2,q3,q4,q5⟩
  refine ⟨rfl,_,G',(st.sched o.p).2,c0+1,c1,c2,c3,⟨Yp,Yr,Lp,F',P',u4,u5,u6,u7,its',q1,by omega,fun b=>Iff.rfl⟩,q3,⟨q4.1.mono fun b _ h=>h.imp (hD b).1 id,fun b hb=>(q4.2 b hb).imp (fun h=>h.imp (hD b).1 id) id⟩,q5,tally_sched st o.p,by rw [qho];omega,by omega,by omega,by omega⟩
 ·exact rule_keeps C D G w Z X st m c0 c1 c2 c3 o hp B hDG hCG ho ⟨e4,hl.1,hl.2⟩ hm ht h0 h1 h2 h3
end
section
open Go.RowKit Go.Maps
theorem infoST:(Tryz.prog.info? 47).map (fun i=>(i.zero,i.size,i.bytes))=some (some (.agg #[.int .i64 0,.int .i64 0,.int .i64 0,.string ⟨#[]⟩,.string ⟨#[]⟩,.int .i64 0,.int .i64 0,.int .i64 0,.slice none 0 0,.slice none 0 0,.string ⟨#[]⟩,.int .i64 0,.int .i64 0,.int .i64 0,.int .i64 0,.slice none 0 0,.slice none 0 0,.slice none 0 0,.slice none 0 0,.slice none 0 0]),20,296):=by kernel_rfl
def qb6:List qbr:= [⟨0,4,0,⟨#[]⟩,noNode,{ noPod with name:=⟨#[112]⟩,n0:=5,n1:=5 }⟩,⟨0,4,0,⟨#[]⟩,noNode,{ noPod with name:=⟨#[113]⟩,n0:=5,n1:=5 }⟩,⟨0,10,0,⟨#[]⟩,noNode,noPod⟩]
theorem more_ok {C:Nat→Prop} {w:World}: ∀ o∈qb6,o.ok C w:=by
 have hp:=(lists_no (C:=C) (w:=w)).1
 have hn:=(lists_no (C:=C) (w:=w)).2
 intro o ho
 simp only [qb6,List.mem_cons,List.not_mem_nil,or_false] at ho
 rcases ho with rfl| rfl| rfl
 all_goals exact ⟨by decide,⟨by decide,fun x hx=>(hn x hx).1⟩,fun x hx=>(hn x hx).2,⟨by decide,fun x hx=>(hp x hx).1⟩,fun x hx=>(hp x hx).2,by dsimp only;decide⟩
def qdh (L:List qbr):List Value:=L.flatMap fun o=>o.cells.toList
theorem flat_one (L:List qbr): ∀ u∈qdh L,u.oneCell'=true:=by
 intro u hu
 obtain ⟨o,_,hu⟩:=List.mem_flatMap.1 hu
 simp only [qbr.cells,List.mem_cons,List.not_mem_nil,or_false] at hu
 rcases hu with rfl| rfl| rfl| rfl| rfl| rfl| rfl| rfl| rfl| rfl| rfl| rfl| rfl| rfl| rfl| rfl| rfl| rfl| rfl| rfl<;>rfl
theorem steps_row {C:Nat→Prop} {w:World} {ao:Option Addr} {n cap:Nat} {L:List qbr} (h:w.ownsRow 0 47 20 (.slice ao n cap) n (qdh L)) (hn:n=L.length) (h0:0 < n) (hC: ∀ b,(Value.slice ao n cap).ownBlock=some b→C b) (hok: ∀ o∈L,o.ok C w): ∃ g,ao=some ⟨g,0,none⟩∧g < w.heap.size∧C g∧qbl C w ao L:=by
 rcases h.2 with ⟨_,h1⟩| ⟨g,cp,cur,hv,_,hg,h1,h2,h3,h4⟩
 ·omega
 ·simp only [Value.slice.injEq] at hv
  obtain ⟨rfl,_,rfl⟩:=hv
  refine ⟨g,rfl,qo hg,hC g rfl,?_⟩
  intro k hk
  refine ⟨g,0,rfl,hC g rfl,qo hg,fun j v hj=> ?_,hok _ (List.getElem_mem hk)⟩
  have hj20:j < 20:=by
   have:=(Array.getElem?_eq_some_iff.1 hj).1
   simpa [qbr.cells] using this
  have hf:=qc6 (fun o:qbr=>o.cells.toList) 20 (fun _=>rfl) L k j hk hj20
  have hlt:k * 20+j < n * 20:=by omega
  rw [ql hg,Nat.zero_add,← Array.getElem?_toList]
  have:(cur.toList.take (n * 20))[k * 20+j]? =(qdh L)[k * 20+j]? :=by rw [h4]
  rw [List.getElem?_take_of_lt hlt] at this
  rw [this]
  refine hf.trans ?_
  simpa using hj
theorem begun_yes (w:World):Calls Tryz.prog 6 #[.bool true] w fun e w'=>e= .returned (.bool true)∧Below w.heap.size w w':=by
 obtain ⟨i0,hi,hz0,hz1,hz2⟩:=info_parts infoST
 go_enter Tryz.func6,Tryz.ntmps6
 go_upto_region 7 with ((go_at_call 8;refine (opened_yes 5 false false _ _ (by omega) (by omega)).mono ?_;rintro e w1 ⟨Zp,Yp,Yr,Lp,F,rfl,hO⟩;have HO:Hid _:=hO;clear hO))
 change Code.wp _ _ _ _ ((w1.alloc (.cells #[.string ⟨#[122,111,110,101]⟩,.string ⟨#[120]⟩] 39)).alloc (.cells ((qam w1.heap.size).flatMap fun o=>o.cells.toList).toArray 47))
 obtain ⟨w2,hw2⟩: ∃ W,W=(w1.alloc (.cells #[.string ⟨#[122,111,110,101]⟩,.string ⟨#[120]⟩] 39)).alloc (.cells ((qam w1.heap.size).flatMap fun o=>o.cells.toList).toArray 47):=⟨_,rfl⟩
 rw [← hw2]
 have s2:w2.heap.size=w1.heap.size+2:=by rw [hw2];simp
 have hb12:Below w1.heap.size w1 w2:=by rw [hw2];exact qj (qi _ _) (qi _ _)
 have bz:w2.heap[w1.heap.size]? =some (.cells #[.string ⟨#[122,111,110,101]⟩,.string ⟨#[120]⟩] 39 (0,0)):=by
  rw [hw2,(qi _ _).block _ (by simp)]
  exact qm _ _
 have bs2:w2.heap[w1.heap.size+1]? =some (.cells ((qam w1.heap.size).flatMap fun o=>o.cells.toList).toArray 47 (0,0)):=by
  rw [hw2]
  have:=qm (w1.alloc (.cells #[.string ⟨#[122,111,110,101]⟩,.string ⟨#[120]⟩] 39)) (.cells ((qam w1.heap.size).flatMap fun o=>o.cells.toList).toArray 47)
  simpa using this
 have HROW:Hid ((w2.alloc (.cells (qdh qb6).toArray 47)).ownsRow 0 47 20 (.slice (some ⟨w1.heap.size+1,0,none⟩) 5 5) 5 (qdh (qam w1.heap.size))):=⟨rfl,.inr ⟨w1.heap.size+1,5,_,rfl,Nat.zero_le _,by rw [(qi w2 _).block _ (by omega)];exact bs2,Nat.le_refl _,by unfold maxLen;omega,rfl,rfl⟩⟩
 have HNEW:Hid (∀ j u,(qdh qb6)[j]? =some u→(w2.alloc (.cells (qdh qb6).toArray 47)).cell? ((⟨w2.heap.size,0,none⟩:Addr).add j)=some u):=fun j u hu=>by
  rw [qg6,ql (qm _ _)]
  simpa using hu
 have HZ:Hid _:=bz
 have HB12:Hid (Below w1.heap.size w1 w2):=hb12
 have HS2:Hid (w2.heap.size=w1.heap.size+2):=s2
 clear hw2 bz bs2 hb12 s2
 go_upto_region 8 with (first
  | (at_builtin;refine qy _ rfl (.tmp 37) (.tmp 45) 24 rfl 47 i0 _ 20 296 Tryz.underlying24 hi hz0 hz1 hz2 rfl (by decide) (.slice (some ⟨w1.heap.size+1,0,none⟩) 5 5) 5 (qdh (qam w1.heap.size)) rfl (by exact HROW.out) ⟨w2.heap.size,0,none⟩ 3 3 (qdh qb6) rfl rfl (by exact HNEW.out) (flat_one _) (by unfold maxLen;omega) (by omega) ?_;intro ao cp w3 R3 g3 f3;simp only [Nat.reduceAdd];have HG:Hid (Kept (fun b=>b=w1.heap.size+1) (w2.alloc (.cells (qdh qb6).toArray 47)) w3):=(Kept.refl _ _).grown g3 (fun k hk _=>by simp [Value.ownBlock] at hk;omega);have HR:Hid _:=R3;have HF:Hid _:=f3;clear R3 g3 f3))
 have s2:=HS2.out
 have k3:Kept (fun b=>b=w1.heap.size+1) w2 w3:=((Kept.refl _ _).alloc _).trans HG.out fun _ _ h=>h
 have hb13:Below w1.heap.size w1 w3:=HB12.out.trans (k3.below HB12.out.size fun i hi h=>by omega)
 have bz3:w3.heap[w1.heap.size]? =some (.cells #[.string ⟨#[122,111,110,101]⟩,.string ⟨#[120]⟩] 39 (0,0)):=by rw [k3.block _ (by omega) (by omega)];exact HZ.out
 have hCC: ∀ b,(Value.slice ao 8 cp).ownBlock=some b→w1.heap.size < b:=fun b hb=>by
  rcases HF.out with h| h
  ·have h2:(Value.slice (some ⟨w1.heap.size+1,0,none⟩) 5 5).ownBlock=some b:=h.symm.trans hb
   simp [Value.ownBlock] at h2
   omega
  ·have h2:=h b hb
   simp at h2
   omega
 obtain ⟨g,rfl,hgl,hgC,hSt⟩:=steps_row (C:=fun b=>b=w1.heap.size∨(Value.slice ao 8 cp).ownBlock=some b) (L:=qam w1.heap.size++qb6) (n:=8) (ao:=ao) (cap:=cp) (by have h:=HR.out;unfold qdh at h ⊢;rw [List.flatMap_append];exact h) rfl (by omega) (fun b hb=> .inr hb) (fun o ho=>(List.mem_append.1 ho).elim (begun_ok (zone_ok bz3) (.inl rfl) o) (more_ok o))
 have hgw:w1.heap.size < g:=hCC g rfl
 have HL:Hid (qbl (fun b=>b=w1.heap.size∨b=g) w3 (some ⟨g,0,none⟩) (qam w1.heap.size++qb6)):=fun k hk=>by
  obtain ⟨b,off,e,hC,hb,hc,hok⟩:=hSt k hk
  simp only [Option.some.injEq,Addr.mk.injEq,and_true] at e
  obtain ⟨rfl,rfl⟩:=e
  have hup: ∀ b',(b'=w1.heap.size∨(Value.slice (some ⟨g,0,none⟩) 8 cp).ownBlock=some b')→b'=w1.heap.size∨b'=g:=fun b' h=>h.imp id fun h=>by simp [Value.ownBlock] at h;exact h.symm
  exact ⟨g,0,rfl,.inr rfl,hb,hc,⟨hok.s,hok.n,fun x hx h p e=>hup _ (hok.nc x hx h p e),hok.p,fun x hx h p e=>hup _ (hok.pc x hx h p e),hok.i⟩⟩
 have hb01:=HO.out.below
 have hbw:Below w.heap.size w w3:=qj (qj (qi _ _) hb01) hb13
 have h1:w.heap.size+1≤w1.heap.size:=by have:=hb01.size;simpa using this
 have HD0:Hid (One (fun b=>b=w1.heap.size∨b=g) w.heap.size w3 Zp w.heap.size 0):=by
  obtain ⟨D,hp,hD⟩:=HO.out.pairNew (C:=fun b=>b=w1.heap.size∨b=g) (by omega) (by omega) hb13 fun b hb=>by omega
  have hB:=((Book.init w).kept (Kept.of_below (F:=qq) hb01) fun _ _=>id).kept (Kept.of_below (F:=qq) hb13) fun _ _=>id
  refine ⟨D,_,_,0,0,0,0,hp,hB,fun b hd hg=> ?_,fun b hc hg=>by omega,Nat.le_refl _,Nat.le_refl _,Nat.le_refl _,Nat.le_refl _,Nat.le_refl _,fun b hb=> ?_⟩
  ·have:=(hD b hd).1
   simp at this
   omega
  ·rcases hb with hb| hb
   ·have:=(hD b hb).1
    simp at this
    omega
   ·omega
 have Hbw:Hid _:=hbw
 clear bz3 hb01 hbw hb13 HO hSt HG HR HF HZ HB12 hi hz0 hz1 hz2 HROW HNEW k3 s2 HS2 hgl hgC hCC
 go_wp2
 go_loopw [7] (fun i wr=> ∃ k:Nat,k≤8∧i= .int .i64 k∧One (fun b=>b=w1.heap.size∨b=g) w.heap.size wr Zp w.heap.size k∧qbl (fun b=>b=w1.heap.size∨b=g) wr (some ⟨g,0,none⟩) (qam w1.heap.size++qb6)∧Below w.heap.size w wr) (fun i _=>8 - (intOf i).toNat)
 case atStart=>exact ⟨0,by omega,rfl,HD0.out,HL.out,Hbw.out⟩
 case round=>
  clear HD0 HL Hbw
  obtain ⟨k,hk,rfl,hone,hst,hbr⟩:=hrel
  have HOn:Hid _:=hone
  have HSt:Hid (qbl (fun b=>b=w1.heap.size∨b=g) wr (some ⟨g,0,none⟩) (qam w1.heap.size++qb6)):=hst
  have HBr:Hid (Below w.heap.size w wr):=hbr
  clear hone hbr
  by_cases hlt:k < 8
  ·have hlt':k < (qam w1.heap.size++qb6).length:=hlt
   obtain ⟨b,off,e,_,hlb,hc,hok⟩:=hst k hlt'
   simp only [Option.some.injEq,Addr.mk.injEq,and_true] at e
   obtain ⟨e1,rfl⟩:=e
   simp only [← e1] at hc
   clear e1 hlb
   have hl:(qam w1.heap.size++qb6)[k].kind≠8∧(qam w1.heap.size++qb6)[k].kind≠9:=by
    have: ∀ o∈qam w1.heap.size++qb6,o.kind≠8∧o.kind≠9:=by simp [qam,qb6]
    exact this _ (List.getElem_mem hlt')
   have cT:=one_step rule_sched HOn.out HBr.out.size _ hok hl (by omega)
   generalize (qam w1.heap.size++qb6)[k]=o at *
   have HRg:Hid (wr.rangeAt g (k * 20) o.cells.toList):=fun j v hv=>by
    have:=hc j v (by simpa using hv)
    rwa [Nat.zero_add] at this
   clear hc hst hok hl
   go_wp2_with (first
    | (go_at_call 9;refine cT.mono ?_;rintro e w3 ⟨rfl,h1',h2'⟩)
    | (refine wpList_load_mid rfl 47 (.tmp 56) rfl g (k * 20) rfl o.cells.toList _ HRg.out Tryz.underlying47 rfl (by rw [sizeSTb];rfl) ?_;rw [Array.toArray_toList]))
   go_roundw
   case rel=>exact ⟨k+1,by omega,by go_num,h1',qbl.kept HSt.out h2' (fun b hb h=>h.2 hb),HBr.out.trans ((h2'.mono fun b _ h=>h.1).below HBr.out.size fun i hi h=>by omega)⟩
   case measure=>simp [intOf];omega
  ·go_wp2
   go_ret
   exact ⟨rfl,HBr.out⟩
end
end Go.Proofs.YtchddaafibjmgaaGreat
