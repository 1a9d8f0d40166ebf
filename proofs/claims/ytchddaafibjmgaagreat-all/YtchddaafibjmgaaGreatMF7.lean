import Derived.Test.YtchddaafibjmgaaGreatME4
import Derived.Test.YtchddaafibjmgaaGreatME3
import Derived.Test.YtchddaafibjmgaaGreatMD13
import Derived.Deep.RegionHeld3
import Derived.Test.YtchddaafibjmgaaGreatMA25
import Derived.Test.YtchddaafibjmgaaGreatMF5
import Derived.Test.YtchddaafibjmgaaGreatMF2
import Derived.Test.YtchddaafibjmgaaGreatMF6
set_option maxRecDepth 100000
set_option maxHeartbeats 20000000
namespace Go.Proofs.YtchddaafibjmgaaGreat
section
open Go.RowKit Go.Maps
attribute [local go_sem] Go.wp_at_zero Go.wp_at_succ
theorem RefD.sound.queue {C:Nat→Prop} {w:World} {st:RefD} (h:st.sound C w) (p:PodD):(st.queue p).2.sound C w:=by
 unfold RefD.queue
 split
 ·exact h
 ·split
  ·exact h
  ·exact h.wait _
theorem RefD.waits.queue {C:Nat→Prop} {w:World} {st:RefD} (h:st.waits C w) (p:PodD) (hp:p.ok w) (hc: ∀ x∈p.lists,x.inC C):(st.queue p).2.waits C w:=by
 unfold RefD.queue
 split
 ·exact h
 ·split
  ·exact h
  ·intro q hq
   rcases List.mem_append.1 hq with hq| hq
   ·exact h q hq
   ·rw [List.mem_singleton] at hq
    subst hq
    exact ⟨hp,hc⟩
theorem wait_queue (st:RefD) (p:PodD):(st.queue p).2.waiting.length≤st.waiting.length+1:=by
 unfold RefD.queue
 split
 ·dsimp only;omega
 ·split
  ·dsimp only;omega
  ·simp
theorem rqueue_four (Y:Nat) (st:RefD) (v4 v5 v6 v7:Value) (p:PodD) (w:World) (H:qbc w Y st v4 v5 v6 v7) (hok:p.ok w) (hw:st.waiting.length≤128):
  Calls Tryz.prog 32 #[.pointer (some ⟨Y,0,none⟩),.agg p.cells] w fun e w'=>e= .returned (.int .i64 (st.queue p).1)∧ ∃ u4 u5 u6 u7,qbc w' Y (st.queue p).2 u4 u5 u6 u7∧Kept (qau Y v4 v5 v6 v7) w w'∧ ∀ b,qau Y u4 u5 u6 u7 b→qau Y v4 v5 v6 v7 b∨w.heap.size≤b:=
 (rqueue_any Y st v4 v5 v6 v7 p w H hok hw).mono fun _ _ h=>⟨h.1,v4,v5,v6,h.2⟩
theorem step_queue {C:Nat→Prop} {w:World} {Zp Yp Yr Lp X:Nat} {F P:Nat→Prop} {v4 v5 v6 v7:Value} {st:RefD} {its:List Item} (H:qas C w Zp Yp Yr Lp X F P v4 v5 v6 v7 st.abs st its) (o:qbr) (hk:o.kind=8) (ho:o.ok C w) (ht:st.tally≤8000000000000) (hits:its.length≤800):
  Calls Tryz.prog 9 #[.pointer (some ⟨Zp,0,none⟩),.agg o.cells] w fun e w'=>e= .returned (.bool true)∧PairEnd C w w' Zp Yp Yr Lp X F P v4 v5 v6 v7 (st.queue o.p).2 (its.length+5):=by
 unfold qbr.cells
 rw [hk]
 have htt:st.touched.length≤8000000000000:=by unfold RefD.tally at ht;omega
 have wf:=H.sound.wf
 have wp:=wf.pods
 have wn:=wf.nodes
 obtain ⟨r1,r2⟩:=ref_queue st o.p
 have hwl:st.waiting.length≤128:=by
  have h:=H.bst.fine.nw
  rwa [show st.abs.W.length=st.waiting.length from List.length_map ..] at h
 have lZ:=qo H.box
 obtain ⟨w0,hw0⟩: ∃ W,W=w.alloc (.cells #[.int .i64 o.which,.int .i64 8,.int .i64 o.a,.string o.s,.string o.n.name,.int .i64 o.n.r0,.int .i64 o.n.r1,.int .i64 o.n.r2,.slice o.n.labels.a o.n.labels.L.length o.n.labels.cap,.slice o.n.taints.a o.n.taints.L.length o.n.taints.cap,.string o.p.name,.int .i64 o.p.n0,.int .i64 o.p.n1,.int .i64 o.p.n2,.int .i64 o.p.port,.slice o.p.labels.a o.p.labels.L.length o.p.labels.cap,.slice o.p.select.a o.p.select.L.length o.p.select.cap,.slice o.p.bears.a o.p.bears.L.length o.p.bears.cap,.slice o.p.near.a o.p.near.L.length o.p.near.cap,.slice o.p.apart.a o.p.apart.L.length o.p.apart.cap] 47):=⟨_,rfl⟩
 have hb0:Below w.heap.size w w0:=by rw [hw0];exact qi _ _
 have lz:w.heap.size < w0.heap.size:=by rw [hw0];simp
 have bx10:w0.cell? ⟨w.heap.size,10,none⟩=some (.string o.p.name):=by rw [hw0,ql (qm _ _)];rfl
 have bx11:w0.cell? ⟨w.heap.size,11,none⟩=some (.int .i64 o.p.n0):=by rw [hw0,ql (qm _ _)];rfl
 have bx12:w0.cell? ⟨w.heap.size,12,none⟩=some (.int .i64 o.p.n1):=by rw [hw0,ql (qm _ _)];rfl
 have bx13:w0.cell? ⟨w.heap.size,13,none⟩=some (.int .i64 o.p.n2):=by rw [hw0,ql (qm _ _)];rfl
 have bx14:w0.cell? ⟨w.heap.size,14,none⟩=some (.int .i64 o.p.port):=by rw [hw0,ql (qm _ _)];rfl
 have bx15:w0.cell? ⟨w.heap.size,15,none⟩=some (.slice o.p.labels.a o.p.labels.L.length o.p.labels.cap):=by rw [hw0,ql (qm _ _)];rfl
 have bx16:w0.cell? ⟨w.heap.size,16,none⟩=some (.slice o.p.select.a o.p.select.L.length o.p.select.cap):=by rw [hw0,ql (qm _ _)];rfl
 have bx17:w0.cell? ⟨w.heap.size,17,none⟩=some (.slice o.p.bears.a o.p.bears.L.length o.p.bears.cap):=by rw [hw0,ql (qm _ _)];rfl
 have bx18:w0.cell? ⟨w.heap.size,18,none⟩=some (.slice o.p.near.a o.p.near.L.length o.p.near.cap):=by rw [hw0,ql (qm _ _)];rfl
 have bx19:w0.cell? ⟨w.heap.size,19,none⟩=some (.slice o.p.apart.a o.p.apart.L.length o.p.apart.cap):=by rw [hw0,ql (qm _ _)];rfl
 have H1:=H.below hb0
 obtain ⟨z0,z1,z2,_⟩:=H1.cells
 have nf: ¬ F w.heap.size:=fun h=>Nat.lt_irrefl _ (H.bst.lt _ h)
 have nr: ¬ qau Yr v4 v5 v6 v7 w.heap.size:=fun h=>Nat.lt_irrefl _ (H.ref.footLt h)
 have np: ¬ P w.heap.size:=fun h=>Nat.lt_irrefl _ (H.pl _ h)
 have hok0:o.p.ok w0.drew:=ho.p.below (below_drewN hb0 1)
 have HH:Hid (qas C w0.drew Zp Yp Yr Lp X F P v4 v5 v6 v7 st.abs st its):=H1.drew
 clear H H1
 go_enter Tryz.func9,Tryz.ntmps9
 go_wp2
 rw [← hw0]
 clear hw0
 go_region_held3 (fun w'=>w'.cell? ⟨Zp,0,none⟩=some (.pointer (some ⟨Yp,0,none⟩))∧w'.cell? ⟨Zp,1,none⟩=some (.pointer (some ⟨Yr,0,none⟩))∧w'.cell? ⟨Zp,2,none⟩=some (.pointer (some ⟨Lp,0,none⟩))∧w'.cell? ⟨w.heap.size,10,none⟩=some (.string o.p.name)∧w'.cell? ⟨w.heap.size,11,none⟩=some (.int .i64 o.p.n0)∧w'.cell? ⟨w.heap.size,12,none⟩=some (.int .i64 o.p.n1)∧w'.cell? ⟨w.heap.size,13,none⟩=some (.int .i64 o.p.n2)∧w'.cell? ⟨w.heap.size,14,none⟩=some (.int .i64 o.p.port)∧w'.cell? ⟨w.heap.size,15,none⟩=some (.slice o.p.labels.a o.p.labels.L.length o.p.labels.cap)∧w'.cell? ⟨w.heap.size,16,none⟩=some (.slice o.p.select.a o.p.select.L.length o.p.select.cap)∧w'.cell? ⟨w.heap.size,17,none⟩=some (.slice o.p.bears.a o.p.bears.L.length o.p.bears.cap)∧w'.cell? ⟨w.heap.size,18,none⟩=some (.slice o.p.near.a o.p.near.L.length o.p.near.cap)∧w'.cell? ⟨w.heap.size,19,none⟩=some (.slice o.p.apart.a o.p.apart.L.length o.p.apart.cap)) (go_keep)
  (first
   | (go_at_call 22;refine (pod_any C P _ Lp its o.p HH.out.lent HH.out.cp HH.out.cl HH.out.pl hok0 ho.pc (by omega)).mono ?_;rintro e w1 ⟨q,its1,rfl,hs1,L1,K1,n1⟩;obtain ⟨H1,T1⟩:=HH.out.lend K1 L1;obtain ⟨t0,t1,t2,_⟩:=H1.cells;have bb1: ∀ i,w1.cell? ⟨w.heap.size,i,none⟩=w0.cell? ⟨w.heap.size,i,none⟩:=fun i=>K1.cell (p:=⟨w.heap.size,i,none⟩) lz np;have l1:w.heap.size < w1.heap.size:=Nat.lt_of_lt_of_le lz K1.size;have okq:=(hs1.ok hok0 L1).1)
   | (go_at_call 31;refine (spec_queue H1.bst q okq).mono ?_;rintro e w2 ⟨F',rfl,L⟩;rw [(PodD.sent.val hs1).1,(PodD.sent.val hs1).2,r1];rw [(PodD.sent.val hs1).1,(PodD.sent.val hs1).2,← r2] at L;obtain ⟨H2,T2⟩:=H1.prog L;obtain ⟨y0,y1,y2,_⟩:=H2.cells;have bb2: ∀ i,w2.cell? ⟨w.heap.size,i,none⟩=w0.cell? ⟨w.heap.size,i,none⟩:=fun i=>(L.kept.cell (p:=⟨w.heap.size,i,none⟩) l1 nf).trans (bb1 i);have ly:w.heap.size < w2.heap.size:=Nat.lt_of_lt_of_le l1 L.kept.size))
 have HL:Hid _:=L
 clear L
 have HH2:Hid _:=H2.drew
 have hN:o.p.ok w2.drew:=((hok0.kept ho.pc K1 HH.out.cp).kept ho.pc HL.out.kept HH.out.cf).kept ho.pc ((Kept.refl qq w2).drew) fun _ _=>id
 clear H2
 go_wp2
 go_region_held3 (fun w'=>w'.cell? ⟨Zp,0,none⟩=some (.pointer (some ⟨Yp,0,none⟩))∧w'.cell? ⟨Zp,1,none⟩=some (.pointer (some ⟨Yr,0,none⟩))∧w'.cell? ⟨Zp,2,none⟩=some (.pointer (some ⟨Lp,0,none⟩))∧w'.cell? ⟨w.heap.size,10,none⟩=some (.string o.p.name)∧w'.cell? ⟨w.heap.size,11,none⟩=some (.int .i64 o.p.n0)∧w'.cell? ⟨w.heap.size,12,none⟩=some (.int .i64 o.p.n1)∧w'.cell? ⟨w.heap.size,13,none⟩=some (.int .i64 o.p.n2)∧w'.cell? ⟨w.heap.size,14,none⟩=some (.int .i64 o.p.port)∧w'.cell? ⟨w.heap.size,15,none⟩=some (.slice o.p.labels.a o.p.labels.L.length o.p.labels.cap)∧w'.cell? ⟨w.heap.size,16,none⟩=some (.slice o.p.select.a o.p.select.L.length o.p.select.cap)∧w'.cell? ⟨w.heap.size,17,none⟩=some (.slice o.p.bears.a o.p.bears.L.length o.p.bears.cap)∧w'.cell? ⟨w.heap.size,18,none⟩=some (.slice o.p.near.a o.p.near.L.length o.p.near.cap)∧w'.cell? ⟨w.heap.size,19,none⟩=some (.slice o.p.apart.a o.p.apart.L.length o.p.apart.cap)) (go_keep)
  (first
   | (go_at_call 15;refine (qhg _ _).mono ?_;rintro e wq ⟨rfl,hq⟩;have hq:=hq.symm;subst hq)
   | (go_at_call 32;refine (rqueue_four Yr st v4 v5 v6 v7 o.p _ HH2.out.ref hN hwl).mono ?_;rintro e w3 ⟨rfl,u4,u5,u6,u7,R3,K3,hu3⟩;obtain ⟨H3,T3⟩:=HH2.out.doc R3 K3 hu3 (HH2.out.sound.queue o.p) (HH2.out.wt.queue o.p hN ho.pc);obtain ⟨x0,x1,x2,_⟩:=H3.cells;have bb3: ∀ i,w3.cell? ⟨w.heap.size,i,none⟩=w0.cell? ⟨w.heap.size,i,none⟩:=fun i=>(K3.cell (p:=⟨w.heap.size,i,none⟩) ly nr).trans (bb2 i)))
 have HH3:Hid _:=H3
 have HT3:Hid _:=((((qaw.below hb0).drew.trans T1).trans T2).drew.trans T3)
 clear H3 T3 R3 K3 hu3
 go_wp2
 go_ret
 exact ⟨rfl,F',(grow P w0.drew w1),u4,u5,u6,u7,its1,HH3.out,by omega,HT3.out⟩
end
section
open Go.RowKit Go.Maps
theorem step_drain {C:Nat→Prop} {w:World} {Zp Yp Yr Lp X:Nat} {F P:Nat→Prop} {v4 v5 v6 v7:Value} {st:RefD} {its:List Item} (H:qas C w Zp Yp Yr Lp X F P v4 v5 v6 v7 st.abs st its) (o:qbr) (hk:o.kind=9) (ho:o.ok C w) (ht:st.tally≤8000000000000) {G:Nat→Prop} {c0 c1 c2 c3:Nat} (B:Book G w X c0 c1 c2 c3) (hDG: ∀ b,qx Zp F Yr v4 v5 v6 v7 P b→ ¬ G b) (hCG: ∀ b,C b→ ¬ G b) (h0:c0≤900000000000) (h3:c3≤1000000000000):
  Calls Tryz.prog 9 #[.pointer (some ⟨Zp,0,none⟩),.agg o.cells] w fun e w'=>e= .returned (.bool true)∧DrainEnd C w w' Zp Yp Yr Lp X F P v4 v5 v6 v7 st o.a its G c0 c1 c2 c3:=by
 unfold qbr.cells
 rw [hk]
 obtain ⟨w0,hw0⟩: ∃ W,W=w.alloc (.cells #[.int .i64 o.which,.int .i64 9,.int .i64 o.a,.string o.s,.string o.n.name,.int .i64 o.n.r0,.int .i64 o.n.r1,.int .i64 o.n.r2,.slice o.n.labels.a o.n.labels.L.length o.n.labels.cap,.slice o.n.taints.a o.n.taints.L.length o.n.taints.cap,.string o.p.name,.int .i64 o.p.n0,.int .i64 o.p.n1,.int .i64 o.p.n2,.int .i64 o.p.port,.slice o.p.labels.a o.p.labels.L.length o.p.labels.cap,.slice o.p.select.a o.p.select.L.length o.p.select.cap,.slice o.p.bears.a o.p.bears.L.length o.p.bears.cap,.slice o.p.near.a o.p.near.L.length o.p.near.cap,.slice o.p.apart.a o.p.apart.L.length o.p.apart.cap] 47):=⟨_,rfl⟩
 have hb0:Below w.heap.size w w0:=by rw [hw0];exact qi _ _
 have c:=ldrain_any (H.below hb0) o.a ho.i ht (Book.kept B (Kept.of_below (F:=qq) hb0) fun _ _=>id) hDG hCG h0 h3
 rw [hw0] at c
 have HB:Hid _:=hb0
 clear H B hDG hCG h0 h3 hb0 ho
 go_enter Tryz.func9,Tryz.ntmps9
 go_wp2_with ((go_at_call 33;refine c.mono ?_;rintro e w' ⟨rfl,q⟩;have HQ:Hid _:=q;clear q))
 go_ret
 rw [← hw0] at HQ
 obtain ⟨F',u4,u5,u6,u7,G',q1,q2,q3,q4⟩:=HQ.out
 exact ⟨rfl,F',u4,u5,u6,u7,G',q1,q2,(qaw.below HB.out).trans q3,q4⟩
theorem rule_all:StepRule fun _=>True:=by
 intro C D G w Z X st m c0 c1 c2 c3 o hp B hDG hCG ho hl hm ht h0 h1 h2 h3
 by_cases e8:o.kind=8
 ·obtain ⟨Yp,Yr,Lp,F,P,v4,v5,v6,v7,its,H,hn,hD⟩:=hp
  exact (step_queue H o e8 ho ht (by omega)).mono fun e w' h=>⟨h.1,StepTo.ofEnd hD B hDG h.2 hn (tally_queue st o.p) (wait_queue st o.p)⟩
 by_cases e9:o.kind=9
 ·obtain ⟨Yp,Yr,Lp,F,P,v4,v5,v6,v7,its,H,hn,hD⟩:=hp
  refine (step_drain H o e9 ho ht B (fun b h=>hDG b ((hD b).1 h)) hCG h0 h3).mono ?_
  rintro e w' ⟨rfl,F',u4,u5,u6,u7,G',q1,q2,q3,q4⟩
  have hwd:=wait_drain o.a.toNat st
  have htd:=tally_drain o.a.toNat st
  exact ⟨rfl,_,G',(st.drain o.a.toNat).2,c0+(st.drain o.a.toNat).1.length,c1,c2,c3+1,⟨Yp,Yr,Lp,F',P,u4,u5,u6,u7,its,q1,by omega,fun b=>Iff.rfl⟩,q2,⟨q3.1.mono fun b _ h=>h.imp (hD b).1 id,fun b hb=>(q3.2 b hb).imp (fun h=>h.imp (hD b).1 id) id⟩,q4,by omega,by omega,by omega,by omega,by omega⟩
 ·exact rule_sched C D G w Z X st m c0 c1 c2 c3 o hp B hDG hCG ho ⟨e8,e9⟩ hm ht h0 h1 h2 h3
end
end Go.Proofs.YtchddaafibjmgaaGreat
