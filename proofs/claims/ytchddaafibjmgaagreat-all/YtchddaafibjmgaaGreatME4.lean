import Derived.Test.YtchddaafibjmgaaGreatME3
import Derived.Test.YtchddaafibjmgaaGreatMD13
import Derived.Deep.RegionHeld3
set_option maxRecDepth 100000
set_option maxHeartbeats 20000000
namespace Go.Proofs.YtchddaafibjmgaaGreat
section
open Go.RowKit Go.Maps
attribute [local go_sem] Go.wp_at_zero Go.wp_at_succ
structure qbr where
 which:Int
 kind:Int
 a:Int
 s:ByteArray
 n:qu
 p:PodD
def qbr.cells (o:qbr):Array Value:= #[.int .i64 o.which,.int .i64 o.kind,.int .i64 o.a,.string o.s,.string o.n.name,.int .i64 o.n.r0,.int .i64 o.n.r1,.int .i64 o.n.r2,.slice o.n.labels.a o.n.labels.L.length o.n.labels.cap,.slice o.n.taints.a o.n.taints.L.length o.n.taints.cap,.string o.p.name,.int .i64 o.p.n0,.int .i64 o.p.n1,.int .i64 o.p.n2,.int .i64 o.p.port,.slice o.p.labels.a o.p.labels.L.length o.p.labels.cap,.slice o.p.select.a o.p.select.L.length o.p.select.cap,.slice o.p.bears.a o.p.bears.L.length o.p.bears.cap,.slice o.p.near.a o.p.near.L.length o.p.near.cap,.slice o.p.apart.a o.p.apart.L.length o.p.apart.cap]
structure qbr.ok (C:Nat→Prop) (w:World) (o:qbr):Prop where
 s:o.s.size≤maxLen
 n:o.n.ok w
 nc: ∀ x∈o.n.lists,x.inC C
 p:o.p.ok w
 pc: ∀ x∈o.p.lists,x.inC C
 i: -9223372036854775808≤o.a∧o.a≤9223372036854775807
theorem step_dropN {C:Nat→Prop} {w:World} {Zp Yp Yr Lp X:Nat} {F P:Nat→Prop} {v4 v5 v6 v7:Value} {st:RefD} {its:List Item} (H:qas C w Zp Yp Yr Lp X F P v4 v5 v6 v7 st.abs st its) (o:qbr) (hk:o.kind=2) (ho:o.ok C w) (ht:st.tally≤8000000000000):
  Calls Tryz.prog 9 #[.pointer (some ⟨Zp,0,none⟩),.agg o.cells] w fun e w'=>e= .returned (.bool true)∧PairEnd C w w' Zp Yp Yr Lp X F P v4 v5 v6 v7 (st.dropNode o.s).2 (its.length+5):=by
 unfold qbr.cells
 rw [hk]
 have htt:st.touched.length≤8000000000000:=by unfold RefD.tally at ht;omega
 have wf:=H.sound.wf
 have wp:=wf.pods
 have wn:=wf.nodes
 obtain ⟨r1,r2⟩:=ref_dropN H.sn o.s
 have lZ:=qo H.box
 obtain ⟨w0,hw0⟩: ∃ W,W=w.alloc (.cells #[.int .i64 o.which,.int .i64 2,.int .i64 o.a,.string o.s,.string o.n.name,.int .i64 o.n.r0,.int .i64 o.n.r1,.int .i64 o.n.r2,.slice o.n.labels.a o.n.labels.L.length o.n.labels.cap,.slice o.n.taints.a o.n.taints.L.length o.n.taints.cap,.string o.p.name,.int .i64 o.p.n0,.int .i64 o.p.n1,.int .i64 o.p.n2,.int .i64 o.p.port,.slice o.p.labels.a o.p.labels.L.length o.p.labels.cap,.slice o.p.select.a o.p.select.L.length o.p.select.cap,.slice o.p.bears.a o.p.bears.L.length o.p.bears.cap,.slice o.p.near.a o.p.near.L.length o.p.near.cap,.slice o.p.apart.a o.p.apart.L.length o.p.apart.cap] 47):=⟨_,rfl⟩
 have hb0:Below w.heap.size w w0:=by rw [hw0];exact qi _ _
 have lz:w.heap.size < w0.heap.size:=by rw [hw0];simp
 have bx3:w0.cell? ⟨w.heap.size,3,none⟩=some (.string o.s):=by rw [hw0,ql (qm _ _)];rfl
 have H1:=H.below hb0
 obtain ⟨z0,z1,z2,_⟩:=H1.cells
 have nf: ¬ F w.heap.size:=fun h=>Nat.lt_irrefl _ (H.bst.lt _ h)
 have nr: ¬ qau Yr v4 v5 v6 v7 w.heap.size:=fun h=>Nat.lt_irrefl _ (H.ref.footLt h)
 have HH:Hid (qas C w0.drew Zp Yp Yr Lp X F P v4 v5 v6 v7 st.abs st its):=H1.drew
 clear H H1
 go_enter Tryz.func9,Tryz.ntmps9
 go_wp2
 rw [← hw0]
 clear hw0
 go_region_held3 (fun w'=>w'.cell? ⟨Zp,0,none⟩=some (.pointer (some ⟨Yp,0,none⟩))∧w'.cell? ⟨Zp,1,none⟩=some (.pointer (some ⟨Yr,0,none⟩))∧w'.cell? ⟨w.heap.size,3,none⟩=some (.string o.s)) (go_keep)
  (first
   | (go_at_call 19;refine (spec_dropN HH.out.bst o.s ho.s).mono ?_;rintro e w2 ⟨F',rfl,L⟩;rw [r1];rw [← r2] at L;obtain ⟨H2,T2⟩:=HH.out.prog L;obtain ⟨y0,y1,y2,_⟩:=H2.cells;have bb2: ∀ i,w2.cell? ⟨w.heap.size,i,none⟩=w0.cell? ⟨w.heap.size,i,none⟩:=fun i=>L.kept.cell (p:=⟨w.heap.size,i,none⟩) lz nf;have ly:w.heap.size < w2.heap.size:=Nat.lt_of_lt_of_le lz L.kept.size))
 have HL:Hid _:=L
 clear L
 have HH2:Hid _:=H2.drew
 clear H2
 go_wp2
 go_region_held3 (fun w'=>w'.cell? ⟨Zp,0,none⟩=some (.pointer (some ⟨Yp,0,none⟩))∧w'.cell? ⟨Zp,1,none⟩=some (.pointer (some ⟨Yr,0,none⟩))∧w'.cell? ⟨w.heap.size,3,none⟩=some (.string o.s)) (go_keep)
  (first
   | (go_at_call 15;refine (qhg _ _).mono ?_;rintro e wq ⟨rfl,hq⟩;have hq:=hq.symm;subst hq)
   | (go_at_call 20;refine (dropNode_any Yr st v4 v5 v6 v7 o.s _ HH2.out.ref wf (by omega)).mono ?_;rintro e w3 ⟨rfl,u4,u5,u6,u7,R3,K3,hu3⟩;obtain ⟨H3,T3⟩:=HH2.out.doc R3 K3 hu3 (HH2.out.sound.dropNode o.s) (HH2.out.wt.of (wait_dropN st o.s));obtain ⟨x0,x1,x2,_⟩:=H3.cells;have bb3: ∀ i,w3.cell? ⟨w.heap.size,i,none⟩=w0.cell? ⟨w.heap.size,i,none⟩:=fun i=>(K3.cell (p:=⟨w.heap.size,i,none⟩) ly nr).trans (bb2 i)))
 have HH3:Hid _:=H3
 have HT3:Hid _:=(((qaw.below hb0).drew.trans T2).drew.trans T3)
 clear H3 T3 R3 K3 hu3
 go_wp2
 go_ret
 exact ⟨rfl,F',P,u4,u5,u6,u7,its,HH3.out,by omega,HT3.out⟩
theorem step_confirm {C:Nat→Prop} {w:World} {Zp Yp Yr Lp X:Nat} {F P:Nat→Prop} {v4 v5 v6 v7:Value} {st:RefD} {its:List Item} (H:qas C w Zp Yp Yr Lp X F P v4 v5 v6 v7 st.abs st its) (o:qbr) (hk:o.kind=5) (ho:o.ok C w) (ht:st.tally≤8000000000000):
  Calls Tryz.prog 9 #[.pointer (some ⟨Zp,0,none⟩),.agg o.cells] w fun e w'=>e= .returned (.bool true)∧PairEnd C w w' Zp Yp Yr Lp X F P v4 v5 v6 v7 (st.confirm o.s).2 (its.length+5):=by
 unfold qbr.cells
 rw [hk]
 have htt:st.touched.length≤8000000000000:=by unfold RefD.tally at ht;omega
 have wf:=H.sound.wf
 have wp:=wf.pods
 have wn:=wf.nodes
 obtain ⟨r1,r2⟩:=ref_confirm H.sp o.s
 have lZ:=qo H.box
 obtain ⟨w0,hw0⟩: ∃ W,W=w.alloc (.cells #[.int .i64 o.which,.int .i64 5,.int .i64 o.a,.string o.s,.string o.n.name,.int .i64 o.n.r0,.int .i64 o.n.r1,.int .i64 o.n.r2,.slice o.n.labels.a o.n.labels.L.length o.n.labels.cap,.slice o.n.taints.a o.n.taints.L.length o.n.taints.cap,.string o.p.name,.int .i64 o.p.n0,.int .i64 o.p.n1,.int .i64 o.p.n2,.int .i64 o.p.port,.slice o.p.labels.a o.p.labels.L.length o.p.labels.cap,.slice o.p.select.a o.p.select.L.length o.p.select.cap,.slice o.p.bears.a o.p.bears.L.length o.p.bears.cap,.slice o.p.near.a o.p.near.L.length o.p.near.cap,.slice o.p.apart.a o.p.apart.L.length o.p.apart.cap] 47):=⟨_,rfl⟩
 have hb0:Below w.heap.size w w0:=by rw [hw0];exact qi _ _
 have lz:w.heap.size < w0.heap.size:=by rw [hw0];simp
 have bx3:w0.cell? ⟨w.heap.size,3,none⟩=some (.string o.s):=by rw [hw0,ql (qm _ _)];rfl
 have H1:=H.below hb0
 obtain ⟨z0,z1,z2,_⟩:=H1.cells
 have nf: ¬ F w.heap.size:=fun h=>Nat.lt_irrefl _ (H.bst.lt _ h)
 have nr: ¬ qau Yr v4 v5 v6 v7 w.heap.size:=fun h=>Nat.lt_irrefl _ (H.ref.footLt h)
 have HH:Hid (qas C w0.drew Zp Yp Yr Lp X F P v4 v5 v6 v7 st.abs st its):=H1.drew
 clear H H1
 go_enter Tryz.func9,Tryz.ntmps9
 go_wp2
 rw [← hw0]
 clear hw0
 go_region_held3 (fun w'=>w'.cell? ⟨Zp,0,none⟩=some (.pointer (some ⟨Yp,0,none⟩))∧w'.cell? ⟨Zp,1,none⟩=some (.pointer (some ⟨Yr,0,none⟩))∧w'.cell? ⟨w.heap.size,3,none⟩=some (.string o.s)) (go_keep)
  (first
   | (go_at_call 25;refine (spec_confirm HH.out.bst o.s ho.s).mono ?_;rintro e w2 ⟨F',rfl,L⟩;rw [r1];rw [← r2] at L;obtain ⟨H2,T2⟩:=HH.out.prog L;obtain ⟨y0,y1,y2,_⟩:=H2.cells;have bb2: ∀ i,w2.cell? ⟨w.heap.size,i,none⟩=w0.cell? ⟨w.heap.size,i,none⟩:=fun i=>L.kept.cell (p:=⟨w.heap.size,i,none⟩) lz nf;have ly:w.heap.size < w2.heap.size:=Nat.lt_of_lt_of_le lz L.kept.size))
 have HL:Hid _:=L
 clear L
 have HH2:Hid _:=H2.drew
 clear H2
 go_wp2
 go_region_held3 (fun w'=>w'.cell? ⟨Zp,0,none⟩=some (.pointer (some ⟨Yp,0,none⟩))∧w'.cell? ⟨Zp,1,none⟩=some (.pointer (some ⟨Yr,0,none⟩))∧w'.cell? ⟨w.heap.size,3,none⟩=some (.string o.s)) (go_keep)
  (first
   | (go_at_call 15;refine (qhg _ _).mono ?_;rintro e wq ⟨rfl,hq⟩;have hq:=hq.symm;subst hq)
   | (go_at_call 26;refine (confirm_any Yr st v4 v5 v6 v7 o.s _ HH2.out.ref (by omega)).mono ?_;rintro e w3 ⟨rfl,u4,u5,u6,u7,R3,K3,hu3⟩;obtain ⟨H3,T3⟩:=HH2.out.doc R3 K3 hu3 (HH2.out.sound.confirm o.s) (HH2.out.wt.of (wait_confirm st o.s));obtain ⟨x0,x1,x2,_⟩:=H3.cells;have bb3: ∀ i,w3.cell? ⟨w.heap.size,i,none⟩=w0.cell? ⟨w.heap.size,i,none⟩:=fun i=>(K3.cell (p:=⟨w.heap.size,i,none⟩) ly nr).trans (bb2 i)))
 have HH3:Hid _:=H3
 have HT3:Hid _:=(((qaw.below hb0).drew.trans T2).drew.trans T3)
 clear H3 T3 R3 K3 hu3
 go_wp2
 go_ret
 exact ⟨rfl,F',P,u4,u5,u6,u7,its,HH3.out,by omega,HT3.out⟩
theorem step_drop {C:Nat→Prop} {w:World} {Zp Yp Yr Lp X:Nat} {F P:Nat→Prop} {v4 v5 v6 v7:Value} {st:RefD} {its:List Item} (H:qas C w Zp Yp Yr Lp X F P v4 v5 v6 v7 st.abs st its) (o:qbr) (hk:o.kind=6) (ho:o.ok C w) (ht:st.tally≤8000000000000):
  Calls Tryz.prog 9 #[.pointer (some ⟨Zp,0,none⟩),.agg o.cells] w fun e w'=>e= .returned (.bool true)∧PairEnd C w w' Zp Yp Yr Lp X F P v4 v5 v6 v7 (st.drop o.s).2 (its.length+5):=by
 unfold qbr.cells
 rw [hk]
 have htt:st.touched.length≤8000000000000:=by unfold RefD.tally at ht;omega
 have wf:=H.sound.wf
 have wp:=wf.pods
 have wn:=wf.nodes
 obtain ⟨r1,r2⟩:=ref_drop H.sn H.sp H.hin o.s
 have lZ:=qo H.box
 obtain ⟨w0,hw0⟩: ∃ W,W=w.alloc (.cells #[.int .i64 o.which,.int .i64 6,.int .i64 o.a,.string o.s,.string o.n.name,.int .i64 o.n.r0,.int .i64 o.n.r1,.int .i64 o.n.r2,.slice o.n.labels.a o.n.labels.L.length o.n.labels.cap,.slice o.n.taints.a o.n.taints.L.length o.n.taints.cap,.string o.p.name,.int .i64 o.p.n0,.int .i64 o.p.n1,.int .i64 o.p.n2,.int .i64 o.p.port,.slice o.p.labels.a o.p.labels.L.length o.p.labels.cap,.slice o.p.select.a o.p.select.L.length o.p.select.cap,.slice o.p.bears.a o.p.bears.L.length o.p.bears.cap,.slice o.p.near.a o.p.near.L.length o.p.near.cap,.slice o.p.apart.a o.p.apart.L.length o.p.apart.cap] 47):=⟨_,rfl⟩
 have hb0:Below w.heap.size w w0:=by rw [hw0];exact qi _ _
 have lz:w.heap.size < w0.heap.size:=by rw [hw0];simp
 have bx3:w0.cell? ⟨w.heap.size,3,none⟩=some (.string o.s):=by rw [hw0,ql (qm _ _)];rfl
 have H1:=H.below hb0
 obtain ⟨z0,z1,z2,_⟩:=H1.cells
 have nf: ¬ F w.heap.size:=fun h=>Nat.lt_irrefl _ (H.bst.lt _ h)
 have nr: ¬ qau Yr v4 v5 v6 v7 w.heap.size:=fun h=>Nat.lt_irrefl _ (H.ref.footLt h)
 have HH:Hid (qas C w0.drew Zp Yp Yr Lp X F P v4 v5 v6 v7 st.abs st its):=H1.drew
 clear H H1
 go_enter Tryz.func9,Tryz.ntmps9
 go_wp2
 rw [← hw0]
 clear hw0
 go_region_held3 (fun w'=>w'.cell? ⟨Zp,0,none⟩=some (.pointer (some ⟨Yp,0,none⟩))∧w'.cell? ⟨Zp,1,none⟩=some (.pointer (some ⟨Yr,0,none⟩))∧w'.cell? ⟨w.heap.size,3,none⟩=some (.string o.s)) (go_keep)
  (first
   | (go_at_call 27;refine (spec_drop HH.out.bst o.s ho.s).mono ?_;rintro e w2 ⟨F',rfl,L⟩;rw [r1];rw [← r2] at L;obtain ⟨H2,T2⟩:=HH.out.prog L;obtain ⟨y0,y1,y2,_⟩:=H2.cells;have bb2: ∀ i,w2.cell? ⟨w.heap.size,i,none⟩=w0.cell? ⟨w.heap.size,i,none⟩:=fun i=>L.kept.cell (p:=⟨w.heap.size,i,none⟩) lz nf;have ly:w.heap.size < w2.heap.size:=Nat.lt_of_lt_of_le lz L.kept.size))
 have HL:Hid _:=L
 clear L
 have HH2:Hid _:=H2.drew
 clear H2
 go_wp2
 go_region_held3 (fun w'=>w'.cell? ⟨Zp,0,none⟩=some (.pointer (some ⟨Yp,0,none⟩))∧w'.cell? ⟨Zp,1,none⟩=some (.pointer (some ⟨Yr,0,none⟩))∧w'.cell? ⟨w.heap.size,3,none⟩=some (.string o.s)) (go_keep)
  (first
   | (go_at_call 15;refine (qhg _ _).mono ?_;rintro e wq ⟨rfl,hq⟩;have hq:=hq.symm;subst hq)
   | (go_at_call 28;refine (drop_any Yr st v4 v5 v6 v7 o.s _ HH2.out.ref (by omega) (by omega)).mono ?_;rintro e w3 ⟨rfl,u4,u5,u6,u7,R3,K3,hu3⟩;obtain ⟨H3,T3⟩:=HH2.out.doc R3 K3 hu3 (HH2.out.sound.drop o.s) (HH2.out.wt.of (wait_drop st o.s));obtain ⟨x0,x1,x2,_⟩:=H3.cells;have bb3: ∀ i,w3.cell? ⟨w.heap.size,i,none⟩=w0.cell? ⟨w.heap.size,i,none⟩:=fun i=>(K3.cell (p:=⟨w.heap.size,i,none⟩) ly nr).trans (bb2 i)))
 have HH3:Hid _:=H3
 have HT3:Hid _:=(((qaw.below hb0).drew.trans T2).drew.trans T3)
 clear H3 T3 R3 K3 hu3
 go_wp2
 go_ret
 exact ⟨rfl,F',P,u4,u5,u6,u7,its,HH3.out,by omega,HT3.out⟩
theorem step_tick {C:Nat→Prop} {w:World} {Zp Yp Yr Lp X:Nat} {F P:Nat→Prop} {v4 v5 v6 v7:Value} {st:RefD} {its:List Item} (H:qas C w Zp Yp Yr Lp X F P v4 v5 v6 v7 st.abs st its) (o:qbr) (hk:o.kind=7) (ht:st.tally≤8000000000000):
  Calls Tryz.prog 9 #[.pointer (some ⟨Zp,0,none⟩),.agg o.cells] w fun e w'=>e= .returned (.bool true)∧PairEnd C w w' Zp Yp Yr Lp X F P v4 v5 v6 v7 (st.tick o.a).2 (its.length+5):=by
 unfold qbr.cells
 rw [hk]
 have htt:st.touched.length≤8000000000000:=by unfold RefD.tally at ht;omega
 have wf:=H.sound.wf
 have wp:=wf.pods
 have wn:=wf.nodes
 obtain ⟨r1,r2⟩:=ref_tick H.sn H.hin o.a
 have lZ:=qo H.box
 obtain ⟨w0,hw0⟩: ∃ W,W=w.alloc (.cells #[.int .i64 o.which,.int .i64 7,.int .i64 o.a,.string o.s,.string o.n.name,.int .i64 o.n.r0,.int .i64 o.n.r1,.int .i64 o.n.r2,.slice o.n.labels.a o.n.labels.L.length o.n.labels.cap,.slice o.n.taints.a o.n.taints.L.length o.n.taints.cap,.string o.p.name,.int .i64 o.p.n0,.int .i64 o.p.n1,.int .i64 o.p.n2,.int .i64 o.p.port,.slice o.p.labels.a o.p.labels.L.length o.p.labels.cap,.slice o.p.select.a o.p.select.L.length o.p.select.cap,.slice o.p.bears.a o.p.bears.L.length o.p.bears.cap,.slice o.p.near.a o.p.near.L.length o.p.near.cap,.slice o.p.apart.a o.p.apart.L.length o.p.apart.cap] 47):=⟨_,rfl⟩
 have hb0:Below w.heap.size w w0:=by rw [hw0];exact qi _ _
 have lz:w.heap.size < w0.heap.size:=by rw [hw0];simp
 have bx2:w0.cell? ⟨w.heap.size,2,none⟩=some (.int .i64 o.a):=by rw [hw0,ql (qm _ _)];rfl
 have H1:=H.below hb0
 obtain ⟨z0,z1,z2,_⟩:=H1.cells
 have nf: ¬ F w.heap.size:=fun h=>Nat.lt_irrefl _ (H.bst.lt _ h)
 have nr: ¬ qau Yr v4 v5 v6 v7 w.heap.size:=fun h=>Nat.lt_irrefl _ (H.ref.footLt h)
 have HH:Hid (qas C w0.drew Zp Yp Yr Lp X F P v4 v5 v6 v7 st.abs st its):=H1.drew
 clear H H1
 go_enter Tryz.func9,Tryz.ntmps9
 go_wp2
 rw [← hw0]
 clear hw0
 go_region_held3 (fun w'=>w'.cell? ⟨Zp,0,none⟩=some (.pointer (some ⟨Yp,0,none⟩))∧w'.cell? ⟨Zp,1,none⟩=some (.pointer (some ⟨Yr,0,none⟩))∧w'.cell? ⟨w.heap.size,2,none⟩=some (.int .i64 o.a)) (go_keep)
  (first
   | (go_at_call 29;refine (spec_tick HH.out.bst o.a).mono ?_;rintro e w2 ⟨F',rfl,L⟩;rw [r1];rw [← r2] at L;obtain ⟨H2,T2⟩:=HH.out.prog L;obtain ⟨y0,y1,y2,_⟩:=H2.cells;have bb2: ∀ i,w2.cell? ⟨w.heap.size,i,none⟩=w0.cell? ⟨w.heap.size,i,none⟩:=fun i=>L.kept.cell (p:=⟨w.heap.size,i,none⟩) lz nf;have ly:w.heap.size < w2.heap.size:=Nat.lt_of_lt_of_le lz L.kept.size))
 have HL:Hid _:=L
 clear L
 have HH2:Hid _:=H2.drew
 clear H2
 go_wp2
 go_region_held3 (fun w'=>w'.cell? ⟨Zp,0,none⟩=some (.pointer (some ⟨Yp,0,none⟩))∧w'.cell? ⟨Zp,1,none⟩=some (.pointer (some ⟨Yr,0,none⟩))∧w'.cell? ⟨w.heap.size,2,none⟩=some (.int .i64 o.a)) (go_keep)
  (first
   | (go_at_call 15;refine (qhg _ _).mono ?_;rintro e wq ⟨rfl,hq⟩;have hq:=hq.symm;subst hq)
   | (go_at_call 30;refine (tick_any Yr st v4 v5 v6 v7 o.a _ HH2.out.ref wf (by omega)).mono ?_;rintro e w3 ⟨rfl,u4,u5,u6,u7,R3,K3,hu3⟩;obtain ⟨H3,T3⟩:=HH2.out.doc R3 K3 hu3 (HH2.out.sound.tick o.a) (HH2.out.wt.of (wait_tick st o.a));obtain ⟨x0,x1,x2,_⟩:=H3.cells;have bb3: ∀ i,w3.cell? ⟨w.heap.size,i,none⟩=w0.cell? ⟨w.heap.size,i,none⟩:=fun i=>(K3.cell (p:=⟨w.heap.size,i,none⟩) ly nr).trans (bb2 i)))
 have HH3:Hid _:=H3
 have HT3:Hid _:=(((qaw.below hb0).drew.trans T2).drew.trans T3)
 clear H3 T3 R3 K3 hu3
 go_wp2
 go_ret
 exact ⟨rfl,F',P,u4,u5,u6,u7,its,HH3.out,by omega,HT3.out⟩
end
section
open Go.RowKit Go.Maps
attribute [local go_sem] Go.wp_at_zero Go.wp_at_succ
theorem qu.sent.val {its:List Item} {p q:qu} (h:p.sent its q):q.name=p.name∧q.val=p.val:=by
 obtain ⟨e0,e1,e2,e3,l1,l2⟩:=h
 refine ⟨e0,?_⟩
 unfold qu.val
 rw [e1,e2,e3,l1.1,l2.1]
theorem PodD.sent.val {its:List Item} {p q:PodD} (h:p.sent its q):q.name=p.name∧q.val=p.val:=by
 obtain ⟨e0,e1,e2,e3,e4,l1,l2,l3,l4,l5⟩:=h
 refine ⟨e0,?_⟩
 unfold PodD.val
 rw [e1,e2,e3,e4,l1.1,l2.1,l3.1,l4.1,l5.1]
theorem step_put {C:Nat→Prop} {w:World} {Zp Yp Yr Lp X:Nat} {F P:Nat→Prop} {v4 v5 v6 v7:Value} {st:RefD} {its:List Item} (H:qas C w Zp Yp Yr Lp X F P v4 v5 v6 v7 st.abs st its) (o:qbr) (hk:o.kind=1) (ho:o.ok C w) (ht:st.tally≤8000000000000) (hits:its.length≤800):
  Calls Tryz.prog 9 #[.pointer (some ⟨Zp,0,none⟩),.agg o.cells] w fun e w'=>e= .returned (.bool true)∧PairEnd C w w' Zp Yp Yr Lp X F P v4 v5 v6 v7 (st.putNode o.n).2 (its.length+5):=by
 unfold qbr.cells
 rw [hk]
 have htt:st.touched.length≤8000000000000:=by unfold RefD.tally at ht;omega
 have wf:=H.sound.wf
 have wp:=wf.pods
 have wn:=wf.nodes
 obtain ⟨r1,r2⟩:=ref_put H.sn o.n
 have lZ:=qo H.box
 obtain ⟨w0,hw0⟩: ∃ W,W=w.alloc (.cells #[.int .i64 o.which,.int .i64 1,.int .i64 o.a,.string o.s,.string o.n.name,.int .i64 o.n.r0,.int .i64 o.n.r1,.int .i64 o.n.r2,.slice o.n.labels.a o.n.labels.L.length o.n.labels.cap,.slice o.n.taints.a o.n.taints.L.length o.n.taints.cap,.string o.p.name,.int .i64 o.p.n0,.int .i64 o.p.n1,.int .i64 o.p.n2,.int .i64 o.p.port,.slice o.p.labels.a o.p.labels.L.length o.p.labels.cap,.slice o.p.select.a o.p.select.L.length o.p.select.cap,.slice o.p.bears.a o.p.bears.L.length o.p.bears.cap,.slice o.p.near.a o.p.near.L.length o.p.near.cap,.slice o.p.apart.a o.p.apart.L.length o.p.apart.cap] 47):=⟨_,rfl⟩
 have hb0:Below w.heap.size w w0:=by rw [hw0];exact qi _ _
 have lz:w.heap.size < w0.heap.size:=by rw [hw0];simp
 have bx4:w0.cell? ⟨w.heap.size,4,none⟩=some (.string o.n.name):=by rw [hw0,ql (qm _ _)];rfl
 have bx5:w0.cell? ⟨w.heap.size,5,none⟩=some (.int .i64 o.n.r0):=by rw [hw0,ql (qm _ _)];rfl
 have bx6:w0.cell? ⟨w.heap.size,6,none⟩=some (.int .i64 o.n.r1):=by rw [hw0,ql (qm _ _)];rfl
 have bx7:w0.cell? ⟨w.heap.size,7,none⟩=some (.int .i64 o.n.r2):=by rw [hw0,ql (qm _ _)];rfl
 have bx8:w0.cell? ⟨w.heap.size,8,none⟩=some (.slice o.n.labels.a o.n.labels.L.length o.n.labels.cap):=by rw [hw0,ql (qm _ _)];rfl
 have bx9:w0.cell? ⟨w.heap.size,9,none⟩=some (.slice o.n.taints.a o.n.taints.L.length o.n.taints.cap):=by rw [hw0,ql (qm _ _)];rfl
 have H1:=H.below hb0
 obtain ⟨z0,z1,z2,_⟩:=H1.cells
 have nf: ¬ F w.heap.size:=fun h=>Nat.lt_irrefl _ (H.bst.lt _ h)
 have nr: ¬ qau Yr v4 v5 v6 v7 w.heap.size:=fun h=>Nat.lt_irrefl _ (H.ref.footLt h)
 have np: ¬ P w.heap.size:=fun h=>Nat.lt_irrefl _ (H.pl _ h)
 have hok0:o.n.ok w0.drew:=ho.n.below (below_drewN hb0 1)
 have HH:Hid (qas C w0.drew Zp Yp Yr Lp X F P v4 v5 v6 v7 st.abs st its):=H1.drew
 clear H H1
 go_enter Tryz.func9,Tryz.ntmps9
 go_wp2
 rw [← hw0]
 clear hw0
 go_region_held3 (fun w'=>w'.cell? ⟨Zp,0,none⟩=some (.pointer (some ⟨Yp,0,none⟩))∧w'.cell? ⟨Zp,1,none⟩=some (.pointer (some ⟨Yr,0,none⟩))∧w'.cell? ⟨Zp,2,none⟩=some (.pointer (some ⟨Lp,0,none⟩))∧w'.cell? ⟨w.heap.size,4,none⟩=some (.string o.n.name)∧w'.cell? ⟨w.heap.size,5,none⟩=some (.int .i64 o.n.r0)∧w'.cell? ⟨w.heap.size,6,none⟩=some (.int .i64 o.n.r1)∧w'.cell? ⟨w.heap.size,7,none⟩=some (.int .i64 o.n.r2)∧w'.cell? ⟨w.heap.size,8,none⟩=some (.slice o.n.labels.a o.n.labels.L.length o.n.labels.cap)∧w'.cell? ⟨w.heap.size,9,none⟩=some (.slice o.n.taints.a o.n.taints.L.length o.n.taints.cap)) (go_keep)
  (first
   | (go_at_call 17;refine (node_any C P _ Lp its o.n HH.out.lent HH.out.cp HH.out.cl HH.out.pl hok0 ho.nc (by omega)).mono ?_;rintro e w1 ⟨q,its1,rfl,hs1,L1,K1,n1⟩;obtain ⟨H1,T1⟩:=HH.out.lend K1 L1;obtain ⟨t0,t1,t2,_⟩:=H1.cells;have bb1: ∀ i,w1.cell? ⟨w.heap.size,i,none⟩=w0.cell? ⟨w.heap.size,i,none⟩:=fun i=>K1.cell (p:=⟨w.heap.size,i,none⟩) lz np;have l1:w.heap.size < w1.heap.size:=Nat.lt_of_lt_of_le lz K1.size;have okq:=(hs1.ok hok0 L1).1)
   | (go_at_call 16;refine (spec_put H1.bst q okq).mono ?_;rintro e w2 ⟨F',rfl,L⟩;rw [(qu.sent.val hs1).1,(qu.sent.val hs1).2,r1];rw [(qu.sent.val hs1).1,(qu.sent.val hs1).2,← r2] at L;obtain ⟨H2,T2⟩:=H1.prog L;obtain ⟨y0,y1,y2,_⟩:=H2.cells;have bb2: ∀ i,w2.cell? ⟨w.heap.size,i,none⟩=w0.cell? ⟨w.heap.size,i,none⟩:=fun i=>(L.kept.cell (p:=⟨w.heap.size,i,none⟩) l1 nf).trans (bb1 i);have ly:w.heap.size < w2.heap.size:=Nat.lt_of_lt_of_le l1 L.kept.size))
 have HL:Hid _:=L
 clear L
 have HH2:Hid _:=H2.drew
 have hN:o.n.ok w2.drew:=((hok0.kept ho.nc K1 HH.out.cp).kept ho.nc HL.out.kept HH.out.cf).kept ho.nc ((Kept.refl qq w2).drew) fun _ _=>id
 clear H2
 go_wp2
 go_region_held3 (fun w'=>w'.cell? ⟨Zp,0,none⟩=some (.pointer (some ⟨Yp,0,none⟩))∧w'.cell? ⟨Zp,1,none⟩=some (.pointer (some ⟨Yr,0,none⟩))∧w'.cell? ⟨Zp,2,none⟩=some (.pointer (some ⟨Lp,0,none⟩))∧w'.cell? ⟨w.heap.size,4,none⟩=some (.string o.n.name)∧w'.cell? ⟨w.heap.size,5,none⟩=some (.int .i64 o.n.r0)∧w'.cell? ⟨w.heap.size,6,none⟩=some (.int .i64 o.n.r1)∧w'.cell? ⟨w.heap.size,7,none⟩=some (.int .i64 o.n.r2)∧w'.cell? ⟨w.heap.size,8,none⟩=some (.slice o.n.labels.a o.n.labels.L.length o.n.labels.cap)∧w'.cell? ⟨w.heap.size,9,none⟩=some (.slice o.n.taints.a o.n.taints.L.length o.n.taints.cap)) (go_keep)
  (first
   | (go_at_call 15;refine (qhg _ _).mono ?_;rintro e wq ⟨rfl,hq⟩;have hq:=hq.symm;subst hq)
   | (go_at_call 18;refine (putNode_any Yr st v4 v5 v6 v7 o.n _ HH2.out.ref hN (by omega) (by omega)).mono ?_;rintro e w3 ⟨rfl,u4,u5,u6,u7,R3,K3,hu3⟩;obtain ⟨H3,T3⟩:=HH2.out.doc R3 K3 hu3 (HH2.out.sound.putNode o.n hN ho.nc) (HH2.out.wt.of (wait_put st o.n));obtain ⟨x0,x1,x2,_⟩:=H3.cells;have bb3: ∀ i,w3.cell? ⟨w.heap.size,i,none⟩=w0.cell? ⟨w.heap.size,i,none⟩:=fun i=>(K3.cell (p:=⟨w.heap.size,i,none⟩) ly nr).trans (bb2 i)))
 have HH3:Hid _:=H3
 have HT3:Hid _:=((((qaw.below hb0).drew.trans T1).trans T2).drew.trans T3)
 clear H3 T3 R3 K3 hu3
 go_wp2
 go_ret
 exact ⟨rfl,F',(grow P w0.drew w1),u4,u5,u6,u7,its1,HH3.out,by omega,HT3.out⟩
theorem step_bind {C:Nat→Prop} {w:World} {Zp Yp Yr Lp X:Nat} {F P:Nat→Prop} {v4 v5 v6 v7:Value} {st:RefD} {its:List Item} (H:qas C w Zp Yp Yr Lp X F P v4 v5 v6 v7 st.abs st its) (o:qbr) (hk:o.kind=3) (ho:o.ok C w) (ht:st.tally≤8000000000000) (hits:its.length≤800):
  Calls Tryz.prog 9 #[.pointer (some ⟨Zp,0,none⟩),.agg o.cells] w fun e w'=>e= .returned (.bool true)∧PairEnd C w w' Zp Yp Yr Lp X F P v4 v5 v6 v7 (st.bind o.p o.s).2 (its.length+5):=by
 unfold qbr.cells
 rw [hk]
 have htt:st.touched.length≤8000000000000:=by unfold RefD.tally at ht;omega
 have wf:=H.sound.wf
 have wp:=wf.pods
 have wn:=wf.nodes
 obtain ⟨r1,r2⟩:=ref_bind H.sn o.p o.s
 have lZ:=qo H.box
 obtain ⟨w0,hw0⟩: ∃ W,W=w.alloc (.cells #[.int .i64 o.which,.int .i64 3,.int .i64 o.a,.string o.s,.string o.n.name,.int .i64 o.n.r0,.int .i64 o.n.r1,.int .i64 o.n.r2,.slice o.n.labels.a o.n.labels.L.length o.n.labels.cap,.slice o.n.taints.a o.n.taints.L.length o.n.taints.cap,.string o.p.name,.int .i64 o.p.n0,.int .i64 o.p.n1,.int .i64 o.p.n2,.int .i64 o.p.port,.slice o.p.labels.a o.p.labels.L.length o.p.labels.cap,.slice o.p.select.a o.p.select.L.length o.p.select.cap,.slice o.p.bears.a o.p.bears.L.length o.p.bears.cap,.slice o.p.near.a o.p.near.L.length o.p.near.cap,.slice o.p.apart.a o.p.apart.L.length o.p.apart.cap] 47):=⟨_,rfl⟩
 have hb0:Below w.heap.size w w0:=by rw [hw0];exact qi _ _
 have lz:w.heap.size < w0.heap.size:=by rw [hw0];simp
 have bx3:w0.cell? ⟨w.heap.size,3,none⟩=some (.string o.s):=by rw [hw0,ql (qm _ _)];rfl
 have bx10:w0.cell? ⟨w.heap.size,10,none⟩=some (.string o.p.name):=by rw [hw0,ql (qm _ _)];rfl
 have bx11:w0.cell? ⟨w.heap.size,11,none⟩=some (.int .i64 o.p.n0):=by rw [hw0,ql (qm _ _)];rfl
 have bx12:w0.cell? ⟨w.heap.size,12,none⟩=some (.int .i64 o.p.n1):=by rw [hw0,ql (qm _ _)];rfl
 have bx13:w0.cell? ⟨w.heap.size,13,none⟩=some (.int .i64 o.p.n2):=by rw [hw0,ql (qm _ _)];rfl
 have bx14:w0.cell? ⟨w.heap.size,14,none⟩=some (.int .i64 o.p.port):=by rw [hw0,ql (qm _ _)];rfl
 have bx15:w0.cell? ⟨w.heap.size,15,none⟩=some (.slice o.p.labels.a o.p.labels.L.length o.p.labels.cap):=by rw [hw0,ql (qm _ _)];rfl
 have bx16:w0.cell? ⟨w.heap.size,16,none⟩=some (.slice o.p.select.a o.p.select.L.length o.p.select.cap):=by rw [hw0,ql (qm _ _)];rfl
 have bx17:w0.cell? ⟨w.heap.size,17,none⟩=some (.slice o.p.bears.a o.p.bears.L.length o.p.bears.cap):=by rw [hw0,ql (qm _ _)];rfl
 have bx18:w0.cell? ⟨w.heap.size,18,none⟩=some (.slice o.p.near.a o.p.near.L.length o.p.near.cap):=by rw [hw0,ql (qm _ _)];rfl
 have bx19:w0.cell? ⟨w.heap.size,19,none⟩=some (.slice o.p.apart.a o.p.apart.L.length o.p.apart.cap):=by rw [hw0,ql (qm _ _)];rfl
 have H1:=H.below hb0
 obtain ⟨z0,z1,z2,_⟩:=H1.cells
 have nf: ¬ F w.heap.size:=fun h=>Nat.lt_irrefl _ (H.bst.lt _ h)
 have nr: ¬ qau Yr v4 v5 v6 v7 w.heap.size:=fun h=>Nat.lt_irrefl _ (H.ref.footLt h)
 have np: ¬ P w.heap.size:=fun h=>Nat.lt_irrefl _ (H.pl _ h)
 have hok0:o.p.ok w0.drew:=ho.p.below (below_drewN hb0 1)
 have HH:Hid (qas C w0.drew Zp Yp Yr Lp X F P v4 v5 v6 v7 st.abs st its):=H1.drew
 clear H H1
 go_enter Tryz.func9,Tryz.ntmps9
 go_wp2
 rw [← hw0]
 clear hw0
 go_region_held3 (fun w'=>w'.cell? ⟨Zp,0,none⟩=some (.pointer (some ⟨Yp,0,none⟩))∧w'.cell? ⟨Zp,1,none⟩=some (.pointer (some ⟨Yr,0,none⟩))∧w'.cell? ⟨Zp,2,none⟩=some (.pointer (some ⟨Lp,0,none⟩))∧w'.cell? ⟨w.heap.size,3,none⟩=some (.string o.s)∧w'.cell? ⟨w.heap.size,10,none⟩=some (.string o.p.name)∧w'.cell? ⟨w.heap.size,11,none⟩=some (.int .i64 o.p.n0)∧w'.cell? ⟨w.heap.size,12,none⟩=some (.int .i64 o.p.n1)∧w'.cell? ⟨w.heap.size,13,none⟩=some (.int .i64 o.p.n2)∧w'.cell? ⟨w.heap.size,14,none⟩=some (.int .i64 o.p.port)∧w'.cell? ⟨w.heap.size,15,none⟩=some (.slice o.p.labels.a o.p.labels.L.length o.p.labels.cap)∧w'.cell? ⟨w.heap.size,16,none⟩=some (.slice o.p.select.a o.p.select.L.length o.p.select.cap)∧w'.cell? ⟨w.heap.size,17,none⟩=some (.slice o.p.bears.a o.p.bears.L.length o.p.bears.cap)∧w'.cell? ⟨w.heap.size,18,none⟩=some (.slice o.p.near.a o.p.near.L.length o.p.near.cap)∧w'.cell? ⟨w.heap.size,19,none⟩=some (.slice o.p.apart.a o.p.apart.L.length o.p.apart.cap)) (go_keep)
  (first
   | (go_at_call 22;refine (pod_any C P _ Lp its o.p HH.out.lent HH.out.cp HH.out.cl HH.out.pl hok0 ho.pc (by omega)).mono ?_;rintro e w1 ⟨q,its1,rfl,hs1,L1,K1,n1⟩;obtain ⟨H1,T1⟩:=HH.out.lend K1 L1;obtain ⟨t0,t1,t2,_⟩:=H1.cells;have bb1: ∀ i,w1.cell? ⟨w.heap.size,i,none⟩=w0.cell? ⟨w.heap.size,i,none⟩:=fun i=>K1.cell (p:=⟨w.heap.size,i,none⟩) lz np;have l1:w.heap.size < w1.heap.size:=Nat.lt_of_lt_of_le lz K1.size;have okq:=(hs1.ok hok0 L1).1)
   | (go_at_call 21;refine (spec_bind H1.bst q o.s okq ho.s).mono ?_;rintro e w2 ⟨F',rfl,L⟩;rw [(PodD.sent.val hs1).1,(PodD.sent.val hs1).2,r1];rw [(PodD.sent.val hs1).1,(PodD.sent.val hs1).2,← r2] at L;obtain ⟨H2,T2⟩:=H1.prog L;obtain ⟨y0,y1,y2,_⟩:=H2.cells;have bb2: ∀ i,w2.cell? ⟨w.heap.size,i,none⟩=w0.cell? ⟨w.heap.size,i,none⟩:=fun i=>(L.kept.cell (p:=⟨w.heap.size,i,none⟩) l1 nf).trans (bb1 i);have ly:w.heap.size < w2.heap.size:=Nat.lt_of_lt_of_le l1 L.kept.size))
 have HL:Hid _:=L
 clear L
 have HH2:Hid _:=H2.drew
 have hN:o.p.ok w2.drew:=((hok0.kept ho.pc K1 HH.out.cp).kept ho.pc HL.out.kept HH.out.cf).kept ho.pc ((Kept.refl qq w2).drew) fun _ _=>id
 clear H2
 go_wp2
 go_region_held3 (fun w'=>w'.cell? ⟨Zp,0,none⟩=some (.pointer (some ⟨Yp,0,none⟩))∧w'.cell? ⟨Zp,1,none⟩=some (.pointer (some ⟨Yr,0,none⟩))∧w'.cell? ⟨Zp,2,none⟩=some (.pointer (some ⟨Lp,0,none⟩))∧w'.cell? ⟨w.heap.size,3,none⟩=some (.string o.s)∧w'.cell? ⟨w.heap.size,10,none⟩=some (.string o.p.name)∧w'.cell? ⟨w.heap.size,11,none⟩=some (.int .i64 o.p.n0)∧w'.cell? ⟨w.heap.size,12,none⟩=some (.int .i64 o.p.n1)∧w'.cell? ⟨w.heap.size,13,none⟩=some (.int .i64 o.p.n2)∧w'.cell? ⟨w.heap.size,14,none⟩=some (.int .i64 o.p.port)∧w'.cell? ⟨w.heap.size,15,none⟩=some (.slice o.p.labels.a o.p.labels.L.length o.p.labels.cap)∧w'.cell? ⟨w.heap.size,16,none⟩=some (.slice o.p.select.a o.p.select.L.length o.p.select.cap)∧w'.cell? ⟨w.heap.size,17,none⟩=some (.slice o.p.bears.a o.p.bears.L.length o.p.bears.cap)∧w'.cell? ⟨w.heap.size,18,none⟩=some (.slice o.p.near.a o.p.near.L.length o.p.near.cap)∧w'.cell? ⟨w.heap.size,19,none⟩=some (.slice o.p.apart.a o.p.apart.L.length o.p.apart.cap)) (go_keep)
  (first
   | (go_at_call 15;refine (qhg _ _).mono ?_;rintro e wq ⟨rfl,hq⟩;have hq:=hq.symm;subst hq)
   | (go_at_call 23;refine (bind_any Yr st v4 v5 v6 v7 o.p o.s _ HH2.out.ref hN (by omega) (by omega) (by omega)).mono ?_;rintro e w3 ⟨rfl,u4,u5,u6,u7,R3,K3,hu3⟩;obtain ⟨H3,T3⟩:=HH2.out.doc R3 K3 hu3 (HH2.out.sound.bind o.p o.s hN ho.pc) (HH2.out.wt.of (wait_bind st o.p o.s));obtain ⟨x0,x1,x2,_⟩:=H3.cells;have bb3: ∀ i,w3.cell? ⟨w.heap.size,i,none⟩=w0.cell? ⟨w.heap.size,i,none⟩:=fun i=>(K3.cell (p:=⟨w.heap.size,i,none⟩) ly nr).trans (bb2 i)))
 have HH3:Hid _:=H3
 have HT3:Hid _:=((((qaw.below hb0).drew.trans T1).trans T2).drew.trans T3)
 clear H3 T3 R3 K3 hu3
 go_wp2
 go_ret
 exact ⟨rfl,F',(grow P w0.drew w1),u4,u5,u6,u7,its1,HH3.out,by omega,HT3.out⟩
end
end Go.Proofs.YtchddaafibjmgaaGreat
