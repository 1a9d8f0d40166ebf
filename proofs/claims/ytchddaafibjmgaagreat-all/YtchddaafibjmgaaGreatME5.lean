import Derived.Test.YtchddaafibjmgaaGreatME3
import Derived.Deep.RegionHeld3
import Derived.Test.YtchddaafibjmgaaGreatME4
set_option maxRecDepth 100000
set_option maxHeartbeats 20000000
namespace Go.Proofs.YtchddaafibjmgaaGreat
section
open Go.RowKit Go.Maps
attribute [local go_sem] Go.wp_at_zero Go.wp_at_succ
theorem queue_slice {w:World} {v:Value} {l:List PodD} (h:qhm w v l): ∃ a c,v= .slice a l.length c:=by
 rcases h with ⟨rfl,rfl⟩| ⟨g,off,cap,cur,rfl,_⟩
 ·exact ⟨none,0,rfl⟩
 ·exact ⟨_,_,rfl⟩
theorem state_node {w0:World} {st:RefD} {a1 a4:Option Addr} {k1 cp4:Nat} (h1:w0.ownsRow 0 91 5 (.slice a1 st.nodes.length k1) st.nodes.length (st.abs.N.flatMap fun p=>useRowA st.abs.P p.1)) (h4:w0.ownsRow 0 43 6 (.slice a4 st.nodes.length cp4) st.nodes.length (st.nodes.flatMap qu.row)) {k:Nat} (hk:k < st.nodes.length):
  ∃ g1 g4 nm,a1=some ⟨g1,0,none⟩∧a4=some ⟨g4,0,none⟩∧g1 < w0.heap.size∧g4 < w0.heap.size∧w0.cell? ⟨g4,k * 6,none⟩=some (.string nm)∧w0.cell? ⟨g1,k * 5,none⟩=some (.string nm)∧
   w0.cell? ⟨g1,k * 5+1,none⟩=some (.int .i64 (qa8 st.pods nm st.pods.length).1)∧w0.cell? ⟨g1,k * 5+2,none⟩=some (.int .i64 (qa8 st.pods nm st.pods.length).2.1)∧w0.cell? ⟨g1,k * 5+3,none⟩=some (.int .i64 (qa8 st.pods nm st.pods.length).2.2.1)∧w0.cell? ⟨g1,k * 5+4,none⟩=some (.int .i64 (qa8 st.pods nm st.pods.length).2.2.2):=by
 obtain ⟨g1,e1,l1,c1,_⟩:=qfd h1 (by omega)
 obtain ⟨g4,e4,l4,c4,_⟩:=qfd h4 (by omega)
 have hl:k < st.abs.N.length:=by rw [N_len];exact hk
 have hr:st.abs.N[k]=qg3 st.nodes[k]:=List.getElem_map ..
 have f:=fun j (hj:j < 5)=>qc6 (fun p:qn×qbb=>useRowA st.abs.P p.1) 5 (fun _=>rfl) st.abs.N k j hl hj
 rw [hr] at f
 have d:=qc6 qu.row 6 qu.row_length st.nodes k 0 hk (by omega)
 have u:=used_all st (st.nodes[k]).name
 refine ⟨g1,g4,(st.nodes[k]).name,e1,e4,l1,l4,?_,?_,?_,?_,?_,?_⟩
 ·have:=(c4 (k * 6) (by omega)).trans d
  exact this
 ·have:=(c1 (k * 5) (by omega)).trans (f 0 (by omega))
  refine this.trans ?_
  show some (Value.string (bs (ky (st.nodes[k]).name)))=_
  rw [bs_ky]
 ·rw [u];exact (c1 (k * 5+1) (by omega)).trans (f 1 (by omega))
 ·rw [u];exact (c1 (k * 5+2) (by omega)).trans (f 2 (by omega))
 ·rw [u];exact (c1 (k * 5+3) (by omega)).trans (f 3 (by omega))
 ·rw [u];exact (c1 (k * 5+4) (by omega)).trans (f 4 (by omega))
theorem state_pod {w0:World} {st:RefD} {a2 a5:Option Addr} {k2 cp5:Nat} (h2:w0.ownsRow 0 94 4 (.slice a2 st.pods.length k2) st.pods.length (st.abs.P.flatMap liesRowA)) (h5:w0.ownsRow 0 110 13 (.slice a5 st.pods.length cp5) st.pods.length (st.pods.flatMap qax.row)) {k:Nat} (hk:k < st.pods.length):
  ∃ (g2 g5:Nat) (x:qax),a2=some ⟨g2,0,none⟩∧a5=some ⟨g5,0,none⟩∧g2 < w0.heap.size∧g5 < w0.heap.size∧(∀ j,j < 13→w0.cell? ⟨g5,k * 13+j,none⟩=x.row[j]?)∧
   w0.cell? ⟨g2,k * 4,none⟩=some (.string x.p.name)∧w0.cell? ⟨g2,k * 4+1,none⟩=some (.string x.node)∧w0.cell? ⟨g2,k * 4+2,none⟩=some (.bool x.bound)∧w0.cell? ⟨g2,k * 4+3,none⟩=some (.int .i64 x.since):=by
 obtain ⟨g2,e2,l2,c2,_⟩:=qfd h2 (by omega)
 obtain ⟨g5,e5,l5,c5,_⟩:=qfd h5 (by omega)
 have hl:k < st.abs.P.length:=by rw [P_len];exact hk
 have hr:st.abs.P[k]=podP st.pods[k]:=List.getElem_map ..
 have f:=fun j (hj:j < 4)=>qc6 liesRowA 4 (fun _=>rfl) st.abs.P k j hl hj
 rw [hr] at f
 refine ⟨g2,g5,st.pods[k],e2,e5,l2,l5,fun j hj=>(c5 (k * 13+j) (by omega)).trans (qc6 qax.row 13 qax.row_length st.pods k j hk hj),?_,?_,?_,?_⟩
 ·refine ((c2 (k * 4) (by omega)).trans (f 0 (by omega))).trans ?_
  show some (Value.string (bs (ky (st.pods[k]).p.name)))=_
  rw [bs_ky]
 ·refine ((c2 (k * 4+1) (by omega)).trans (f 1 (by omega))).trans ?_
  show some (Value.string (bs (ky (st.pods[k]).node)))=_
  rw [bs_ky]
 ·exact (c2 (k * 4+2) (by omega)).trans (f 2 (by omega))
 ·exact (c2 (k * 4+3) (by omega)).trans (f 3 (by omega))
theorem state_any {C:Nat→Prop} {w:World} {Zp Yp Yr Lp X:Nat} {F P:Nat→Prop} {v4 v5 v6 v7:Value} {st:RefD} {its:List Item} (H:qas C w Zp Yp Yr Lp X F P v4 v5 v6 v7 st.abs st its) {G:Nat→Prop} {c0 c1 c2 c3:Nat} (B:Book G w X c0 c1 c2 c3)
  (hDG: ∀ b,qx Zp F Yr v4 v5 v6 v7 P b→ ¬ G b) (hCG: ∀ b,C b→ ¬ G b) (h1:c1≤1000000000000) (h2:c2≤1000000000000):
  Calls Tryz.prog 12 #[.pointer (some ⟨Zp,0,none⟩)] w fun e w'=>e= .returned (.bool true)∧ ∃ G',qas C w' Zp Yp Yr Lp X F P v4 v5 v6 v7 st.abs st its∧Book G' w' X c0 (c1+1) (c2+1) c3∧qaw G G' w w':=by
 have lZ:=qo H.box
 have lY:=qo H.ref.box
 have hN:=H.sound.wf.nodes
 have hP:=H.sound.wf.pods
 have HH:Hid (qas C w Zp Yp Yr Lp X F P v4 v5 v6 v7 st.abs st its):=H
 have HB:Hid (Book G w X c0 c1 c2 c3):=B
 obtain ⟨a4,cp4,rfl⟩:=qv H.ref.r4
 obtain ⟨a5,cp5,rfl⟩:=qv H.ref.r5
 obtain ⟨a7,cp7,rfl⟩:=queue_slice H.ref.r7
 obtain ⟨z0,z1,_,z3⟩:=H.cells
 have y3:w.cell? ⟨Yr,3,none⟩=some (.int .i64 st.now):=by rw [ql H.ref.box];rfl
 have y4:w.cell? ⟨Yr,4,none⟩=some (.slice a4 st.nodes.length cp4):=by rw [ql H.ref.box];rfl
 have y5:w.cell? ⟨Yr,5,none⟩=some (.slice a5 st.pods.length cp5):=by rw [ql H.ref.box];rfl
 have y7:w.cell? ⟨Yr,7,none⟩=some (.slice a7 st.waiting.length cp7):=by rw [ql H.ref.box];rfl
 have hq0:=neq_use
 have hq1:=neq_lies
 have HDG:Hid _:=hDG
 have HCG:Hid _:=hCG
 have HC:Hid (∀ b,C b→b < w.heap.size):=H.cl
 have HW:Hid _:=H.sound.needs
 have h4:=H.ref.r4
 have h5:=H.ref.r5
 have HR:Hid _:=H.ref
 clear H B hDG hCG
 go_enter Tryz.func12,Tryz.ntmps12
 go_upto_region 2 with ((go_at_call 34;refine (spec_state HH.out.bst).mono ?_;rintro e w1 ⟨a1,k1,a2,k2,rfl,SA,hb1⟩;unfold stV;rw [N_len,P_len,show st.abs.W.length=st.waiting.length from List.length_map ..,show st.abs.now=st.now from rfl]))
 have R1:=SA.us
 have R2:=SA.ls
 have u1:=SA.unew
 have u2:=SA.lnew
 rw [N_len] at R1 u1
 rw [P_len] at R2 u2
 obtain ⟨w0,hw0⟩: ∃ W,W=w1.alloc (.cells #[.int .i64 st.now,.slice a1 st.nodes.length k1,.slice a2 st.pods.length k2,.int .i64 st.waiting.length] 99):=⟨_,rfl⟩
 rw [← hw0]
 have hb10:Below w1.heap.size w1 w0:=by rw [hw0];exact qi _ _
 have lb:w1.heap.size < w0.heap.size:=by rw [hw0];simp
 have bb:w0.heap[w1.heap.size]? =some (.cells #[.int .i64 st.now,.slice a1 st.nodes.length k1,.slice a2 st.pods.length k2,.int .i64 st.waiting.length] 99 (0,0)):=by rw [hw0];exact qm _ _
 have s0:w0.cell? ⟨w1.heap.size,0,none⟩=some (.int .i64 st.now):=by rw [ql bb];rfl
 have s1:w0.cell? ⟨w1.heap.size,1,none⟩=some (.slice a1 st.nodes.length k1):=by rw [ql bb];rfl
 have s2:w0.cell? ⟨w1.heap.size,2,none⟩=some (.slice a2 st.pods.length k2):=by rw [ql bb];rfl
 have s3:w0.cell? ⟨w1.heap.size,3,none⟩=some (.int .i64 st.waiting.length):=by rw [ql bb];rfl
 have hb0:Below w.heap.size w w0:=qj hb1 hb10
 have z1':=(hb0.cell (p:=⟨Zp,1,none⟩) lZ).trans z1
 have z3':=(hb0.cell (p:=⟨Zp,3,none⟩) lZ).trans z3
 have y3':=(hb0.cell (p:=⟨Yr,3,none⟩) lY).trans y3
 have y4':=(hb0.cell (p:=⟨Yr,4,none⟩) lY).trans y4
 have y5':=(hb0.cell (p:=⟨Yr,5,none⟩) lY).trans y5
 have y7':=(hb0.cell (p:=⟨Yr,7,none⟩) lY).trans y7
 have lZ0:Zp < w0.heap.size:=Nat.lt_of_lt_of_le lZ hb0.size
 have lY0:Yr < w0.heap.size:=Nat.lt_of_lt_of_le lY hb0.size
 have K10:=Kept.of_below (F:=qq) hb10
 have HR1:Hid _:=K10.ownsRow R1 fun _ _=>id
 have HR2:Hid _:=K10.ownsRow R2 fun _ _=>id
 have HE1:Hid (∀ b,(Value.slice a1 st.nodes.length k1).ownBlock=some b→b < w1.heap.size):=fun b h=>(R1.lt b h).2
 have HE2:Hid (∀ b,(Value.slice a2 st.pods.length k2).ownBlock=some b→b < w1.heap.size):=fun b h=>(R2.lt b h).2
 have HS1:Hid (w.heap.size≤w1.heap.size):=hb1.size
 have HU1:Hid _:=u1
 have HU2:Hid _:=u2
 have K00:=Kept.of_below (F:=qq) hb0
 have HN:Hid _:=fun k (hk:k < st.nodes.length)=>state_node HR1.out (K00.ownsRow h4 fun _ _=>id) hk
 have HP:Hid _:=fun k (hk:k < st.pods.length)=>state_pod HR2.out (K00.ownsRow h5 fun _ _=>id) hk
 have HB0:Hid _:=hb0
 have HRf:Hid (qbc w0 Yr st (.slice a4 st.nodes.length cp4) (.slice a5 st.pods.length cp5) v6 (.slice a7 st.waiting.length cp7)):=HR.out.kept K00 fun _ _=>id
 clear hw0 SA R1 R2 u1 u2 hb1 hb10 bb z0 z1 z3 y3 y4 y5 y7 h4 h5 K10 K00 hb0
 have HU:Hid _:=fun s W (hW:Below w0.heap.size w0 W)=>used_any Yr st (.slice a4 st.nodes.length cp4) (.slice a5 st.pods.length cp5) v6 (.slice a7 st.waiting.length cp7) s W (HRf.out.kept (Kept.of_below (F:=qq) hW) fun _ _=>id) (by omega) HW.out
 go_quiet (fail)
 rename_i nq
 go_wp2
 go_loopw [4] (fun i wr=> ∃ k:Nat,k≤st.nodes.length∧i= .int .i64 k∧Below w0.heap.size w0 wr) (fun i _=>st.nodes.length - (intOf i).toNat)
 case atStart=>exact ⟨0,Nat.zero_le _,rfl,below_drewN (Below.refl _ _) _⟩
 case round=>
  obtain ⟨k,hk,rfl,hbr⟩:=hrel
  have r1:=(hbr.cell (p:=⟨w1.heap.size,1,none⟩) lb).trans s1
  have r2:=(hbr.cell (p:=⟨w1.heap.size,2,none⟩) lb).trans s2
  have t1:=(hbr.cell (p:=⟨Zp,1,none⟩) lZ0).trans z1'
  have t4:=(hbr.cell (p:=⟨Yr,4,none⟩) lY0).trans y4'
  have lr:=Nat.lt_of_lt_of_le lb hbr.size
  have lrZ:=Nat.lt_of_lt_of_le lZ0 hbr.size
  have lrY:=Nat.lt_of_lt_of_le lY0 hbr.size
  by_cases hlt:k < st.nodes.length
  ·obtain ⟨g1,g4,nm,e1,e4,l1,l4,q0,d0,d1,d2,d3,d4⟩:=HN.out k hlt
   rw [e1] at r1
   rw [e4] at t4
   have q0:=(hbr.cell (p:=⟨g4,k * 6,none⟩) l4).trans q0
   have d0:=(hbr.cell (p:=⟨g1,k * 5,none⟩) l1).trans d0
   have d1:=(hbr.cell (p:=⟨g1,k * 5+1,none⟩) l1).trans d1
   have d2:=(hbr.cell (p:=⟨g1,k * 5+2,none⟩) l1).trans d2
   have d3:=(hbr.cell (p:=⟨g1,k * 5+3,none⟩) l1).trans d3
   have d4:=(hbr.cell (p:=⟨g1,k * 5+4,none⟩) l1).trans d4
   have l1:=Nat.lt_of_lt_of_le l1 hbr.size
   have l4:=Nat.lt_of_lt_of_le l4 hbr.size
   have HBr:Hid _:=hbr
   have nZ:wr.heap.size≠Zp:=Nat.ne_of_gt lrZ
   have nY:wr.heap.size≠Yr:=Nat.ne_of_gt lrY
   have nG:wr.heap.size≠g4:=Nat.ne_of_gt l4
   have nH:wr.heap.size≠g1:=Nat.ne_of_gt l1
   clear hbr e1 e4
   go_wp2
   go_region_held3 (fun w'=>w'.cell? ⟨Zp,1,none⟩=some (.pointer (some ⟨Yr,0,none⟩))∧w'.cell? ⟨Yr,4,none⟩=some (.slice (some ⟨g4,0,none⟩) st.nodes.length cp4)∧w'.cell? ⟨g4,k * 6,none⟩=some (.string nm)) (go_keep)
    (first
     | (go_at_call 35;refine (HU.out nm _ (below_drewN HBr.out 1)).mono ?_;rintro e w2 ⟨rfl,hb2⟩;have HB2:Hid (Below wr.heap.size wr w2):=qj (below_drewN (Below.refl _ _) 1) hb2;have p1:=(hb2.cell (p:=⟨Zp,1,none⟩) lrZ).trans t1;have p4:=(hb2.cell (p:=⟨Yr,4,none⟩) lrY).trans t4;have p0:=(hb2.cell (p:=⟨g4,k * 6,none⟩) l4).trans q0;have lw2:wr.heap.size≤w2.heap.size:=HB2.out.size;clear hb2)
     | (go_at_call 35;refine (HU.out nm _ (below_drewN (qj HBr.out (qi wr (.cells #[.int .i64 0,.int .i64 0,.int .i64 0] 41))) 1)).mono ?_;rintro e w2 ⟨rfl,hb2⟩;have HB2:Hid (Below wr.heap.size wr w2):=qj (below_drewN (qi _ _) 1) hb2;have p1:=(HB2.out.cell (p:=⟨Zp,1,none⟩) lrZ).trans t1;have p4:=(HB2.out.cell (p:=⟨Yr,4,none⟩) lrY).trans t4;have p0:=(HB2.out.cell (p:=⟨g4,k * 6,none⟩) l4).trans q0;have bw2:w2.heap[wr.heap.size]? =some (.cells #[.int .i64 0,.int .i64 0,.int .i64 0] 41 (0,0)):=(hb2.block wr.heap.size (by simp)).trans (qm _ _);have lw2:wr.heap.size < w2.heap.size:=qo bw2;have c0':w2.cell? ⟨wr.heap.size,0,none⟩=some (.int .i64 0):=(ql bw2).trans rfl;have c1':w2.cell? ⟨wr.heap.size,1,none⟩=some (.int .i64 0):=(ql bw2).trans rfl;have c2':w2.cell? ⟨wr.heap.size,2,none⟩=some (.int .i64 0):=(ql bw2).trans rfl;have f0':w2.frozen? ⟨wr.heap.size,0,none⟩=false:=qp bw2;have f1':w2.frozen? ⟨wr.heap.size,1,none⟩=false:=qp bw2;have f2':w2.frozen? ⟨wr.heap.size,2,none⟩=false:=qp bw2;clear hb2 bw2))
   all_goals
    have r1':=(HB2.out.cell (p:=⟨w1.heap.size,1,none⟩) lr).trans r1
    have d0':=(HB2.out.cell (p:=⟨g1,k * 5,none⟩) l1).trans d0
    have d1':=(HB2.out.cell (p:=⟨g1,k * 5+1,none⟩) l1).trans d1
    have d2':=(HB2.out.cell (p:=⟨g1,k * 5+2,none⟩) l1).trans d2
    have d3':=(HB2.out.cell (p:=⟨g1,k * 5+3,none⟩) l1).trans d3
    have d4':=(HB2.out.cell (p:=⟨g1,k * 5+4,none⟩) l1).trans d4
    have l1':=Nat.lt_of_lt_of_le l1 HB2.out.size
    have l4':=Nat.lt_of_lt_of_le l4 HB2.out.size
    have lr':=Nat.lt_of_lt_of_le lr HB2.out.size
    have lZ':=Nat.lt_of_lt_of_le lrZ HB2.out.size
    have lY':=Nat.lt_of_lt_of_le lrY HB2.out.size
    have nB:wr.heap.size≠w1.heap.size:=Nat.ne_of_gt lr
    clear d0 d1 d2 d3 d4 r1 q0 t1 t4
    go_wp2
    go_quiet (fail)
    rename_i nq2
    go_wp2
    go_roundw
    case rel=>
     refine ⟨k+1,by omega,by go_num,below_drewN ?_ _⟩
     first
      | exact qj HBr.out (qj HB2.out (qi _ _))
      | exact qj HBr.out (Kept.below ((((Kept.of_below (F:=fun b=>b=wr.heap.size) HB2.out).setCell (p:=⟨wr.heap.size,0,none⟩) (fun _=>rfl) _).setCell (p:=⟨wr.heap.size,1,none⟩) (fun _=>rfl) _).setCell (p:=⟨wr.heap.size,2,none⟩) (fun _=>rfl) _) (Nat.le_refl _) fun i hi h=>Nat.lt_irrefl _ (h▸hi))
    case measure=>simp [intOf];omega
  ·have HBr:Hid _:=hbr
   clear hbr
   go_wp2
   go_loopw [7] (fun i ws=> ∃ k:Nat,k≤st.pods.length∧i= .int .i64 k∧Below w0.heap.size w0 ws) (fun i _=>st.pods.length - (intOf i).toNat)
   case atStart=>exact ⟨0,Nat.zero_le _,rfl,HBr.out⟩
   case round=>
    clear HBr r1 r2 t1 t4 lr lrZ lrY
    obtain ⟨j,hj,rfl,hbs⟩:=hrel
    have r2:=(hbs.cell (p:=⟨w1.heap.size,2,none⟩) lb).trans s2
    have t1:=(hbs.cell (p:=⟨Zp,1,none⟩) lZ0).trans z1'
    have t5:=(hbs.cell (p:=⟨Yr,5,none⟩) lY0).trans y5'
    have lr:=Nat.lt_of_lt_of_le lb hbs.size
    have lrZ:=Nat.lt_of_lt_of_le lZ0 hbs.size
    have lrY:=Nat.lt_of_lt_of_le lY0 hbs.size
    by_cases hlj:j < st.pods.length
    ·obtain ⟨g2,g5,x,e2,e5,l2,l5,hx,d0,d1,d2,d3⟩:=HP.out j hlj
     rw [e2] at r2
     rw [e5] at t5
     have x0:=(hbs.cell (p:=⟨g5,j * 13,none⟩) l5).trans (hx 0 (by omega))
     have x1:=(hbs.cell (p:=⟨g5,j * 13+1,none⟩) l5).trans (hx 1 (by omega))
     have x2:=(hbs.cell (p:=⟨g5,j * 13+2,none⟩) l5).trans (hx 2 (by omega))
     have x3:=(hbs.cell (p:=⟨g5,j * 13+3,none⟩) l5).trans (hx 3 (by omega))
     have x4:=(hbs.cell (p:=⟨g5,j * 13+4,none⟩) l5).trans (hx 4 (by omega))
     have x5:=(hbs.cell (p:=⟨g5,j * 13+5,none⟩) l5).trans (hx 5 (by omega))
     have x6:=(hbs.cell (p:=⟨g5,j * 13+6,none⟩) l5).trans (hx 6 (by omega))
     have x7:=(hbs.cell (p:=⟨g5,j * 13+7,none⟩) l5).trans (hx 7 (by omega))
     have x8:=(hbs.cell (p:=⟨g5,j * 13+8,none⟩) l5).trans (hx 8 (by omega))
     have x9:=(hbs.cell (p:=⟨g5,j * 13+9,none⟩) l5).trans (hx 9 (by omega))
     have x10:=(hbs.cell (p:=⟨g5,j * 13+10,none⟩) l5).trans (hx 10 (by omega))
     have x11:=(hbs.cell (p:=⟨g5,j * 13+11,none⟩) l5).trans (hx 11 (by omega))
     have x12:=(hbs.cell (p:=⟨g5,j * 13+12,none⟩) l5).trans (hx 12 (by omega))
     simp only [qax.row,PodD.row,PodD.cells,Lst.val,List.cons_append,List.nil_append,List.getElem?_cons_zero,List.getElem?_cons_succ] at x0 x1 x2 x3 x4 x5 x6 x7 x8 x9 x10 x11 x12
     have d0:=(hbs.cell (p:=⟨g2,j * 4,none⟩) l2).trans d0
     have d1:=(hbs.cell (p:=⟨g2,j * 4+1,none⟩) l2).trans d1
     have d2:=(hbs.cell (p:=⟨g2,j * 4+2,none⟩) l2).trans d2
     have d3:=(hbs.cell (p:=⟨g2,j * 4+3,none⟩) l2).trans d3
     have l2:=Nat.lt_of_lt_of_le l2 hbs.size
     have HBs:Hid _:=hbs
     clear hbs e2 e5 hx
     go_wp2
     go_quiet (fail)
     rename_i nq3
     go_wp2
     go_roundw
     case rel=>exact ⟨j+1,by omega,by go_num,below_drewN (qj HBs.out (qi _ _)) _⟩
     case measure=>simp [intOf];omega
    ·have r0:=(hbs.cell (p:=⟨w1.heap.size,0,none⟩) lb).trans s0
     have r1:=(hbs.cell (p:=⟨w1.heap.size,1,none⟩) lb).trans s1
     have r3:=(hbs.cell (p:=⟨w1.heap.size,3,none⟩) lb).trans s3
     have t3:=(hbs.cell (p:=⟨Zp,3,none⟩) lZ0).trans z3'
     have hbws:Below w.heap.size w wr:=qj HB0.out hbs
     have HBs:Hid (Below w.heap.size w wr.drew):=below_drewN hbws 1
     have KS:=Kept.of_below (F:=qq) (below_drewN hbs 1:Below w0.heap.size w0 wr.drew)
     have HBk:Hid (Book G wr.drew X c0 c1 c2 c3):=HB.out.kept (Kept.of_below (F:=qq) HBs.out) fun _ _=>id
     have HQ1:Hid _:=KS.ownsRow HR1.out fun _ _=>id
     have HQ2:Hid _:=KS.ownsRow HR2.out fun _ _=>id
     have HG1:Hid (∀ b,(Value.slice a1 st.nodes.length k1).ownBlock=some b→ ¬ G b):=fun b hb hg=>by have:=HU1.out b hb;have:=HB.out.lt b hg;omega
     have HG2:Hid (∀ b,(Value.slice a2 st.pods.length k2).ownBlock=some b→ ¬ G b):=fun b hb hg=>by have:=HU2.out b hb;have:=HB.out.lt b hg;omega
     have HZ5:Hid (¬ (G Zp∨(Value.slice a1 st.nodes.length k1).ownBlock=some Zp∨(Value.slice a2 st.pods.length k2).ownBlock=some Zp)):=fun h=>by
      rcases h with h| h| h
      ·exact HDG.out Zp (.inl rfl) h
      ·have:=HU1.out _ h;omega
      ·have:=HU2.out _ h;omega
     have HS5:Hid (¬ (G w1.heap.size∨(Value.slice a1 st.nodes.length k1).ownBlock=some w1.heap.size∨(Value.slice a2 st.pods.length k2).ownBlock=some w1.heap.size)):=fun h=>by
      rcases h with h| h| h
      ·have h1:=HB.out.lt _ h;have h2:=HS1.out;omega
      ·exact Nat.lt_irrefl _ (HE1.out _ h)
      ·exact Nat.lt_irrefl _ (HE2.out _ h)
     clear hbs hbws KS t5
     go_wp2
     go_region_held3 (fun w'=>w'.cell? ⟨Zp,3,none⟩=some (.pointer (some ⟨X,0,none⟩))∧w'.cell? ⟨w1.heap.size,0,none⟩=some (.int .i64 st.now)∧w'.cell? ⟨w1.heap.size,1,none⟩=some (.slice a1 st.nodes.length k1)∧w'.cell? ⟨w1.heap.size,2,none⟩=some (.slice a2 st.pods.length k2)∧w'.cell? ⟨w1.heap.size,3,none⟩=some (.int .i64 st.waiting.length)) (go_keep)
      ((go_at_call 36;refine (keepState_any HBk.out HQ1.out HQ2.out (by omega) (by omega) HG1.out HG2.out h1 h2 st.now st.waiting.length).mono ?_;rintro e w5 ⟨rfl,G',B5,K5,hG5⟩;have u3:=(K5.cell (p:=⟨Zp,3,none⟩) lrZ HZ5.out).trans t3;have u0:=(K5.cell (p:=⟨w1.heap.size,0,none⟩) lr HS5.out).trans r0;have u1:=(K5.cell (p:=⟨w1.heap.size,1,none⟩) lr HS5.out).trans r1;have u2:=(K5.cell (p:=⟨w1.heap.size,2,none⟩) lr HS5.out).trans r2;have u4:=(K5.cell (p:=⟨w1.heap.size,3,none⟩) lr HS5.out).trans r3;have HB5:Hid _:=B5;have HK5:Hid _:=K5;have HG5:Hid _:=hG5;clear B5 K5 hG5))
     go_wp2
     go_ret
     have KW:Kept G w w5:=(Kept.of_below HBs.out).trans HK5.out fun b hb h=>by
      rcases h with h| h| h
      ·exact h
      ·have:=HU1.out b h;omega
      ·have:=HU2.out b h;omega
     have hz:=HBs.out.size
     refine ⟨rfl,G',HH.out.kept KW HDG.out HCG.out,HB5.out,KW,fun b hb=> ?_⟩
     rcases HG5.out b hb with h| h| h| h
     ·exact .inl h
     ·exact .inr (HU1.out b h)
     ·exact .inr (HU2.out b h)
     ·exact .inr (Nat.le_trans hz h)
end
section
open Go.RowKit Go.Maps
def StepTo (C D G:Nat→Prop) (w w':World) (Z X:Nat) (st:RefD) (m c0 c1 c2 c3:Nat):Prop:=
 ∃ D' G' st' d0 d1 d2 d3,Pair C D' w' Z X st' m∧Book G' w' X d0 d1 d2 d3∧qaw (fun b=>D b∨G b) (fun b=>D' b∨G' b) w w'∧(∀ b,D' b→ ¬ G' b)∧st'.tally≤st.tally+2∧d0+st'.waiting.length≤c0+st.waiting.length+1∧d1≤c1+1∧d2≤c2+1∧d3≤c3+1
theorem Pair.cfoot {C D:Nat→Prop} {w:World} {Zp X:Nat} {st:RefD} {n:Nat} (h:Pair C D w Zp X st n):(∀ b,C b→ ¬ D b)∧ ∀ b,C b→b < w.heap.size:=by
 obtain ⟨Yp,Yr,Lp,F,P,v4,v5,v6,v7,its,H,_,hD⟩:=h
 exact ⟨fun b hc hd=>H.foot hc ((hD b).2 hd),H.cl⟩
def Slot (C D:Nat→Prop) (w:World) (z:Option Addr) (X:Nat) (st:RefD):Prop:=(z=none∧ ∀ b,¬ D b)∨ ∃ Z,z=some ⟨Z,0,none⟩∧Pair C D w Z X st 0
theorem Slot.kept {C D G:Nat→Prop} {w w':World} {z:Option Addr} {X:Nat} {st:RefD} (h:Slot C D w z X st) (hk:Kept G w w') (hG: ∀ b,D b→ ¬ G b) (hC: ∀ b,C b→ ¬ G b):Slot C D w' z X st:=by
 rcases h with h| ⟨Z,hz,h⟩
 ·exact .inl h
 ·exact .inr ⟨Z,hz,h.kept hk hG hC⟩
theorem Slot.lt {C D:Nat→Prop} {w:World} {z:Option Addr} {X:Nat} {st:RefD} (h:Slot C D w z X st): ∀ b,D b→b < w.heap.size:=by
 rcases h with h| ⟨Z,hz,h⟩
 ·exact fun b hb=>(h.2 b hb).elim
 ·exact h.lt
theorem Slot.cfoot {C D:Nat→Prop} {w:World} {z:Option Addr} {X:Nat} {st:RefD} (h:Slot C D w z X st): ∀ b,C b→ ¬ D b:=by
 rcases h with h| ⟨Z,hz,h⟩
 ·exact fun b _=>h.2 b
 ·exact h.cfoot.1
structure Duo (C D1 D2 G:Nat→Prop) (w:World) (z1 z2:Option Addr) (X:Nat) (s1 s2:RefD) (c0 c1 c2 c3 n:Nat):Prop where
 o1:Slot C D1 w z1 X s1
 o2:Slot C D2 w z2 X s2
 bk:Book G w X c0 c1 c2 c3
 d12: ∀ b,D1 b→ ¬ D2 b
 d1g: ∀ b,D1 b→ ¬ G b
 d2g: ∀ b,D2 b→ ¬ G b
 cg: ∀ b,C b→ ¬ G b
 cl: ∀ b,C b→b < w.heap.size
 t1:s1.tally≤2 * n
 t2:s2.tally≤2 * n
 b0:c0+s1.waiting.length+s2.waiting.length≤n
 b1:c1≤n
 b2:c2≤n
 b3:c3≤n
def qfl (C:Nat→Prop) (B:Nat) (w:World) (z1 z2:Option Addr) (X n:Nat):Prop:= ∃ D1 D2 G s1 s2 c0 c1 c2 c3,Duo C D1 D2 G w z1 z2 X s1 s2 c0 c1 c2 c3 n∧ ∀ b,D1 b∨D2 b∨G b→B≤b
theorem Duo.swap {C D1 D2 G:Nat→Prop} {w:World} {z1 z2:Option Addr} {X:Nat} {s1 s2:RefD} {c0 c1 c2 c3 n:Nat} (h:Duo C D1 D2 G w z1 z2 X s1 s2 c0 c1 c2 c3 n):Duo C D2 D1 G w z2 z1 X s2 s1 c0 c1 c2 c3 n:=
 ⟨h.o2,h.o1,h.bk,fun b h1 h2=>h.d12 b h2 h1,h.d2g,h.d1g,h.cg,h.cl,h.t2,h.t1,by have:=h.b0;omega,h.b1,h.b2,h.b3⟩
theorem qfl.swap {C:Nat→Prop} {B:Nat} {w:World} {z1 z2:Option Addr} {X n:Nat} (h:qfl C B w z1 z2 X n):qfl C B w z2 z1 X n:=by
 obtain ⟨D1,D2,G,s1,s2,c0,c1,c2,c3,h,hB⟩:=h
 exact ⟨D2,D1,G,s2,s1,c0,c1,c2,c3,h.swap,fun b hb=>hB b (hb.elim (fun h=> .inr (.inl h)) fun h=>h.elim .inl fun h=> .inr (.inr h))⟩
theorem qfl.below {C:Nat→Prop} {B:Nat} {w w':World} {z1 z2:Option Addr} {X n:Nat} (h:qfl C B w z1 z2 X n) (hb:Below w.heap.size w w'):qfl C B w' z1 z2 X n:=by
 obtain ⟨D1,D2,G,s1,s2,c0,c1,c2,c3,h,hB⟩:=h
 have K:=Kept.of_below (F:=qq) hb
 exact ⟨D1,D2,G,s1,s2,c0,c1,c2,c3,⟨h.o1.kept K (fun _ _=>id) fun _ _=>id,h.o2.kept K (fun _ _=>id) fun _ _=>id,h.bk.kept K fun _ _=>id,h.d12,h.d1g,h.d2g,h.cg,fun b hc=>Nat.lt_of_lt_of_le (h.cl b hc) hb.size,h.t1,h.t2,h.b0,h.b1,h.b2,h.b3⟩,hB⟩
theorem Duo.step {C D1 D2 G D G':Nat→Prop} {w w' w2:World} {Z:Nat} {z2:Option Addr} {X:Nat} {s1 s2 s:RefD} {c0 c1 c2 c3 d0 d1 d2 d3 n:Nat} (h:Duo C D1 D2 G w (some ⟨Z,0,none⟩) z2 X s1 s2 c0 c1 c2 c3 n)
  (q1:Pair C D w2 Z X s 0) (q2:Book G' w' X d0 d1 d2 d3) (q3:qaw (fun b=>D1 b∨G b) (fun b=>D b∨G' b) w w') (q4: ∀ b,D b→ ¬ G' b) (qk:Kept D w' w2) (t:s.tally≤s1.tally+2) (b0:d0+s.waiting.length≤c0+s1.waiting.length+1) (b1:d1≤c1+1) (b2:d2≤c2+1) (b3:d3≤c3+1):
  Duo C D D2 G' w2 (some ⟨Z,0,none⟩) z2 X s s2 d0 d1 d2 d3 (n+1)∧ ∀ b,D b∨D2 b∨G' b→D1 b∨D2 b∨G b∨w.heap.size≤b:=by
 have hD2: ∀ b,D2 b→ ¬ (D b∨G' b):=fun b h2 h'=>by
  rcases q3.2 b h' with (h'| h')| h'
  ·exact h.d12 b h' h2
  ·exact h.d2g b h2 h'
  ·have:=h.o2.lt b h2;omega
 have hC: ∀ b,C b→ ¬ (D b∨G' b):=fun b hc h'=>by
  rcases q3.2 b h' with (h'| h')| h'
  ·exact h.o1.cfoot b hc h'
  ·exact h.cg b hc h'
  ·have:=h.cl b hc;omega
 have hD2': ∀ b,D2 b→ ¬ (D1 b∨G b):=fun b h2 h'=>h'.elim (fun h1=>h.d12 b h1 h2) (h.d2g b h2)
 have hC': ∀ b,C b→ ¬ (D1 b∨G b):=fun b hc h'=>h'.elim (h.o1.cfoot b hc) (h.cg b hc)
 have hs:=q3.1.size
 have hs2:=qk.size
 refine ⟨⟨.inr ⟨Z,rfl,q1⟩,(h.o2.kept q3.1 hD2' hC').kept qk (fun b h2 h'=>hD2 b h2 (.inl h')) (fun b hc h'=>hC b hc (.inl h')),q2.kept qk fun b hg hd=>q4 b hd hg,fun b hd h2=>hD2 b h2 (.inl hd),q4,fun b h2 hg=>hD2 b h2 (.inr hg),fun b hc hg=>hC b hc (.inr hg),fun b hc=>by have:=h.cl b hc;omega,by have:=h.t1;omega,by have:=h.t2;omega,by have:=h.b0;omega,by have:=h.b1;omega,by have:=h.b2;omega,by have:=h.b3;omega⟩,fun b hb=> ?_⟩
 rcases hb with hb| hb| hb
 ·rcases q3.2 b (.inl hb) with (h'| h')| h'
  ·exact .inl h'
  ·exact .inr (.inr (.inl h'))
  ·exact .inr (.inr (.inr h'))
 ·exact .inr (.inl hb)
 ·rcases q3.2 b (.inr hb) with (h'| h')| h'
  ·exact .inl h'
  ·exact .inr (.inr (.inl h'))
  ·exact .inr (.inr (.inr h'))
theorem pair_still {C D:Nat→Prop} {w:World} {Z X:Nat} {st:RefD} {m:Nat} (h:Pair C D w Z X st m) (hm:m≤1000):
  ∃ Lp,w.cell? ⟨Z,2,none⟩=some (.pointer (some ⟨Lp,0,none⟩))∧Calls Tryz.prog 10 #[.pointer (some ⟨Lp,0,none⟩)] w fun e w'=>e= .returned (.bool true)∧Pair C D w' Z X st 0∧Kept D w w':=by
 obtain ⟨Yp,Yr,Lp,F,P,v4,v5,v6,v7,its,H,hn,hD⟩:=h
 refine ⟨Lp,H.cells.2.2.1,(stillG_any C P w Lp its H.lent (by omega)).mono ?_⟩
 rintro e w' ⟨rfl,L,K⟩
 obtain ⟨H',T⟩:=H.over K L
 exact ⟨rfl,⟨Yp,Yr,Lp,F,P,v4,v5,v6,v7,[],H',Nat.le_refl _,hD⟩,K.mono fun b _ h=>(hD b).1 (.inr (.inr (.inr h)))⟩
theorem book_whole {G:Nat→Prop} {w:World} {X c0 c1 c2 c3:Nat} (h:Book G w X c0 c1 c2 c3):Calls Tryz.prog 11 #[.pointer (some ⟨X,0,none⟩)] w fun e w'=>e= .returned (.bool true)∧Below w.heap.size w w':=by
 obtain ⟨v0,v1,v2,v3,l0,l1,l2,l3,B,_⟩:=h
 exact whole_any w X v0 v1 v2 v3 l0 l1 l2 l3 B
end
section
open Go.RowKit Go.Maps
theorem step_state {C:Nat→Prop} {w:World} {Zp Yp Yr Lp X:Nat} {F P:Nat→Prop} {v4 v5 v6 v7:Value} {st:RefD} {its:List Item} (H:qas C w Zp Yp Yr Lp X F P v4 v5 v6 v7 st.abs st its) (o:qbr) (hk:o.kind=10) {G:Nat→Prop} {c0 c1 c2 c3:Nat} (B:Book G w X c0 c1 c2 c3) (hDG: ∀ b,qx Zp F Yr v4 v5 v6 v7 P b→ ¬ G b) (hCG: ∀ b,C b→ ¬ G b) (h1:c1≤1000000000000) (h2:c2≤1000000000000):
  Calls Tryz.prog 9 #[.pointer (some ⟨Zp,0,none⟩),.agg o.cells] w fun e w'=>e= .returned (.bool true)∧ ∃ G',qas C w' Zp Yp Yr Lp X F P v4 v5 v6 v7 st.abs st its∧Book G' w' X c0 (c1+1) (c2+1) c3∧qaw G G' w w':=by
 unfold qbr.cells
 rw [hk]
 obtain ⟨w0,hw0⟩: ∃ W,W=w.alloc (.cells #[.int .i64 o.which,.int .i64 10,.int .i64 o.a,.string o.s,.string o.n.name,.int .i64 o.n.r0,.int .i64 o.n.r1,.int .i64 o.n.r2,.slice o.n.labels.a o.n.labels.L.length o.n.labels.cap,.slice o.n.taints.a o.n.taints.L.length o.n.taints.cap,.string o.p.name,.int .i64 o.p.n0,.int .i64 o.p.n1,.int .i64 o.p.n2,.int .i64 o.p.port,.slice o.p.labels.a o.p.labels.L.length o.p.labels.cap,.slice o.p.select.a o.p.select.L.length o.p.select.cap,.slice o.p.bears.a o.p.bears.L.length o.p.bears.cap,.slice o.p.near.a o.p.near.L.length o.p.near.cap,.slice o.p.apart.a o.p.apart.L.length o.p.apart.cap] 47):=⟨_,rfl⟩
 have hb0:Below w.heap.size w w0:=by rw [hw0];exact qi _ _
 have c:=state_any (H.below hb0) (B.kept (Kept.of_below (F:=qq) hb0) fun _ _=>id) hDG hCG h1 h2
 rw [hw0] at c
 have HB:Hid _:=hb0
 clear H B hDG hCG h1 h2 hb0
 go_enter Tryz.func9,Tryz.ntmps9
 go_wp2_with ((go_at_call 12;refine c.mono ?_;rintro e w' ⟨rfl,G',q1,q2,q3⟩;have HQ:Hid _:=And.intro q1 (And.intro q2 q3);clear q1 q2 q3))
 go_ret
 rw [← hw0] at HQ
 exact ⟨rfl,G',HQ.out.1,HQ.out.2.1,(qaw.below HB.out).trans HQ.out.2.2⟩
theorem step_none (w:World) (Zp:Nat) (o:qbr) (hk:o.kind < 1∨10 < o.kind):
  Calls Tryz.prog 9 #[.pointer (some ⟨Zp,0,none⟩),.agg o.cells] w fun e w'=>e= .returned (.bool true)∧Below w.heap.size w w':=by
 unfold qbr.cells
 have e1: ¬ o.kind=1:=by omega
 have f1:(o.kind==1)=false:=by simpa using e1
 have e2: ¬ o.kind=2:=by omega
 have f2:(o.kind==2)=false:=by simpa using e2
 have e3: ¬ o.kind=3:=by omega
 have f3:(o.kind==3)=false:=by simpa using e3
 have e4: ¬ o.kind=4:=by omega
 have f4:(o.kind==4)=false:=by simpa using e4
 have e5: ¬ o.kind=5:=by omega
 have f5:(o.kind==5)=false:=by simpa using e5
 have e6: ¬ o.kind=6:=by omega
 have f6:(o.kind==6)=false:=by simpa using e6
 have e7: ¬ o.kind=7:=by omega
 have f7:(o.kind==7)=false:=by simpa using e7
 have e8: ¬ o.kind=8:=by omega
 have f8:(o.kind==8)=false:=by simpa using e8
 have e9: ¬ o.kind=9:=by omega
 have f9:(o.kind==9)=false:=by simpa using e9
 have e10: ¬ o.kind=10:=by omega
 have f10:(o.kind==10)=false:=by simpa using e10
 clear hk
 go_enter Tryz.func9,Tryz.ntmps9
 go_wp2
 go_ret
 exact ⟨rfl,qi _ _⟩
def StepRule (lets:Int→Prop):Prop:= ∀ (C D G:Nat→Prop) (w:World) (Z X:Nat) (st:RefD) (m c0 c1 c2 c3:Nat) (o:qbr),Pair C D w Z X st m→Book G w X c0 c1 c2 c3→(∀ b,D b→ ¬ G b)→(∀ b,C b→ ¬ G b)→o.ok C w→lets o.kind→m≤800→st.tally≤8000000000000→c0≤900000000000→c1≤1000000000000→c2≤1000000000000→c3≤1000000000000→
 Calls Tryz.prog 9 #[.pointer (some ⟨Z,0,none⟩),.agg o.cells] w fun e w'=>e= .returned (.bool true)∧StepTo C D G w w' Z X st (m+5) c0 c1 c2 c3
theorem StepTo.ofEnd {C D G:Nat→Prop} {w w':World} {Zp Yp Yr Lp X:Nat} {F P:Nat→Prop} {v4 v5 v6 v7:Value} {st st':RefD} {n m c0 c1 c2 c3:Nat} (hD: ∀ b,qx Zp F Yr v4 v5 v6 v7 P b↔D b) (B:Book G w X c0 c1 c2 c3) (hDG: ∀ b,D b→ ¬ G b) (h:PairEnd C w w' Zp Yp Yr Lp X F P v4 v5 v6 v7 st' (n+5)) (hn:n≤m) (ht:st'.tally≤st.tally+2) (hw:st'.waiting.length≤st.waiting.length+1):StepTo C D G w w' Zp X st (m+5) c0 c1 c2 c3:=by
 obtain ⟨F',P',u4,u5,u6,u7,its',H',hn',T⟩:=h
 have hs:=T.1.size
 refine ⟨_,G,st',c0,c1,c2,c3,⟨Yp,Yr,Lp,F',P',u4,u5,u6,u7,its',H',by omega,fun b=>Iff.rfl⟩,B.kept T.1 (fun b hg hd=>hDG b ((hD b).1 hd) hg),⟨T.1.mono fun b _ h=> .inl ((hD b).1 h),fun b hb=> ?_⟩,fun b hd hg=> ?_,ht,by omega,by omega,by omega,by omega⟩
 ·rcases hb with hb| hb
  ·exact (T.2 b hb).imp (fun h=> .inl ((hD b).1 h)) id
  ·exact .inl (.inr hb)
 ·rcases T.2 b hd with h| h
  ·exact hDG b ((hD b).1 h) hg
  ·have:=B.lt b hg;omega
theorem rule_keeps:StepRule fun k=>k≠4∧k≠8∧k≠9:=by
 intro C D G w Z X st m c0 c1 c2 c3 o hp B hDG hCG ho hl hm ht h0 h1 h2 h3
 obtain ⟨Yp,Yr,Lp,F,P,v4,v5,v6,v7,its,H,hn,hD⟩:=hp
 by_cases e1:o.kind=1
 ·exact (step_put H o e1 ho ht (by omega)).mono fun e w' h=>⟨h.1,StepTo.ofEnd hD B hDG h.2 hn (tally_put st o.n) (by rw [wait_put];omega)⟩
 by_cases e2:o.kind=2
 ·exact (step_dropN H o e2 ho ht).mono fun e w' h=>⟨h.1,StepTo.ofEnd hD B hDG h.2 hn (tally_dropNode st o.s) (by rw [wait_dropN];omega)⟩
 by_cases e3:o.kind=3
 ·exact (step_bind H o e3 ho ht (by omega)).mono fun e w' h=>⟨h.1,StepTo.ofEnd hD B hDG h.2 hn (tally_bind st o.p o.s) (by rw [wait_bind];omega)⟩
 by_cases e5:o.kind=5
 ·exact (step_confirm H o e5 ho ht).mono fun e w' h=>⟨h.1,StepTo.ofEnd hD B hDG h.2 hn (tally_confirm st o.s) (by rw [wait_confirm];omega)⟩
 by_cases e6:o.kind=6
 ·exact (step_drop H o e6 ho ht).mono fun e w' h=>⟨h.1,StepTo.ofEnd hD B hDG h.2 hn (tally_drop st o.s) (by rw [wait_drop];omega)⟩
 by_cases e7:o.kind=7
 ·exact (step_tick H o e7 ht).mono fun e w' h=>⟨h.1,StepTo.ofEnd hD B hDG h.2 hn (tally_tick st o.a) (by rw [wait_tick];omega)⟩
 by_cases e10:o.kind=10
 ·refine (step_state H o e10 B (fun b h=>hDG b ((hD b).1 h)) hCG h1 h2).mono ?_
  rintro e w' ⟨rfl,G',q1,q2,q3⟩
  refine ⟨rfl,D,G',st,c0,c1+1,c2+1,c3,⟨Yp,Yr,Lp,F,P,v4,v5,v6,v7,its,q1,by omega,hD⟩,q2,⟨q3.1.mono fun b _ h=> .inr h,fun b hb=> ?_⟩,fun b hd hg=> ?_,by omega,by omega,by omega,by omega,by omega⟩
  ·rcases hb with hb| hb
   ·exact .inl (.inl hb)
   ·exact (q3.2 b hb).imp .inr id
  ·rcases q3.2 b hg with h| h
   ·exact hDG b hd h
   ·have:=H.lt ((hD b).2 hd);omega
 ·refine (step_none w Z o (by omega)).mono ?_
  rintro e w' ⟨rfl,hb⟩
  exact ⟨rfl,D,G,st,c0,c1,c2,c3,⟨Yp,Yr,Lp,F,P,v4,v5,v6,v7,its,H.below hb,by omega,hD⟩,B.kept (Kept.of_below (F:=qq) hb) fun _ _=>id,⟨Kept.of_below hb,fun b h=> .inl h⟩,hDG,by omega,by omega,by omega,by omega,by omega⟩
end
section
open Go.RowKit Go.Maps
theorem qbr.ok.kept {C F:Nat→Prop} {w w':World} {o:qbr} (h:o.ok C w) (hk:Kept F w w') (hCF: ∀ b,C b→ ¬ F b):o.ok C w':=⟨h.s,h.n.kept h.nc hk hCF,h.nc,h.p.kept h.pc hk hCF,h.pc,h.i⟩
def qbl (C:Nat→Prop) (w:World) (a:Option Addr) (L:List qbr):Prop:= ∀ (k:Nat) (h:k < L.length),∃ b off,a=some ⟨b,off,none⟩∧C b∧b < w.heap.size∧(∀ j v,L[k].cells[j]? =some v→w.cell? ⟨b,off+k * 20+j,none⟩=some v)∧L[k].ok C w
theorem qbl.kept {C F:Nat→Prop} {w w':World} {a:Option Addr} {L:List qbr} (h:qbl C w a L) (hk:Kept F w w') (hCF: ∀ b,C b→ ¬ F b):qbl C w' a L:=by
 intro k hl
 obtain ⟨b,off,e,hC,hb,hc,ho⟩:=h k hl
 exact ⟨b,off,e,hC,Nat.lt_of_lt_of_le hb hk.size,fun j v hj=>(hk.cell (p:=⟨b,off+k * 20+j,none⟩) hb (hCF b hC)).trans (hc j v hj),ho.kept hk hCF⟩
theorem OpenAt.pair {C:Nat→Prop} {w w':World} {Zp Yp Yr Lp X:Nat} {F:Nat→Prop} {hold:Int} {rem whole:Bool} (h:OpenAt w w' Zp Yp Yr Lp X F hold rem whole) (h1:1≤hold) (h2:hold≤1000) (hC: ∀ b,C b→b < w.heap.size): ∃ D,Pair C D w' Zp X (RefD.empty hold rem whole) 0∧ ∀ b,D b→w.heap.size≤b:=by
 obtain ⟨o1,o2,o3⟩:=h.ord
 have lZ:=qo h.box
 have hr: ∀ b,qau Yr (.slice none 0 0) (.slice none 0 0) (.slice none 0 0) (.slice none 0 0) b→b=Yr:=fun b hb=>by
  rcases hb with hb| hb| hb| hb| hb
  ·exact hb
  all_goals simp [Value.ownBlock] at hb
 have hz:w.heap.size≤w'.heap.size:=h.below.size
 have hl:qe3 C (fun b=>b=Lp) w' Lp []:=by
  refine ⟨.slice none 0 0,.slice none 0 0,⟨h.lent,World.ownsRow_nil _ _ _ _,World.ownsRow_nil _ _ _ _,by simp,by simp,by simp,by simp,by simp [Value.ownBlock],by simp [Value.ownBlock],by simp [Value.ownBlock],by simp,by simp⟩,?_,by simp⟩
  rintro k ((rfl| h| h)| ⟨it,hi,_⟩)
  ·rfl
  ·simp [Value.ownBlock] at h
  ·simp [Value.ownBlock] at h
  ·simp at hi
 have H:qas C w' Zp Yp Yr Lp X F (fun b=>b=Lp) (.slice none 0 0) (.slice none 0 0) (.slice none 0 0) (.slice none 0 0) (RefD.empty hold rem whole).abs (RefD.empty hold rem whole) []:=by
  refine ⟨h.box,h.st,h.ref,hl,RefD.sound.empty hold rem whole h1 h2,fun b hb=>by omega,fun b hb=>by have:=hC b hb;omega,fun hf=>by have:=h.low _ hf;omega,fun hf=>by have:=hr _ hf;omega,by omega,fun b hf hb=>by have:=h.low _ hf;have:=hr _ hb;omega,fun b hf hb=>by have:=h.low _ hf;omega,fun b hf hb=>by have:=hr _ hf;omega,fun hc=>by have:=hC _ hc;omega,fun b hc hf=>by have:=hC _ hc;have:=h.low _ hf;omega,fun b hc hf=>by have:=hC _ hc;have:=hr _ hf;omega,fun b hc hf=>by have:=hC _ hc;omega,fun p hp=>by simp [RefD.empty] at hp⟩
 refine ⟨_,⟨Yp,Yr,Lp,F,_,_,_,_,_,[],H,Nat.le_refl _,fun b=>Iff.rfl⟩,fun b hb=> ?_⟩
 rcases hb with hb| hb| hb| hb
 ·omega
 ·exact (h.low b hb).1
 ·have:=hr b hb;omega
 ·omega
theorem opened_slot (C:Nat→Prop) (hold:Int) (rem whole:Bool) (X:Nat) (w:World) (hC: ∀ b,C b→b < w.heap.size):
  Calls Tryz.prog 8 #[.agg #[.int .i64 hold,.bool rem,.bool whole],.pointer (some ⟨X,0,none⟩)] w fun e w'=> ∃ z,e= .returned (.tuple #[.pointer z,.bool true])∧Below w.heap.size w w'∧ ∃ D st,Slot C D w' z X st∧st.tally=0∧st.waiting.length=0∧ ∀ b,D b→w.heap.size≤b:=by
 by_cases hh:1≤hold∧hold≤1000
 ·refine (opened_yes hold rem whole X w hh.1 hh.2).mono ?_
  rintro e w' ⟨Zp,Yp,Yr,Lp,F,rfl,h⟩
  obtain ⟨D,hp,hD⟩:=h.pair hh.1 hh.2 hC
  exact ⟨_,rfl,h.below,D,_,.inr ⟨Zp,rfl,hp⟩,rfl,rfl,hD⟩
 ·refine (opened_no hold rem whole X w (by omega)).mono ?_
  rintro e w' ⟨rfl,hb⟩
  exact ⟨none,rfl,hb,fun _=>False,RefD.empty 1 false false,.inl ⟨rfl,fun b h=>h⟩,rfl,rfl,fun b h=>h.elim⟩
theorem BkAt.empty (w:World) (e le:TypeId) (s:Nat) (mark:Nat→List Value):BkAt w e le s mark (.slice none 0 0) []:=⟨World.ownsRow_nil _ _ _ _,fun i h=>by simp at h,by simp⟩
theorem Book.init (w:World):Book (fun b=>b=w.heap.size) (w.alloc (.cells #[.slice none 0 0,.slice none 0 0,.slice none 0 0,.slice none 0 0] 37)) w.heap.size 0 0 0 0:=by
 have hn: ∀ b,¬ qao (.slice none 0 0) [] b:=fun b h=>by
  rcases h with h| ⟨x,hx,_⟩
  ·simp [Value.ownBlock] at h
  ·simp at hx
 refine ⟨_,_,_,_,[],[],[],[],⟨qm _ _,BkAt.empty _ _ _ _ _,BkAt.empty _ _ _ _ _,BkAt.empty _ _ _ _ _,BkAt.empty _ _ _ _ _⟩,⟨rfl,rfl,rfl,rfl⟩,fun b=>⟨fun h=> ?_,fun h=> .inl h⟩⟩
 rcases h with h| h| h| h| h
 ·exact h
 all_goals exact absurd h (hn b)
theorem pair_state {C D G:Nat→Prop} {w:World} {Z X:Nat} {st:RefD} {m c0 c1 c2 c3:Nat} (hp:Pair C D w Z X st m) (B:Book G w X c0 c1 c2 c3) (hDG: ∀ b,D b→ ¬ G b) (hCG: ∀ b,C b→ ¬ G b) (h1:c1≤1000000000000) (h2:c2≤1000000000000):
  Calls Tryz.prog 12 #[.pointer (some ⟨Z,0,none⟩)] w fun e w'=>e= .returned (.bool true)∧ ∃ G',Pair C D w' Z X st m∧Book G' w' X c0 (c1+1) (c2+1) c3∧qaw G G' w w':=by
 obtain ⟨Yp,Yr,Lp,F,P,v4,v5,v6,v7,its,H,hn,hD⟩:=hp
 refine (state_any H B (fun b h=>hDG b ((hD b).1 h)) hCG h1 h2).mono ?_
 rintro e w' ⟨rfl,G',q1,q2,q3⟩
 exact ⟨rfl,G',⟨Yp,Yr,Lp,F,P,v4,v5,v6,v7,its,q1,hn,hD⟩,q2,q3⟩
theorem Duo.more {C D1 D2 G:Nat→Prop} {w:World} {z1 z2:Option Addr} {X:Nat} {s1 s2:RefD} {c0 c1 c2 c3 n:Nat} (h:Duo C D1 D2 G w z1 z2 X s1 s2 c0 c1 c2 c3 n):Duo C D1 D2 G w z1 z2 X s1 s2 c0 c1 c2 c3 (n+1):=
 ⟨h.o1,h.o2,h.bk,h.d12,h.d1g,h.d2g,h.cg,h.cl,by have:=h.t1;omega,by have:=h.t2;omega,by have:=h.b0;omega,by have:=h.b1;omega,by have:=h.b2;omega,by have:=h.b3;omega⟩
theorem qfl.more {C:Nat→Prop} {B:Nat} {w:World} {z1 z2:Option Addr} {X n:Nat} (h:qfl C B w z1 z2 X n):qfl C B w z1 z2 X (n+1):=by
 obtain ⟨D1,D2,G,s1,s2,c0,c1,c2,c3,h,hB⟩:=h
 exact ⟨D1,D2,G,s1,s2,c0,c1,c2,c3,h.more,hB⟩
end
section
open Go.RowKit Go.Maps
def Behind (C:Nat→Prop) (B:Nat) (w w2:World) (Z:Nat) (z2:Option Addr) (X n:Nat):Prop:=
 ∃ Lp,w2.cell? ⟨Z,2,none⟩=some (.pointer (some ⟨Lp,0,none⟩))∧Calls Tryz.prog 10 #[.pointer (some ⟨Lp,0,none⟩)] w2 fun e w3=>e= .returned (.bool true)∧
  Calls Tryz.prog 11 #[.pointer (some ⟨X,0,none⟩)] w3 fun e w4=>e= .returned (.bool true)∧qfl C B w4 (some ⟨Z,0,none⟩) z2 X (n+1)∧Kept (fun b=>B≤b) w w4
theorem duo_step {lets:Int→Prop} (hrule:StepRule lets) {C:Nat→Prop} {B:Nat} {w:World} {Z:Nat} {z2:Option Addr} {X n:Nat} (h:qfl C B w (some ⟨Z,0,none⟩) z2 X n) (hBw:B≤w.heap.size) (o:qbr) (ho:o.ok C w) (hl:lets o.kind) (hn:n≤480000000000):
  Calls Tryz.prog 9 #[.pointer (some ⟨Z,0,none⟩),.agg o.cells] w fun e w2=>e= .returned (.bool true)∧Behind C B w w2 Z z2 X n:=by
 obtain ⟨D1,D2,G,s1,s2,c0,c1,c2,c3,H,hB⟩:=h
 rcases H.o1 with ⟨hz,_⟩| ⟨Z',hz,hp⟩
 ·cases hz
 ·cases hz
  have t1:=H.t1
  have k0:=H.b0
  have k1:=H.b1
  have k2:=H.b2
  have k3:=H.b3
  refine (hrule C D1 G w Z X s1 0 c0 c1 c2 c3 o hp H.bk H.d1g H.cg ho hl (by omega) (by omega) (by omega) (by omega) (by omega) (by omega)).mono ?_
  rintro e w2 ⟨rfl,D',G',st',d0,d1,d2,d3,q1,q2,q3,q4,t,b0,b1,b2,b3⟩
  obtain ⟨Lp,hc,cS⟩:=pair_still q1 (by omega)
  refine ⟨rfl,Lp,hc,cS.mono ?_⟩
  rintro e w3 ⟨rfl,q1',qk⟩
  refine ⟨rfl,(book_whole (q2.kept qk fun b hg hd=>q4 b hd hg)).mono ?_⟩
  rintro e w4 ⟨rfl,hb⟩
  obtain ⟨hd,hf⟩:=H.step q1' q2 q3 q4 qk t b0 b1 b2 b3
  have hq: ∀ b,D1 b∨G b→B≤b:=fun b h=>hB b (h.elim .inl fun h=> .inr (.inr h))
  refine ⟨rfl,qfl.below ⟨D',D2,G',st',s2,d0,d1,d2,d3,hd,fun b hb'=> ?_⟩ hb,((q3.1.mono fun b _ h=>hq b h).trans qk fun b _ h=> ?_).trans (Kept.of_below (F:=qq) hb) fun b _ h=>h.elim⟩
  ·rcases hf b hb' with h| h| h| h
   ·exact hB b (.inl h)
   ·exact hB b (.inr (.inl h))
   ·exact hB b (.inr (.inr h))
   ·exact Nat.le_trans hBw h
  ·rcases q3.2 b (.inl h) with h| h
   ·exact hq b h
   ·exact Nat.le_trans hBw h
theorem duo_state {C:Nat→Prop} {B:Nat} {w:World} {Z:Nat} {z2:Option Addr} {X n:Nat} (h:qfl C B w (some ⟨Z,0,none⟩) z2 X n) (hBw:B≤w.heap.size) (hn:n≤480000000010):
  Calls Tryz.prog 12 #[.pointer (some ⟨Z,0,none⟩)] w fun e w2=>e= .returned (.bool true)∧Calls Tryz.prog 11 #[.pointer (some ⟨X,0,none⟩)] w2 fun e w4=>e= .returned (.bool true)∧qfl C B w4 (some ⟨Z,0,none⟩) z2 X (n+1)∧Kept (fun b=>B≤b) w w4:=by
 obtain ⟨D1,D2,G,s1,s2,c0,c1,c2,c3,H,hB⟩:=h
 rcases H.o1 with ⟨hz,_⟩| ⟨Z',hz,hp⟩
 ·cases hz
 ·cases hz
  have k1:=H.b1
  have k2:=H.b2
  refine (pair_state hp H.bk H.d1g H.cg (by omega) (by omega)).mono ?_
  rintro e w2 ⟨rfl,G',q1,q2,q3⟩
  refine ⟨rfl,(book_whole q2).mono ?_⟩
  rintro e w4 ⟨rfl,hb⟩
  have q4: ∀ b,D1 b→ ¬ G' b:=fun b hd hg=>by
   rcases q3.2 b hg with h| h
   ·exact H.d1g b hd h
   ·have:=hp.lt b hd;omega
  obtain ⟨hd,hf⟩:=H.step (w':=w2) (w2:=w2) q1 q2 ⟨q3.1.mono fun b _ h=> .inr h,fun b h=>h.elim (fun h=> .inl (.inl h)) fun h=>(q3.2 b h).imp .inr id⟩ q4 (Kept.refl _ _) (by omega) (by omega) (by omega) (by omega) (by omega)
  refine ⟨rfl,qfl.below ⟨D1,D2,G',s1,s2,c0,c1+1,c2+1,c3,hd,fun b hb'=> ?_⟩ hb,(q3.1.mono fun b _ h=>hB b (.inr (.inr h))).trans (Kept.of_below (F:=qq) hb) fun b _ h=>h.elim⟩
  rcases hf b hb' with h| h| h| h
  ·exact hB b (.inl h)
  ·exact hB b (.inr (.inl h))
  ·exact hB b (.inr (.inr h))
  ·exact Nat.le_trans hBw h
end
end Go.Proofs.YtchddaafibjmgaaGreat
