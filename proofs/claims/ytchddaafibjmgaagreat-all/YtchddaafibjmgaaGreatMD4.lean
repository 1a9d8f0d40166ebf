import Derived.Test.YtchddaafibjmgaaGreatMD3
set_option maxRecDepth 100000
set_option maxHeartbeats 20000000
namespace Go.Proofs.YtchddaafibjmgaaGreat
section
open Go.RowKit
def qgc (W wr:World) (e:TypeId) (s:Nat) (v:Value) (n:Nat) (xs:List Value):Prop:=wr.ownsRow 0 e s v n xs∧Kept qq W wr∧ ∀ k,v.ownBlock=some k→W.heap.size≤k
theorem qgc.start (W:World) (e:TypeId) (s:Nat):qgc W W e s (.slice none 0 0) 0 []:=⟨World.ownsRow_nil _ _ _ _,Kept.refl _ _,fun k hk=>by simp [Value.ownBlock] at hk⟩
theorem qgc.more {W wr w2:World} {e:TypeId} {s:Nat} {v v':Value} {n n':Nat} {xs xs':List Value} {o:Obj} (h:qgc W wr e s v n xs) (hg:(wr.alloc o).grownBy w2 v.ownBlock) (ho:w2.ownsRow 0 e s v' n' xs')
  (hf:v'.ownBlock=v.ownBlock∨ ∀ k,v'.ownBlock=some k→(wr.alloc o).heap.size≤k):qgc W w2 e s v' n' xs':=
 ⟨ho,(h.2.1.alloc o).grown hg (fun k hk hl=>by have:=h.2.2 k hk;omega),fun k hk=>hf.elim (fun e=>h.2.2 k (e▸hk)) (fun f=>by have:=f k hk;have:=h.2.1.size;simp at *;omega)⟩
theorem qgc.drewN {W wr:World} {e:TypeId} {s:Nat} {v:Value} {n:Nat} {xs:List Value} (h:qgc W wr e s v n xs) (m:Nat):qgc W (wr.drewN m) e s v n xs:=⟨(Kept.refl qq wr |>.drewN m).ownsRow h.1 fun _ _=>id,h.2.1.drewN m,h.2.2⟩
theorem rputNode_new (Y:Nat) (st:RefD) (v4 v5 v6 v7:Value) (n:qu) (w:World) (H:qbc w Y st v4 v5 v6 v7) (hok:n.ok w) (hn: ¬ 31 < st.nodes.length) (ht:st.touched.length < 8796093022207)
  (h0:n.err=0) (h1:qan (st.nodes.map (·.name)) n.name=none):
  Calls Tryz.prog 18 #[.pointer (some ⟨Y,0,none⟩),.agg n.cells] w fun e w'=>e= .returned (.int .i64 (st.putNode n).1)∧qaq w w' Y (st.putNode n).2 v4 v5 v6 v7:=by
 have HE:Hid (st.putNode n=(0,{ st with nodes:=qb8 (·.name) n st.nodes,touched:=st.touched++ [n.name] })):=by show st.putNode n=_;simp [RefD.putNode,h0,h1,hn]
 have hW:=fun o=>qi w o
 have c1:=fun o=>qgr n (w.alloc o) (hok.below (hW o))
 have hb: ∀ w1:World,Below w.heap.size w w1→qbc w1 Y st v4 v5 v6 v7:=fun w1 hb=>H.kept (Kept.of_below (F:=qq) hb) fun _ _=>id
 have c2:=fun w1 hb1=>qg2 Y st v4 v5 v6 v7 n.name w1 (hb w1 hb1) (by omega)
 have c3:=fun w1 hb1=>touch_any Y st v4 v5 v6 v7 n.name w1 (hb w1 hb1) ht
 rw [h1] at c2
 unfold idxI at c2
 rw [h0] at c1
 obtain ⟨a4,cp4,rfl⟩:=qv H.r4
 have hY:=qo H.box
 have hx: ∀ w1,Below w.heap.size w w1→w1.cell? ⟨Y,4,none⟩=some (.slice a4 st.nodes.length cp4):=fun w1 hb1=>by rw [hb1.cell (p:=⟨Y,4,none⟩) hY,ql H.box];rfl
 have Hx:Hid (∀ w1,Below w.heap.size w w1→w1.cell? ⟨Y,4,none⟩=some (.slice a4 st.nodes.length cp4)):=hx
 have nB: ¬ (w.heap.size=Y∨v6.ownBlock=some w.heap.size):=by
  rintro (h| h)
  ·omega
  ·have:=(H.r6.lt _ h).2;omega
 have hrow:=n.row_one
 obtain ⟨i1,hi1,hz10,hz11,hz12⟩:=info_parts Tryz.infoRN
 unfold qu.cells Lst.val at c1
 unfold qu.cells Lst.val
 clear h0 h1 hx
 go_enter Tryz.func18,Tryz.ntmps18
 go_wp2_with (first
  | (go_at_call 44;refine (c1 _).mono ?_;rintro e w1 ⟨rfl,hb1⟩;have r1:=fun o=>hb1.cell (p:=⟨w.heap.size,o,none⟩) (by simp);have hB1:=qj (hW _) hb1;have z1:=hb1.size;have hx1:=Hx.out w1 hB1)
  | (go_at_call 45;refine (c2 w1 hB1).mono ?_;rintro e w2 ⟨rfl,rfl⟩)
  | (go_at_call 46;refine (c3 w2 hB1).mono ?_;rintro e w3 ⟨rfl,v6',H3,K3,hf3⟩))
 have r3: ∀ o,w3.cell? ⟨w.heap.size,o,none⟩=(w.alloc (.cells #[.string n.name,.int .i64 n.r0,.int .i64 n.r1,.int .i64 n.r2,.slice n.labels.a n.labels.L.length n.labels.cap,.slice n.taints.a n.taints.L.length n.taints.cap] 43)).cell? ⟨w.heap.size,o,none⟩:=
  fun o=>(K3.cell (p:=⟨w.heap.size,o,none⟩) (by simp at z1;simp;omega) nB).trans (r1 o)
 have z3:w.heap.size < w3.heap.size:=by have:=K3.size;simp at z1;omega
 have R3:Hid (∀ o,w3.cell? ⟨w.heap.size,o,none⟩=(w.alloc (.cells #[.string n.name,.int .i64 n.r0,.int .i64 n.r1,.int .i64 n.r2,.slice n.labels.a n.labels.L.length n.labels.cap,.slice n.taints.a n.taints.L.length n.taints.cap] 43)).cell? ⟨w.heap.size,o,none⟩):=r3
 clear r1 r3 hx1 c1 c2 c3 z1
 go_loopw [7,8,9] (fun l d i wr=> ∃ (k:Nat),k≤st.nodes.length∧i= .int .i64 k∧d= .bool (qc8 (·.name) n st.nodes k).2∧ ∃ ao cap,l= .slice ao (qc8 (·.name) n st.nodes k).1.length cap∧
   qgc w3 wr 43 6 l (qc8 (·.name) n st.nodes k).1.length ((qc8 (·.name) n st.nodes k).1.flatMap qu.row)) (fun _ _ i _=>st.nodes.length - (intOf i).toNat)
 case atStart=>exact ⟨0,Nat.zero_le _,rfl,rfl,none,0,rfl,qgc.start _ _ _⟩
 case round=>
  obtain ⟨k,hk,rfl,rfl,ao,cap,rfl,hB⟩:=hrel
  have H4:qbc wr Y _ _ _ _ _:=H3.kept hB.2.1 (fun _ _=>id)
  have hx4:=ql (i:=4) H4.box
  have rr: ∀ o,wr.cell? ⟨w.heap.size,o,none⟩=(w.alloc (.cells #[.string n.name,.int .i64 n.r0,.int .i64 n.r1,.int .i64 n.r2,.slice n.labels.a n.labels.L.length n.labels.cap,.slice n.taints.a n.taints.L.length n.taints.cap] 43)).cell? ⟨w.heap.size,o,none⟩:=
   fun o=>(hB.2.1.cell (p:=⟨w.heap.size,o,none⟩) z3 id).trans (R3.out o)
  have zr:w.heap.size < wr.heap.size:=Nat.lt_of_lt_of_le z3 hB.2.1.size
  obtain ⟨il1,il2⟩:=insTo_length (·.name) n st.nodes k
  by_cases hlt:k < st.nodes.length
  ·have hsucc:=insTo_succ (·.name) n st.nodes k hlt
   obtain ⟨g,ho,hg,-,-⟩:=qbs H4.r4 (by simpa using (by omega:0 < st.nodes.length))
   subst ho
   obtain ⟨k0,k1,k2,k3,k4,k5,-,-⟩:=row6 H4.r4 k hlt
   obtain ⟨nd,hnd⟩: ∃ nd,nd=st.nodes[k]:=⟨_,rfl⟩
   simp only [← hnd] at k0 k1 k2 k3 k4 k5
   rw [← hnd] at hsucc
   unfold Lst.val at k4 k5
   have Hnd:Hid (nd=st.nodes[k]):=hnd
   clear hnd
   generalize qc8 (·.name) n st.nodes k=I at *
   obtain ⟨acc,d⟩:=I
   simp only at hB il1 il2
   have Hs:Hid (qc8 (·.name) n st.nodes (k+1)=qca (·.name) n (acc,d) nd):=hsucc
   clear hsucc
   cases d
   ·cases hL:Op.bytesLess n.name.toList nd.name.toList
    ·have HS:Hid (qc8 (·.name) n st.nodes (k+1)=(acc++ [nd],false)):=by show qc8 _ _ _ _=_;rw [Hs.out];simp [qca,ltB,hL]
     go_wp2
     go_quiet (fail)
     have hB':=hB.drewN nq
     go_wp2_with (at_builtin;refine qy _ rfl (.tmp 70) (.tmp 78) 101 rfl 43 i1 _ 6 88 Tryz.underlying101 hi1 hz10 hz11 hz12 rfl (by decide) _ acc.length _ rfl (by exact hB'.1.alloc _) ⟨wr.heap.size,0,none⟩ 1 1 nd.row rfl rfl (by exact qcr _ nd.cells _ _ rfl) nd.row_one (by unfold maxLen;omega) (by omega) ?_;intro ao1 cp1 w51 ho1 hg1 hf1)
     go_roundw
     case rel=>
      refine ⟨k+1,by omega,by go_num,by rw [HS.out],ao1,cp1,by rw [HS.out];simp,?_⟩
      rw [HS.out]
      exact hB'.more hg1 (by simpa using ho1) hf1
     case measure=>simp [intOf];omega
    ·have HS:Hid (qc8 (·.name) n st.nodes (k+1)=(acc++ [n]++ [nd],true)):=by show qc8 _ _ _ _=_;rw [Hs.out];simp [qca,ltB,hL]
     go_wp2
     go_quiet (fail)
     have hB':=hB.drewN nq
     go_wp2_with (first
      | (at_builtin;refine qy _ rfl (.tmp 66) (.tmp 68) 101 rfl 43 i1 _ 6 88 Tryz.underlying101 hi1 hz10 hz11 hz12 rfl (by decide) _ acc.length _ rfl (by exact hB'.1.alloc _) ⟨wr.heap.size,0,none⟩ 1 1 n.row rfl rfl (by exact qcr _ n.cells _ _ rfl) n.row_one (by unfold maxLen;omega) (by omega) ?_;intro ao1 cp1 w51 ho1 hg1 hf1;have hB2:=hB'.more (xs':=(acc++ [n]).flatMap qu.row) hg1 (by simpa using ho1) hf1;have H5:qbc w51 Y _ _ _ _ _:=H3.kept hB2.2.1 (fun _ _=>id);have hx5:=ql (i:=4) H5.box;obtain ⟨m0,m1,m2,m3,m4,m5,-,-⟩:=row6 H5.r4 k hlt;simp only [← Hnd.out] at m0 m1 m2 m3 m4 m5;unfold Lst.val at m4 m5)
      | (at_builtin;refine qy _ rfl (.tmp 70) (.tmp 78) 101 rfl 43 i1 _ 6 88 Tryz.underlying101 hi1 hz10 hz11 hz12 rfl (by decide) _ (acc.length+1) _ rfl (by exact hB2.1.alloc _) ⟨w51.heap.size,0,none⟩ 1 1 nd.row rfl rfl (by exact qcr _ nd.cells _ _ rfl) nd.row_one (by unfold maxLen;omega) (by omega) ?_;intro ao2 cp2 w52 ho2 hg2 hf2))
     go_roundw
     case rel=>
      refine ⟨k+1,by omega,by go_num,by rw [HS.out],ao2,cp2,by rw [HS.out];simp,?_⟩
      rw [HS.out]
      exact hB2.more hg2 (by simpa using ho2) hf2
     case measure=>simp [intOf];omega
   ·have HS:Hid (qc8 (·.name) n st.nodes (k+1)=(acc++ [nd],true)):=by show qc8 _ _ _ _=_;rw [Hs.out];simp [qca]
    go_wp2
    go_quiet (fail)
    have hB':=hB.drewN nq
    go_wp2_with (at_builtin;refine qy _ rfl (.tmp 70) (.tmp 78) 101 rfl 43 i1 _ 6 88 Tryz.underlying101 hi1 hz10 hz11 hz12 rfl (by decide) _ acc.length _ rfl (by exact hB'.1.alloc _) ⟨wr.heap.size,0,none⟩ 1 1 nd.row rfl rfl (by exact qcr _ nd.cells _ _ rfl) nd.row_one (by unfold maxLen;omega) (by omega) ?_;intro ao1 cp1 w51 ho1 hg1 hf1)
    go_roundw
    case rel=>
     refine ⟨k+1,by omega,by go_num,by rw [HS.out],ao1,cp1,by rw [HS.out];simp,?_⟩
     rw [HS.out]
     exact hB'.more hg1 (by simpa using ho1) hf1
    case measure=>simp [intOf];omega
  ·have hkl:k=st.nodes.length:=by omega
   have ad:=ins_all_done (·.name) n st.nodes
   have an:=ins_all_not (·.name) n st.nodes
   rw [← hkl] at ad an
   clear hkl
   have hfr:=qp (i:=4) H4.box
   generalize qc8 (·.name) n st.nodes k=I at *
   obtain ⟨acc,d⟩:=I
   simp only at hB il1 il2 ad an
   have fin: ∀ (wz:World) (v4':Value) (l:List qu),qgc w3 wz 43 6 v4' l.length (l.flatMap qu.row)→l=qb8 (·.name) n st.nodes→qaq w (wz.setCell ⟨Y,4,none⟩ v4') Y (st.putNode n).2 (.slice a4 st.nodes.length cp4) v5 v6 v7:=by
    intro wz v4' l hb hl
    subst hl
    obtain ⟨g1,g2⟩:=H3.put4 hb.2.1 hb.1 hb.2.2
    refine ⟨_,_,_,_,by rw [HE.out];exact g1,?_,?_⟩
    ·have K1:Kept (qau Y (.slice a4 st.nodes.length cp4) v5 v6 v7) w w2:=Kept.of_below hB1
     exact (K1.trans K3 fun b _ hb=>hb.elim .inl (fun h=> .inr (.inr (.inr (.inl h))))).trans g2 fun b _ hb=> .inl hb
    ·rintro b (hb'| hb'| hb'| hb'| hb')
     ·exact .inl (.inl hb')
     ·exact .inr (by have:=hb.2.2 b hb';omega)
     ·exact .inl (.inr (.inr (.inl hb')))
     ·exact (hf3 b hb').elim (fun h=> .inl (.inr (.inr (.inr (.inl h))))) (fun h=> .inr (Nat.le_trans hB1.size h))
     ·exact .inl (.inr (.inr (.inr (.inr hb'))))
   have Hfin:=fin
   clear fin
   cases d
   ·have Hl:Hid (acc++ [n]=qb8 (·.name) n st.nodes):=an rfl
    clear ad an
    go_wp2_with (at_builtin;refine qy _ rfl (.tmp 82) (.tmp 84) 101 rfl 43 i1 _ 6 88 Tryz.underlying101 hi1 hz10 hz11 hz12 rfl (by decide) _ acc.length _ rfl (by exact hB.1.alloc _) ⟨wr.heap.size,0,none⟩ 1 1 n.row rfl rfl (by exact qcr _ n.cells _ _ rfl) n.row_one (by unfold maxLen;omega) (by omega) ?_;intro ao1 cp1 w51 ho1 hg1 hf1;have hB2:=hB.more (xs':=(acc++ [n]).flatMap qu.row) hg1 (by simpa using ho1) hf1;have H5:qbc w51 Y _ _ _ _ _:=H3.kept hB2.2.1 (fun _ _=>id);have hx5:=ql (i:=4) H5.box;have hf5:=qp (i:=4) H5.box)
    go_ret
    exact ⟨by rw [HE.out];rfl,Hfin _ _ _ (by simpa using hB2) Hl.out⟩
   ·have Hl:Hid (acc=qb8 (·.name) n st.nodes):=ad rfl
    clear ad an
    go_wp2
    go_ret
    exact ⟨by rw [HE.out];rfl,Hfin _ _ _ hB Hl.out⟩
theorem putNode_any (Y:Nat) (st:RefD) (v4 v5 v6 v7:Value) (n:qu) (w:World) (H:qbc w Y st v4 v5 v6 v7) (hok:n.ok w) (hn:st.nodes.length≤32) (ht:st.touched.length < 8796093022207):
  Calls Tryz.prog 18 #[.pointer (some ⟨Y,0,none⟩),.agg n.cells] w fun e w'=>e= .returned (.int .i64 (st.putNode n).1)∧qaq w w' Y (st.putNode n).2 v4 v5 v6 v7:=by
 by_cases h0:n.err=0
 ·cases h1:qan (st.nodes.map (·.name)) n.name with
  | some i=>exact putNode_found Y st v4 v5 v6 v7 n i w H hok (by omega) ht h0 h1
  | none=>
   by_cases h2:31 < st.nodes.length
   ·refine (putNode_early Y st v4 v5 v6 v7 n w H hok (by omega) (.inr ⟨h1,h2⟩)).mono fun e w' ⟨he,hs,hb⟩=>⟨he,?_⟩
    rw [hs]
    exact ⟨_,_,_,_,H.kept (Kept.of_below (F:=qq) hb) (fun _ _=>id),Kept.of_below hb,fun b hb=> .inl hb⟩
   ·exact rputNode_new Y st v4 v5 v6 v7 n w H hok h2 ht h0 h1
 ·refine (putNode_early Y st v4 v5 v6 v7 n w H hok (by omega) (.inl h0)).mono fun e w' ⟨he,hs,hb⟩=>⟨he,?_⟩
  rw [hs]
  exact ⟨_,_,_,_,H.kept (Kept.of_below (F:=qq) hb) (fun _ _=>id),Kept.of_below hb,fun b hb=> .inl hb⟩
end
section
open Go.RowKit
def qax.cells (x:qax):Array Value:= #[.string x.p.name,.int .i64 x.p.n0,.int .i64 x.p.n1,.int .i64 x.p.n2,.int .i64 x.p.port,x.p.labels.val,x.p.select.val,x.p.bears.val,x.p.near.val,x.p.apart.val,.string x.node,.bool x.bound,.int .i64 x.since]
theorem qax.row_one (x:qax): ∀ u∈x.row,u.oneCell'=true:=by
 intro u hu
 have hu':u∈x.cells.toList:=hu
 simp only [qax.cells,Lst.val,List.mem_cons,List.not_mem_nil,or_false] at hu'
 rcases hu' with rfl| rfl| rfl| rfl| rfl| rfl| rfl| rfl| rfl| rfl| rfl| rfl| rfl<;>rfl
theorem Tryz.infoLies:(Tryz.prog.info? 110).map (fun i=>(i.zero,i.size,i.bytes))=some (some (.agg #[.string ⟨#[]⟩,.int .i64 0,.int .i64 0,.int .i64 0,.int .i64 0,.slice none 0 0,.slice none 0 0,.slice none 0 0,.slice none 0 0,.slice none 0 0,.string ⟨#[]⟩,.bool false,.int .i64 0]),13,200):=by kernel_rfl
theorem row13 {w:World} {g m cap:Nat} {xs:List qax} (h:w.ownsRow 0 110 13 (.slice (some ⟨g,0,none⟩) m cap) xs.length (xs.flatMap qax.row)) (i:Nat) (hi:i < xs.length):
  w.cell? ⟨g,i * 13,none⟩=some (.string xs[i].p.name)∧w.cell? ⟨g,i * 13+1,none⟩=some (.int .i64 xs[i].p.n0)∧w.cell? ⟨g,i * 13+2,none⟩=some (.int .i64 xs[i].p.n1)∧w.cell? ⟨g,i * 13+3,none⟩=some (.int .i64 xs[i].p.n2)∧w.cell? ⟨g,i * 13+4,none⟩=some (.int .i64 xs[i].p.port)∧w.cell? ⟨g,i * 13+5,none⟩=some (xs[i].p.labels.val)∧w.cell? ⟨g,i * 13+6,none⟩=some (xs[i].p.select.val)∧w.cell? ⟨g,i * 13+7,none⟩=some (xs[i].p.bears.val)∧w.cell? ⟨g,i * 13+8,none⟩=some (xs[i].p.near.val)∧w.cell? ⟨g,i * 13+9,none⟩=some (xs[i].p.apart.val)∧w.cell? ⟨g,i * 13+10,none⟩=some (.string xs[i].node)∧w.cell? ⟨g,i * 13+11,none⟩=some (.bool xs[i].bound)∧w.cell? ⟨g,i * 13+12,none⟩=some (.int .i64 xs[i].since)∧(∀ o,w.frozen? ⟨g,o,none⟩=false)∧g < w.heap.size:=by
 obtain ⟨g',e,hg,hc,hf⟩:=qbs h (by omega)
 simp only [Option.some.injEq,Addr.mk.injEq,and_true] at e
 subst e
 have key: ∀ j,j < 13→w.cell? ⟨g,i * 13+j,none⟩=xs[i].row[j]? :=fun j hj=>by rw [hc _ (by omega)];exact qgi qax.row 13 qax.row_length xs i j hi hj
 exact ⟨key 0 (by omega),key 1 (by omega),key 2 (by omega),key 3 (by omega),key 4 (by omega),key 5 (by omega),key 6 (by omega),key 7 (by omega),key 8 (by omega),key 9 (by omega),key 10 (by omega),key 11 (by omega),key 12 (by omega),hf,hg⟩
def RefD.lay (st:RefD) (x:qax):RefD:= { st with pods:=qb8 (·.p.name) x st.pods,touched:=st.touched++ [x.node] }
theorem lay_any (Y:Nat) (st:RefD) (v4 v5 v6 v7:Value) (x:qax) (w:World) (H:qbc w Y st v4 v5 v6 v7) (hn:st.pods.length≤1000) (ht:st.touched.length < 8796093022207):
  Calls Tryz.prog 52 #[.pointer (some ⟨Y,0,none⟩),.agg x.cells] w fun e w'=>e= .returned (.tuple #[])∧qaq w w' Y (st.lay x) v4 v5 v6 v7:=by
 have hW:=fun o=>qi w o
 have hb: ∀ w1:World,Below w.heap.size w w1→qbc w1 Y st v4 v5 v6 v7:=fun w1 hb=>H.kept (Kept.of_below (F:=qq) hb) fun _ _=>id
 have c3:=fun w1 hb1=>touch_any Y st v4 v5 v6 v7 x.node w1 (hb w1 hb1) ht
 obtain ⟨a5,cp5,rfl⟩:=qv H.r5
 have hY:=qo H.box
 have nB: ¬ (w.heap.size=Y∨v6.ownBlock=some w.heap.size):=by
  rintro (h| h)
  ·omega
  ·have:=(H.r6.lt _ h).2;omega
 obtain ⟨i1,hi1,hz10,hz11,hz12⟩:=info_parts Tryz.infoLies
 unfold qax.cells Lst.val
 go_enter Tryz.func52,Tryz.ntmps52
 go_wp2_with (go_at_call 46;refine (c3 _ (hW _)).mono ?_;rintro e w3 ⟨rfl,v6',H3,K3,hf3⟩)
 have z3:w.heap.size < w3.heap.size:=by have:=K3.size;simp at this;omega
 have R3:Hid (∀ o,w3.cell? ⟨w.heap.size,o,none⟩=(w.alloc (.cells #[.string x.p.name,.int .i64 x.p.n0,.int .i64 x.p.n1,.int .i64 x.p.n2,.int .i64 x.p.port,.slice x.p.labels.a x.p.labels.L.length x.p.labels.cap,.slice x.p.select.a x.p.select.L.length x.p.select.cap,.slice x.p.bears.a x.p.bears.L.length x.p.bears.cap,.slice x.p.near.a x.p.near.L.length x.p.near.cap,.slice x.p.apart.a x.p.apart.L.length x.p.apart.cap,.string x.node,.bool x.bound,.int .i64 x.since] 110)).cell? ⟨w.heap.size,o,none⟩):=fun o=>K3.cell (p:=⟨w.heap.size,o,none⟩) (by simp) nB
 clear c3
 go_loopw [4,5,6] (fun l d i wr=> ∃ (k:Nat),k≤st.pods.length∧i= .int .i64 k∧d= .bool (qc8 (·.p.name) x st.pods k).2∧ ∃ ao cap,l= .slice ao (qc8 (·.p.name) x st.pods k).1.length cap∧
   qgc w3 wr 110 13 l (qc8 (·.p.name) x st.pods k).1.length ((qc8 (·.p.name) x st.pods k).1.flatMap qax.row)) (fun _ _ i _=>st.pods.length - (intOf i).toNat)
 case atStart=>exact ⟨0,Nat.zero_le _,rfl,rfl,none,0,rfl,qgc.start _ _ _⟩
 case round=>
  obtain ⟨k,hk,rfl,rfl,ao,cap,rfl,hB⟩:=hrel
  have H4:qbc wr Y _ _ _ _ _:=H3.kept hB.2.1 (fun _ _=>id)
  have hx4:=ql (i:=5) H4.box
  have rr: ∀ o,wr.cell? ⟨w.heap.size,o,none⟩=(w.alloc (.cells #[.string x.p.name,.int .i64 x.p.n0,.int .i64 x.p.n1,.int .i64 x.p.n2,.int .i64 x.p.port,.slice x.p.labels.a x.p.labels.L.length x.p.labels.cap,.slice x.p.select.a x.p.select.L.length x.p.select.cap,.slice x.p.bears.a x.p.bears.L.length x.p.bears.cap,.slice x.p.near.a x.p.near.L.length x.p.near.cap,.slice x.p.apart.a x.p.apart.L.length x.p.apart.cap,.string x.node,.bool x.bound,.int .i64 x.since] 110)).cell? ⟨w.heap.size,o,none⟩:=
   fun o=>(hB.2.1.cell (p:=⟨w.heap.size,o,none⟩) z3 id).trans (R3.out o)
  have zr:w.heap.size < wr.heap.size:=Nat.lt_of_lt_of_le z3 hB.2.1.size
  obtain ⟨il1,il2⟩:=insTo_length (·.p.name) x st.pods k
  by_cases hlt:k < st.pods.length
  ·have hsucc:=insTo_succ (·.p.name) x st.pods k hlt
   obtain ⟨g,ho,hg,-,-⟩:=qbs H4.r5 (by simpa using (by omega:0 < st.pods.length))
   subst ho
   obtain ⟨k0,k1,k2,k3,k4,k5,k6,k7,k8,k9,k10,k11,k12,-,-⟩:=row13 H4.r5 k hlt
   obtain ⟨nd,hnd⟩: ∃ nd,nd=st.pods[k]:=⟨_,rfl⟩
   simp only [← hnd] at k0 k1 k2 k3 k4 k5 k6 k7 k8 k9 k10 k11 k12
   rw [← hnd] at hsucc
   unfold Lst.val at k5 k6 k7 k8 k9
   have Hnd:Hid (nd=st.pods[k]):=hnd
   clear hnd
   generalize qc8 (·.p.name) x st.pods k=I at *
   obtain ⟨acc,d⟩:=I
   simp only at hB il1 il2
   have Hs:Hid (qc8 (·.p.name) x st.pods (k+1)=qca (·.p.name) x (acc,d) nd):=hsucc
   clear hsucc
   cases d
   ·cases hL:Op.bytesLess x.p.name.toList nd.p.name.toList
    ·have HS:Hid (qc8 (·.p.name) x st.pods (k+1)=(acc++ [nd],false)):=by show qc8 _ _ _ _=_;rw [Hs.out];simp [qca,ltB,hL]
     go_wp2
     go_quiet (fail)
     have hB':=hB.drewN nq
     go_wp2_with (at_builtin;refine qy _ rfl (.tmp 41) (.tmp 49) 102 rfl 110 i1 _ 13 200 Tryz.underlying102 hi1 hz10 hz11 hz12 rfl (by decide) _ acc.length _ rfl (by exact hB'.1.alloc _) ⟨wr.heap.size,0,none⟩ 1 1 nd.row rfl rfl (by exact qcr _ nd.cells _ _ rfl) nd.row_one (by unfold maxLen;omega) (by omega) ?_;intro ao1 cp1 w51 ho1 hg1 hf1)
     go_roundw
     case rel=>
      refine ⟨k+1,by omega,by go_num,by rw [HS.out],ao1,cp1,by rw [HS.out];simp,?_⟩
      rw [HS.out]
      exact hB'.more hg1 (by simpa using ho1) hf1
     case measure=>simp [intOf];omega
    ·have HS:Hid (qc8 (·.p.name) x st.pods (k+1)=(acc++ [x]++ [nd],true)):=by show qc8 _ _ _ _=_;rw [Hs.out];simp [qca,ltB,hL]
     go_wp2
     go_quiet (fail)
     have hB':=hB.drewN nq
     go_wp2_with (first
      | (at_builtin;refine qy _ rfl (.tmp 37) (.tmp 39) 102 rfl 110 i1 _ 13 200 Tryz.underlying102 hi1 hz10 hz11 hz12 rfl (by decide) _ acc.length _ rfl (by exact hB'.1.alloc _) ⟨wr.heap.size,0,none⟩ 1 1 x.row rfl rfl (by exact qcr _ x.cells _ _ rfl) x.row_one (by unfold maxLen;omega) (by omega) ?_;intro ao1 cp1 w51 ho1 hg1 hf1;have hB2:=hB'.more (xs':=(acc++ [x]).flatMap qax.row) hg1 (by simpa using ho1) hf1;have H5:qbc w51 Y _ _ _ _ _:=H3.kept hB2.2.1 (fun _ _=>id);have hx5:=ql (i:=5) H5.box;obtain ⟨m0,m1,m2,m3,m4,m5,m6,m7,m8,m9,m10,m11,m12,-,-⟩:=row13 H5.r5 k hlt;simp only [← Hnd.out] at m0 m1 m2 m3 m4 m5 m6 m7 m8 m9 m10 m11 m12;unfold Lst.val at m5 m6 m7 m8 m9)
      | (at_builtin;refine qy _ rfl (.tmp 41) (.tmp 49) 102 rfl 110 i1 _ 13 200 Tryz.underlying102 hi1 hz10 hz11 hz12 rfl (by decide) _ (acc.length+1) _ rfl (by exact hB2.1.alloc _) ⟨w51.heap.size,0,none⟩ 1 1 nd.row rfl rfl (by exact qcr _ nd.cells _ _ rfl) nd.row_one (by unfold maxLen;omega) (by omega) ?_;intro ao2 cp2 w52 ho2 hg2 hf2))
     go_roundw
     case rel=>
      refine ⟨k+1,by omega,by go_num,by rw [HS.out],ao2,cp2,by rw [HS.out];simp,?_⟩
      rw [HS.out]
      exact hB2.more hg2 (by simpa using ho2) hf2
     case measure=>simp [intOf];omega
   ·have HS:Hid (qc8 (·.p.name) x st.pods (k+1)=(acc++ [nd],true)):=by show qc8 _ _ _ _=_;rw [Hs.out];simp [qca]
    go_wp2
    go_quiet (fail)
    have hB':=hB.drewN nq
    go_wp2_with (at_builtin;refine qy _ rfl (.tmp 41) (.tmp 49) 102 rfl 110 i1 _ 13 200 Tryz.underlying102 hi1 hz10 hz11 hz12 rfl (by decide) _ acc.length _ rfl (by exact hB'.1.alloc _) ⟨wr.heap.size,0,none⟩ 1 1 nd.row rfl rfl (by exact qcr _ nd.cells _ _ rfl) nd.row_one (by unfold maxLen;omega) (by omega) ?_;intro ao1 cp1 w51 ho1 hg1 hf1)
    go_roundw
    case rel=>
     refine ⟨k+1,by omega,by go_num,by rw [HS.out],ao1,cp1,by rw [HS.out];simp,?_⟩
     rw [HS.out]
     exact hB'.more hg1 (by simpa using ho1) hf1
    case measure=>simp [intOf];omega
  ·have hkl:k=st.pods.length:=by omega
   have ad:=ins_all_done (·.p.name) x st.pods
   have an:=ins_all_not (·.p.name) x st.pods
   rw [← hkl] at ad an
   clear hkl
   have hfr:=qp (i:=5) H4.box
   generalize qc8 (·.p.name) x st.pods k=I at *
   obtain ⟨acc,d⟩:=I
   simp only at hB il1 il2 ad an
   have Hfin: ∀ (wz:World) (v5':Value) (l:List qax),qgc w3 wz 110 13 v5' l.length (l.flatMap qax.row)→l=qb8 (·.p.name) x st.pods→qaq w (wz.setCell ⟨Y,5,none⟩ v5') Y (st.lay x) v4 (.slice a5 st.pods.length cp5) v6 v7:=by
    intro wz v5' l hb hl
    subst hl
    obtain ⟨g1,g2⟩:=H3.put5 hb.2.1 hb.1 hb.2.2
    refine ⟨_,_,_,_,g1,?_,?_⟩
    ·have K1:Kept (qau Y v4 (.slice a5 st.pods.length cp5) v6 v7) w (w.alloc (.cells #[.string x.p.name,.int .i64 x.p.n0,.int .i64 x.p.n1,.int .i64 x.p.n2,.int .i64 x.p.port,.slice x.p.labels.a x.p.labels.L.length x.p.labels.cap,.slice x.p.select.a x.p.select.L.length x.p.select.cap,.slice x.p.bears.a x.p.bears.L.length x.p.bears.cap,.slice x.p.near.a x.p.near.L.length x.p.near.cap,.slice x.p.apart.a x.p.apart.L.length x.p.apart.cap,.string x.node,.bool x.bound,.int .i64 x.since] 110)):=Kept.of_below (hW _)
     exact (K1.trans K3 fun b _ hb=>hb.elim .inl (fun h=> .inr (.inr (.inr (.inl h))))).trans g2 fun b _ hb=> .inl hb
    ·rintro b (hb'| hb'| hb'| hb'| hb')
     ·exact .inl (.inl hb')
     ·exact .inl (.inr (.inl hb'))
     ·exact .inr (by have:=hb.2.2 b hb';omega)
     ·exact (hf3 b hb').elim (fun h=> .inl (.inr (.inr (.inr (.inl h))))) (fun h=> .inr (by simp at h;omega))
     ·exact .inl (.inr (.inr (.inr (.inr hb'))))
   cases d
   ·have Hl:Hid (acc++ [x]=qb8 (·.p.name) x st.pods):=an rfl
    clear ad an
    go_wp2_with (at_builtin;refine qy _ rfl (.tmp 53) (.tmp 55) 102 rfl 110 i1 _ 13 200 Tryz.underlying102 hi1 hz10 hz11 hz12 rfl (by decide) _ acc.length _ rfl (by exact hB.1.alloc _) ⟨wr.heap.size,0,none⟩ 1 1 x.row rfl rfl (by exact qcr _ x.cells _ _ rfl) x.row_one (by unfold maxLen;omega) (by omega) ?_;intro ao1 cp1 w51 ho1 hg1 hf1;have hB2:=hB.more (xs':=(acc++ [x]).flatMap qax.row) hg1 (by simpa using ho1) hf1;have H5:qbc w51 Y _ _ _ _ _:=H3.kept hB2.2.1 (fun _ _=>id);have hx5:=ql (i:=5) H5.box;have hf5:=qp (i:=5) H5.box)
    go_end0
    exact ⟨rfl,Hfin _ _ _ (by simpa using hB2) Hl.out⟩
   ·have Hl:Hid (acc=qb8 (·.p.name) x st.pods):=ad rfl
    clear ad an
    go_wp2
    go_end0
    exact ⟨rfl,Hfin _ _ _ hB Hl.out⟩
def qdw {α:Type} (l:List α) (i k:Nat):List α:=(l.take k).eraseIdx i
theorem delTo_at {α:Type} (l:List α) (i:Nat) (hi:i < l.length):qdw l i (i+1)=qdw l i i:=by
 unfold qdw
 rw [List.take_succ_eq_append_getElem hi,List.eraseIdx_append_of_length_le (by simp;omega),List.eraseIdx_of_length_le (l:=l.take i) (by simp;omega)]
 simp [Nat.min_eq_left (Nat.le_of_lt hi)]
theorem delTo_ne {α:Type} (l:List α) (i k:Nat) (hk:k < l.length) (h:k≠i):qdw l i (k+1)=qdw l i k++ [l[k]]:=by
 unfold qdw
 rw [List.take_succ_eq_append_getElem hk]
 by_cases hik:i < k
 ·rw [List.eraseIdx_append_of_lt_length (by simp;omega)]
 ·rw [List.eraseIdx_of_length_le (l:=l.take k) (by simp;omega),List.eraseIdx_of_length_le (by simp;omega)]
theorem delTo_all {α:Type} (l:List α) (i:Nat):qdw l i l.length=l.eraseIdx i:=by simp [qdw]
theorem delTo_length {α:Type} (l:List α) (i k:Nat):(qdw l i k).length≤k:=by
 unfold qdw
 have:=List.length_eraseIdx_le (l.take k) i
 simp at this
 omega
def RefD.leave (st:RefD) (i:Nat) (x:qax):RefD:= { st with pods:=st.pods.eraseIdx i,touched:=st.touched++ [x.node] }
theorem leave_any (Y:Nat) (st:RefD) (v4 v5 v6 v7:Value) (i:Nat) (w:World) (H:qbc w Y st v4 v5 v6 v7) (hi:i < st.pods.length) (hn:st.pods.length≤1000) (ht:st.touched.length < 8796093022207):
  Calls Tryz.prog 59 #[.pointer (some ⟨Y,0,none⟩),.int .i64 i] w fun e w'=>e= .returned (.tuple #[])∧qaq w w' Y (st.leave i st.pods[i]) v4 v5 v6 v7:=by
 obtain ⟨a5,cp5,rfl⟩:=qv H.r5
 have hY:=qo H.box
 have hx:=ql (i:=5) H.box
 obtain ⟨g,ho,hg,-,-⟩:=qbs H.r5 (by omega)
 subst ho
 obtain ⟨-,-,-,-,-,-,-,-,-,-,j10,-,-,-,-⟩:=row13 H.r5 i hi
 obtain ⟨x,hxe⟩: ∃ x,x=st.pods[i]:=⟨_,rfl⟩
 rw [← hxe] at j10 ⊢
 clear hxe
 have c3:=touch_any Y st v4 _ v6 v7 x.node w H ht
 obtain ⟨i1,hi1,hz10,hz11,hz12⟩:=info_parts Tryz.infoLies
 have hi1':(0:Int)≤(i:Int):=by omega
 have hi2':(i:Int) < (st.pods.length:Int):=by omega
 go_enter Tryz.func59,Tryz.ntmps59
 go_wp2_with (go_at_call 46;refine c3.mono ?_;rintro e w3 ⟨rfl,v6',H3,K3,hf3⟩)
 clear c3 hx j10
 go_loopw [4,5] (fun l j wr=> ∃ (k:Nat),k≤st.pods.length∧j= .int .i64 k∧ ∃ ao cap,l= .slice ao (qdw st.pods i k).length cap∧qgc w3 wr 110 13 l (qdw st.pods i k).length ((qdw st.pods i k).flatMap qax.row)) (fun _ j _=>st.pods.length - (intOf j).toNat)
 case atStart=>exact ⟨0,Nat.zero_le _,rfl,none,0,by simp [qdw],by simpa [qdw] using qgc.start _ _ _⟩
 case round=>
  obtain ⟨k,hk,rfl,ao,cap,rfl,hB⟩:=hrel
  have H4:qbc wr Y _ _ _ _ _:=H3.kept hB.2.1 (fun _ _=>id)
  have hx4:=ql (i:=5) H4.box
  have il1:=delTo_length st.pods i k
  by_cases hlt:k < st.pods.length
  ·by_cases hki:k=i
   ·have HS:Hid (qdw st.pods i (k+1)=qdw st.pods i k):=by show qdw _ _ _=_;rw [hki];exact delTo_at st.pods i hi
    have hkb:((k:Int) != (i:Int))=false:=by simp [hki]
    clear hki
    go_wp2
    go_roundw
    case rel=>exact ⟨k+1,by omega,by go_num,ao,cap,by rw [HS.out],by rw [HS.out];exact hB⟩
    case measure=>simp [intOf];omega
   ·obtain ⟨k0,k1,k2,k3,k4,k5,k6,k7,k8,k9,k10,k11,k12,-,-⟩:=row13 H4.r5 k hlt
    obtain ⟨nd,hnd⟩: ∃ nd,nd=st.pods[k]:=⟨_,rfl⟩
    simp only [← hnd] at k0 k1 k2 k3 k4 k5 k6 k7 k8 k9 k10 k11 k12
    have HS:Hid (qdw st.pods i (k+1)=qdw st.pods i k++ [nd]):=by show qdw _ _ _=_;rw [hnd];exact delTo_ne st.pods i k hlt hki
    unfold Lst.val at k5 k6 k7 k8 k9
    clear hnd
    have hkb:((k:Int) != (i:Int))=true:=by simp;omega
    clear hki
    generalize qdw st.pods i k=acc at *
    go_wp2_with (at_builtin;refine qy _ rfl (.tmp 28) (.tmp 36) 102 rfl 110 i1 _ 13 200 Tryz.underlying102 hi1 hz10 hz11 hz12 rfl (by decide) _ acc.length _ rfl (by exact hB.1.alloc _) ⟨wr.heap.size,0,none⟩ 1 1 nd.row rfl rfl (by exact qcr _ nd.cells _ _ rfl) nd.row_one (by unfold maxLen;omega) (by omega) ?_;intro ao1 cp1 w51 ho1 hg1 hf1)
    go_roundw
    case rel=>
     refine ⟨k+1,by omega,by go_num,ao1,cp1,by rw [HS.out];simp,?_⟩
     rw [HS.out]
     exact hB.more hg1 (by simpa using ho1) hf1
    case measure=>simp [intOf];omega
  ·have hkl:k=st.pods.length:=by omega
   have ad:=delTo_all st.pods i
   rw [← hkl] at ad
   clear hkl
   have hfr:=qp (i:=5) H4.box
   obtain ⟨g1,g2⟩:=H3.put5 hB.2.1 hB.1 hB.2.2
   have Hl:Hid (qdw st.pods i k=st.pods.eraseIdx i):=ad
   clear ad
   go_wp2
   go_end0
   refine ⟨rfl,_,_,_,_,by unfold RefD.leave;rw [← Hl.out];exact g1,?_,?_⟩
   ·exact (K3.mono fun b _ hb=>hb.elim .inl (fun h=> .inr (.inr (.inr (.inl h))))).trans g2 fun b _ hb=> .inl hb
   ·rintro b (hb'| hb'| hb'| hb'| hb')
    ·exact .inl (.inl hb')
    ·exact .inl (.inr (.inl hb'))
    ·exact .inr (by have:=hB.2.2 b hb';have:=K3.size;omega)
    ·exact (hf3 b hb').elim (fun h=> .inl (.inr (.inr (.inr (.inl h))))) .inr
    ·exact .inl (.inr (.inr (.inr (.inr hb'))))
end
end Go.Proofs.YtchddaafibjmgaaGreat
