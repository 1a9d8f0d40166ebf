import Derived.Test.YtchddaafibjmgaaGreatMF1
import Derived.Test.YtchddaafibjmgaaGreatME1
import Derived.Test.YtchddaafibjmgaaGreatMD9
import Derived.Test.YtchddaafibjmgaaGreatMA3
import Derived.Test.YtchddaafibjmgaaGreatMD11
import Derived.Test.YtchddaafibjmgaaGreatME3
import Derived.Test.YtchddaafibjmgaaGreatMA25
import Derived.Test.YtchddaafibjmgaaGreatMD14
set_option maxRecDepth 100000
set_option maxHeartbeats 20000000
namespace Go.Proofs.YtchddaafibjmgaaGreat
section
open Go.RowKit Go.Maps
attribute [local go_sem] Go.wp_at_zero Go.wp_at_succ
theorem infoRP:(Tryz.prog.info? 45).map (fun i=>(i.zero,i.size,i.bytes))=some (some (.agg #[.string ⟨#[]⟩,.int .i64 0,.int .i64 0,.int .i64 0,.int .i64 0,.slice none 0 0,.slice none 0 0,.slice none 0 0,.slice none 0 0,.slice none 0 0]),10,168):=by kernel_rfl
theorem setL_toList: ∀ (cs:List Value) (cur:Array Value) (o:Nat),o+cs.length≤cur.size→(setL cur o cs).toList=cur.toList.take o++cs++cur.toList.drop (o+cs.length)
 | [],cur,o,_=>by simp [setL]
 | v::r,cur,o,h=>by
  simp only [List.length_cons] at h
  rw [setL,setL_toList r (cur.setIfInBounds o v) (o+1) (by simp;omega)]
  simp only [Array.toList_setIfInBounds,List.length_cons]
  rw [List.drop_set_of_lt (by omega),List.take_set,show (cur.toList.take (o+1)).set o v=cur.toList.take o++ [v] from ?_,show o+1+r.length=o+(r.length+1) from by omega]
  ·simp
  ·have hl:cur.toList.length=cur.size:=Array.length_toList
   rw [List.take_succ_eq_append_getElem (by omega),List.set_append_right _ _ (by simp;omega),List.length_take,Nat.min_eq_left (by omega),Nat.sub_self,List.set_cons_zero]
theorem row_one (p:PodD): ∀ u∈p.row,u.oneCell'=true:=by
 intro u hu
 simp only [PodD.row,PodD.cells,Lst.val,List.mem_cons,List.not_mem_nil,or_false] at hu
 rcases hu with rfl| rfl| rfl| rfl| rfl| rfl| rfl| rfl| rfl| rfl<;>rfl
theorem queue_append {w:World} {v:Value} {l:List PodD} (H:qhm w v l) (hl:l.length≤127) (p:PodD) (ty:TypeId) (A c:Nat) (hnews: ∀ j u,p.row[j]? =some u→w.cell? ((⟨A,0,none⟩:Addr).add j)=some u):
  ∃ v' w',(Builtin.append_ #[104,104] ty #[v,.slice (some ⟨A,0,none⟩) 1 c]).run Tryz.prog w= .ok v' w'∧qhm w' v' (l++ [p])∧Kept (fun b=>v.ownBlock=some b) w w'∧(v'.ownBlock=v.ownBlock∨ ∀ k,v'.ownBlock=some k→w.heap.size≤k):=by
 obtain ⟨i,hi,hz,hsize,hby⟩:=info_parts infoRP
 have row10:p.row.length=1 * 10:=rfl
 have flat10:(l.flatMap PodD.row).length=l.length * 10:=qhj _ 10 (fun _=>rfl) l
 have fin: ∀ (v':Value) (w':World),w'.ownsRow 0 45 10 v' (l.length+1) (l.flatMap PodD.row++p.row)→qhm w' v' (l++ [p]):=fun v' w' r=>by
  rcases r.2 with ⟨_,h0⟩| ⟨g,cap,cur,hv,_,hg,h1,h2,h3,h4⟩
  ·omega
  ·refine .inr ⟨g,0,cap,cur,by rw [hv,List.length_append];rfl,hg,by simpa using h1,h2,by omega,?_⟩
   rw [List.drop_zero,List.length_append,List.flatMap_append,List.flatMap_singleton]
   exact h4
 rcases H with ⟨rfl,rfl⟩| ⟨g,off,cap,cur,rfl,hg,h1,h2,h3,h4⟩
 ·obtain ⟨v',w',hr,r1,r2,r3⟩:=qe8 (P:=Tryz.prog) w 104 ty 45 i _ 10 168 Tryz.underlying104 hi hz hsize hby rfl (by omega) (.slice none 0 0) 0 [] (World.ownsRow_nil _ _ _ _) ⟨A,0,none⟩ 1 c p.row row10 hnews (row_one p) (by unfold maxLen;omega) (by omega)
  exact ⟨v',w',hr,fin v' w' r1,(Kept.refl _ _).grown r2 fun k hk _=>hk,r3⟩
 ·have hcell: ∀ j,w.cell? ⟨g,j,none⟩=cur[j]? :=fun j=>ql hg
  by_cases hroom:l.length+1≤cap
  ·have hr:=run_append_room_cells (P:=Tryz.prog) w 104 ty 45 i Tryz.underlying104 hi g off l.length cap ⟨A,0,none⟩ 1 c p.row (by rw [hsize];exact row10) hnews (row_one p) hroom (fun j hj=>by
    rw [hcell,hsize,Array.getElem?_eq_getElem (by rw [row10] at hj;omega)];rfl) (fun j hj=>qp hg)
   rw [hsize] at hr
   refine ⟨_,_,hr,.inr ⟨g,off,cap,_,by rw [List.length_append];rfl,qcv p.row (off+l.length * 10) hg,by simpa using hroom,h2,by rw [setL_size];exact h3,?_⟩,Kept.setCells (F:=fun b=>(Value.slice (some ⟨g,off,none⟩) l.length cap).ownBlock=some b) (fun _=>rfl) _ _ (Kept.refl _ w),.inl rfl⟩
   rw [setL_toList _ _ _ (by rw [row10];omega),List.append_assoc,List.drop_append_of_le_length (by simp;omega),List.length_append,List.flatMap_append,List.flatMap_singleton,← h4]
   have e1:(cur.toList.take (off+l.length * 10)).drop off=(cur.toList.drop off).take (l.length * 10):=by rw [List.drop_take,Nat.add_sub_cancel_left]
   rw [e1,h4,← List.append_assoc,show (l.length+ [p].length) * 10=(l.flatMap PodD.row++p.row).length from by rw [List.length_append,flat10,row10];simp;omega]
   exact List.take_left
  ·obtain ⟨v',w',hr,r1,r2⟩:=run_append_arg_grows (P:=Tryz.prog) w 104 ty 45 i _ 10 168 Tryz.underlying104 hi hz hsize hby rfl (by omega) ⟨g,off,none⟩ l.length cap (l.flatMap PodD.row) flat10 (fun j u hu=>by
    have hj:j < l.length * 10:=by rw [← flat10];exact (List.getElem?_eq_some_iff.1 hu).1
    rw [show (⟨g,off,none⟩:Addr).add j=⟨g,off+j,none⟩ from by unfold Addr.add;split<;>rename_i h<;>simp_all,hcell,← Array.getElem?_toList,← hu,← h4,List.getElem?_take_of_lt hj,List.getElem?_drop]) ⟨A,0,none⟩ 1 c p.row row10 hnews (by omega) (by unfold maxLen;omega) (by omega)
   have rr:w'.ownsRow 0 45 10 v' (l.length+1) (l.flatMap PodD.row++p.row):=⟨r1.1,r1.2.imp id fun ⟨g',c',cu,q1,_,q3⟩=>⟨g',c',cu,q1,Nat.zero_le _,q3⟩⟩
   exact ⟨v',w',hr,fin v' w' rr,(Kept.refl _ _).grown r2 (fun k hk _=>by cases hk),.inr fun k hk=>(r1.lt k hk).1⟩
theorem qbc.queued {w w':World} {Y:Nat} {st:RefD} {v4 v5 v6 v7 u7:Value} {l:List PodD} (H:qbc w Y st v4 v5 v6 v7) (K:Kept (fun b=>v7.ownBlock=some b) w w') (Q:qhm w' u7 l) (f:u7.ownBlock=v7.ownBlock∨ ∀ k,u7.ownBlock=some k→w.heap.size≤k):
  qbc (w'.setCell ⟨Y,7,none⟩ u7) Y { st with waiting:=l } v4 v5 v6 u7∧Kept (qau Y v4 v5 v6 v7) w (w'.setCell ⟨Y,7,none⟩ u7)∧ ∀ b,qau Y v4 v5 v6 u7 b→qau Y v4 v5 v6 v7 b∨w.heap.size≤b:=by
 have lY:=qo H.box
 have nU: ∀ (v:Value),(∀ k,v.ownBlock=some k→k < w.heap.size)→apartV v v7→apartV v u7:=fun v hv ha k hk e=>by
  rcases f with h| h
  ·exact ha k hk (h▸e)
  ·exact absurd (hv k hk) (Nat.not_lt.2 (h k e))
 have yU:u7.ownBlock≠some Y:=fun e=>by
  rcases f with h| h
  ·exact H.y7 (h▸e)
  ·exact absurd lY (Nat.not_lt.2 (h Y e))
 have bY:w'.heap[Y]? =some (.cells #[.int .i64 st.hold,.bool st.rem,.bool st.whole,.int .i64 st.now,v4,v5,v6,v7] 106 (0,0)):=by rw [K.block Y lY H.y7];exact H.box
 have kS:Kept (fun b=>b=Y) w' (w'.setCell ⟨Y,7,none⟩ u7):=Kept.setCell (F:=fun b=>b=Y) (Kept.refl _ w') (p:=⟨Y,7,none⟩) (fun _=>rfl) _
 refine ⟨⟨?_,kS.ownsRow (K.ownsRow H.r4 fun k h e=>H.a47 k h e) fun k h e=>H.y4 (e▸h),kS.ownsRow (K.ownsRow H.r5 fun k h e=>H.a57 k h e) fun k h e=>H.y5 (e▸h),kS.ownsRow (K.ownsRow H.r6 fun k h e=>H.a67 k h e) fun k h e=>H.y6 (e▸h),Q.kept kS fun k h e=>yU (e▸h),H.y4,H.y5,H.y6,yU,H.a45,H.a46,nU v4 (fun k h=>(H.r4.lt k h).2) H.a47,H.a56,nU v5 (fun k h=>(H.r5.lt k h).2) H.a57,nU v6 (fun k h=>(H.r6.lt k h).2) H.a67⟩,
  (K.mono fun b _ h=> .inr (.inr (.inr (.inr h)))).trans kS fun i _ h=> .inl h,fun b h=> ?_⟩
 ·have:=qs (i:=7) bY u7
  exact this
 ·rcases h with h| h| h| h| h
  ·exact .inl (.inl h)
  ·exact .inl (.inr (.inl h))
  ·exact .inl (.inr (.inr (.inl h)))
  ·exact .inl (.inr (.inr (.inr (.inl h))))
  ·rcases f with e| e
   ·exact .inl (.inr (.inr (.inr (.inr (e▸h)))))
   ·exact .inr (e b h)
theorem rqueue_any (Y:Nat) (st:RefD) (v4 v5 v6 v7:Value) (p:PodD) (w:World) (H:qbc w Y st v4 v5 v6 v7) (hok:p.ok w) (hw:st.waiting.length≤128):
  Calls Tryz.prog 32 #[.pointer (some ⟨Y,0,none⟩),.agg p.cells] w fun e w'=>e= .returned (.int .i64 (st.queue p).1)∧ ∃ u7,qbc w' Y (st.queue p).2 v4 v5 v6 u7∧Kept (qau Y v4 v5 v6 v7) w w'∧ ∀ b,qau Y v4 v5 v6 u7 b→qau Y v4 v5 v6 v7 b∨w.heap.size≤b:=by
 have lY:=qo H.box
 obtain ⟨w0,hw0⟩: ∃ W,W=w.alloc (.cells p.cells 45):=⟨_,rfl⟩
 have hb0:Below w.heap.size w w0:=by rw [hw0];exact qi _ _
 have lz:w.heap.size < w0.heap.size:=by rw [hw0];simp
 have bx0:w0.cell? ⟨w.heap.size,0,none⟩=some (.string p.name):=by rw [hw0,ql (qm _ _)];rfl
 have bx1:w0.cell? ⟨w.heap.size,1,none⟩=some (.int .i64 p.n0):=by rw [hw0,ql (qm _ _)];rfl
 have bx2:w0.cell? ⟨w.heap.size,2,none⟩=some (.int .i64 p.n1):=by rw [hw0,ql (qm _ _)];rfl
 have bx3:w0.cell? ⟨w.heap.size,3,none⟩=some (.int .i64 p.n2):=by rw [hw0,ql (qm _ _)];rfl
 have bx4:w0.cell? ⟨w.heap.size,4,none⟩=some (.int .i64 p.port):=by rw [hw0,ql (qm _ _)];rfl
 have bx5:w0.cell? ⟨w.heap.size,5,none⟩=some (.slice p.labels.a p.labels.L.length p.labels.cap):=by rw [hw0,ql (qm _ _)];rfl
 have bx6:w0.cell? ⟨w.heap.size,6,none⟩=some (.slice p.select.a p.select.L.length p.select.cap):=by rw [hw0,ql (qm _ _)];rfl
 have bx7:w0.cell? ⟨w.heap.size,7,none⟩=some (.slice p.bears.a p.bears.L.length p.bears.cap):=by rw [hw0,ql (qm _ _)];rfl
 have bx8:w0.cell? ⟨w.heap.size,8,none⟩=some (.slice p.near.a p.near.L.length p.near.cap):=by rw [hw0,ql (qm _ _)];rfl
 have bx9:w0.cell? ⟨w.heap.size,9,none⟩=some (.slice p.apart.a p.apart.L.length p.apart.cap):=by rw [hw0,ql (qm _ _)];rfl
 have c1:=qhq p w0 (hok.below hb0)
 obtain ⟨oq,cq,hv7⟩: ∃ oq cq,v7= .slice oq st.waiting.length cq:=by
  rcases H.r7 with ⟨h,h'⟩| ⟨g,off,cap,cur,h,_⟩
  ·exact ⟨none,0,by rw [h,h'];rfl⟩
  ·exact ⟨_,_,h⟩
 have H0:=H.kept (Kept.of_below (F:=qq) hb0) fun _ _=>id
 have HH:Hid _:=H
 have HH0:Hid (qbc w0 Y st v4 v5 v6 v7):=H0
 have HB0:Hid (Below w.heap.size w w0):=hb0
 have nY7:v7.ownBlock≠some Y:=H.y7
 have n7w:v7.ownBlock≠some w.heap.size:=fun e=>Nat.lt_irrefl _ (H.r7.lt _ e)
 have no: ∀ (w':World),Below w0.heap.size w0 w'→ ∃ u7,qbc w' Y st v4 v5 v6 u7∧Kept (qau Y v4 v5 v6 v7) w w'∧ ∀ b,qau Y v4 v5 v6 u7 b→qau Y v4 v5 v6 v7 b∨w.heap.size≤b:=fun w' hb=>⟨v7,H0.kept (Kept.of_below (F:=qq) hb) (fun _ _=>id),Kept.of_below (qj hb0 hb),fun b h=> .inl h⟩
 have Hno:Hid _:=no
 have Hq:Hid (qhm w0 v7 st.waiting):=H0.r7
 clear no H0 H hb0
 unfold PodD.cells Lst.val at hw0 c1
 unfold PodD.cells Lst.val
 have lY0:Y < w0.heap.size:=Nat.lt_trans lY lz
 have y7:w0.cell? ⟨Y,7,none⟩=some v7:=by rw [ql HH0.out.box];rfl
 by_cases h0:p.err=0
 ·by_cases h1:127 < st.waiting.length
  ·have hq:st.queue p=(6,st):=by unfold RefD.queue;rw [if_neg (by simpa using h0),if_pos h1]
   rw [hq]
   subst hv7
   go_enter Tryz.func32,Tryz.ntmps32
   go_upto_region 1 with fail
   rw [← hw0]
   clear hw0
   go_wp2_with (first| (go_at_call 50;refine c1.mono ?_;rintro e w1 ⟨rfl,hb1⟩;have y71:=(hb1.cell (p:=⟨Y,7,none⟩) lY0).trans y7;rw [h0]))
   go_ret
   exact ⟨rfl,Hno.out _ hb1⟩
  ·have hq:st.queue p=(0,{ st with waiting:=st.waiting++ [p] }):=by unfold RefD.queue;rw [if_neg (by simpa using h0),if_neg h1]
   rw [hq]
   have hv7':=hv7
   have y7':=y7
   rw [hv7] at y7'
   go_enter Tryz.func32,Tryz.ntmps32
   go_upto_region 1 with fail
   rw [← hw0]
   clear hw0
   go_upto_region 6 with (first| (go_at_call 50;refine c1.mono ?_;rintro e w1 ⟨rfl,hb1⟩;have y71:=(hb1.cell (p:=⟨Y,7,none⟩) lY0).trans y7';have by0:=(hb1.cell (p:=⟨w.heap.size,0,none⟩) lz).trans bx0;have by1:=(hb1.cell (p:=⟨w.heap.size,1,none⟩) lz).trans bx1;have by2:=(hb1.cell (p:=⟨w.heap.size,2,none⟩) lz).trans bx2;have by3:=(hb1.cell (p:=⟨w.heap.size,3,none⟩) lz).trans bx3;have by4:=(hb1.cell (p:=⟨w.heap.size,4,none⟩) lz).trans bx4;have by5:=(hb1.cell (p:=⟨w.heap.size,5,none⟩) lz).trans bx5;have by6:=(hb1.cell (p:=⟨w.heap.size,6,none⟩) lz).trans bx6;have by7:=(hb1.cell (p:=⟨w.heap.size,7,none⟩) lz).trans bx7;have by8:=(hb1.cell (p:=⟨w.heap.size,8,none⟩) lz).trans bx8;have by9:=(hb1.cell (p:=⟨w.heap.size,9,none⟩) lz).trans bx9;rw [h0]))
   have SS: ∀ W,Below w1.heap.size w1 W∨(∃ W1,Below w1.heap.size w1 W1∧Kept (fun b=>v7.ownBlock=some b) W1 W)→(fun w'=>w'.cell? ⟨Y,7,none⟩=some v7∧w'.cell? ⟨w.heap.size,0,none⟩=some (.string p.name)∧w'.cell? ⟨w.heap.size,1,none⟩=some (.int .i64 p.n0)∧w'.cell? ⟨w.heap.size,2,none⟩=some (.int .i64 p.n1)∧w'.cell? ⟨w.heap.size,3,none⟩=some (.int .i64 p.n2)∧w'.cell? ⟨w.heap.size,4,none⟩=some (.int .i64 p.port)∧w'.cell? ⟨w.heap.size,5,none⟩=some (.slice p.labels.a p.labels.L.length p.labels.cap)∧w'.cell? ⟨w.heap.size,6,none⟩=some (.slice p.select.a p.select.L.length p.select.cap)∧w'.cell? ⟨w.heap.size,7,none⟩=some (.slice p.bears.a p.bears.L.length p.bears.cap)∧w'.cell? ⟨w.heap.size,8,none⟩=some (.slice p.near.a p.near.L.length p.near.cap)∧w'.cell? ⟨w.heap.size,9,none⟩=some (.slice p.apart.a p.apart.L.length p.apart.cap)) W:=fun W hW=>by
    have lY1:=Nat.lt_of_lt_of_le lY0 hb1.size
    have lw1:=Nat.lt_of_lt_of_le lz hb1.size
    rcases hW with hb| ⟨W1,hb,hk⟩
    ·exact ⟨((hb.cell (p:=⟨Y,7,none⟩) lY1).trans y71).trans (by rw [hv7']),(hb.cell (p:=⟨w.heap.size,0,none⟩) lw1).trans by0,(hb.cell (p:=⟨w.heap.size,1,none⟩) lw1).trans by1,(hb.cell (p:=⟨w.heap.size,2,none⟩) lw1).trans by2,(hb.cell (p:=⟨w.heap.size,3,none⟩) lw1).trans by3,(hb.cell (p:=⟨w.heap.size,4,none⟩) lw1).trans by4,(hb.cell (p:=⟨w.heap.size,5,none⟩) lw1).trans by5,(hb.cell (p:=⟨w.heap.size,6,none⟩) lw1).trans by6,(hb.cell (p:=⟨w.heap.size,7,none⟩) lw1).trans by7,(hb.cell (p:=⟨w.heap.size,8,none⟩) lw1).trans by8,(hb.cell (p:=⟨w.heap.size,9,none⟩) lw1).trans by9⟩
    ·have s1:=hb.size
     have lY2:Y < W1.heap.size:=by omega
     have lw2:w.heap.size < W1.heap.size:=by omega
     exact ⟨((hk.cell (p:=⟨Y,7,none⟩) lY2 nY7).trans ((hb.cell (p:=⟨Y,7,none⟩) lY1).trans y71)).trans (by rw [hv7']),(hk.cell (p:=⟨w.heap.size,0,none⟩) lw2 n7w).trans ((hb.cell (p:=⟨w.heap.size,0,none⟩) lw1).trans by0),(hk.cell (p:=⟨w.heap.size,1,none⟩) lw2 n7w).trans ((hb.cell (p:=⟨w.heap.size,1,none⟩) lw1).trans by1),(hk.cell (p:=⟨w.heap.size,2,none⟩) lw2 n7w).trans ((hb.cell (p:=⟨w.heap.size,2,none⟩) lw1).trans by2),(hk.cell (p:=⟨w.heap.size,3,none⟩) lw2 n7w).trans ((hb.cell (p:=⟨w.heap.size,3,none⟩) lw1).trans by3),(hk.cell (p:=⟨w.heap.size,4,none⟩) lw2 n7w).trans ((hb.cell (p:=⟨w.heap.size,4,none⟩) lw1).trans by4),(hk.cell (p:=⟨w.heap.size,5,none⟩) lw2 n7w).trans ((hb.cell (p:=⟨w.heap.size,5,none⟩) lw1).trans by5),(hk.cell (p:=⟨w.heap.size,6,none⟩) lw2 n7w).trans ((hb.cell (p:=⟨w.heap.size,6,none⟩) lw1).trans by6),(hk.cell (p:=⟨w.heap.size,7,none⟩) lw2 n7w).trans ((hb.cell (p:=⟨w.heap.size,7,none⟩) lw1).trans by7),(hk.cell (p:=⟨w.heap.size,8,none⟩) lw2 n7w).trans ((hb.cell (p:=⟨w.heap.size,8,none⟩) lw1).trans by8),(hk.cell (p:=⟨w.heap.size,9,none⟩) lw2 n7w).trans ((hb.cell (p:=⟨w.heap.size,9,none⟩) lw1).trans by9)⟩
   have HS0:Hid ((fun w'=>w'.cell? ⟨Y,7,none⟩=some v7∧w'.cell? ⟨w.heap.size,0,none⟩=some (.string p.name)∧w'.cell? ⟨w.heap.size,1,none⟩=some (.int .i64 p.n0)∧w'.cell? ⟨w.heap.size,2,none⟩=some (.int .i64 p.n1)∧w'.cell? ⟨w.heap.size,3,none⟩=some (.int .i64 p.n2)∧w'.cell? ⟨w.heap.size,4,none⟩=some (.int .i64 p.port)∧w'.cell? ⟨w.heap.size,5,none⟩=some (.slice p.labels.a p.labels.L.length p.labels.cap)∧w'.cell? ⟨w.heap.size,6,none⟩=some (.slice p.select.a p.select.L.length p.select.cap)∧w'.cell? ⟨w.heap.size,7,none⟩=some (.slice p.bears.a p.bears.L.length p.bears.cap)∧w'.cell? ⟨w.heap.size,8,none⟩=some (.slice p.near.a p.near.L.length p.near.cap)∧w'.cell? ⟨w.heap.size,9,none⟩=some (.slice p.apart.a p.apart.L.length p.apart.cap)) w1.drew):=SS _ (.inl (Below.refl _ _).drew)
   have HSS:Hid _:=SS
   have Hb1:Hid _:=hb1
   have hHeld:=HS0.out
   clear SS hb1
   rw [← hv7'] at y71
   clear hv7 hv7' y7'
   refine qfy 10 (fun w'=>w'.cell? ⟨Y,7,none⟩=some v7∧w'.cell? ⟨w.heap.size,0,none⟩=some (.string p.name)∧w'.cell? ⟨w.heap.size,1,none⟩=some (.int .i64 p.n0)∧w'.cell? ⟨w.heap.size,2,none⟩=some (.int .i64 p.n1)∧w'.cell? ⟨w.heap.size,3,none⟩=some (.int .i64 p.n2)∧w'.cell? ⟨w.heap.size,4,none⟩=some (.int .i64 p.port)∧w'.cell? ⟨w.heap.size,5,none⟩=some (.slice p.labels.a p.labels.L.length p.labels.cap)∧w'.cell? ⟨w.heap.size,6,none⟩=some (.slice p.select.a p.select.L.length p.select.cap)∧w'.cell? ⟨w.heap.size,7,none⟩=some (.slice p.bears.a p.bears.L.length p.bears.cap)∧w'.cell? ⟨w.heap.size,8,none⟩=some (.slice p.near.a p.near.L.length p.near.cap)∧w'.cell? ⟨w.heap.size,9,none⟩=some (.slice p.apart.a p.apart.L.length p.apart.cap)) #[false,false,false,false,false,false,false,false,false,false,false] (by kernel_rfl) rfl ?_
   (refine qhr HS0.out 0 (some 17) [8,9] ?_;simp only [Act.put,pt])
   (refine qhr HS0.out 1 (some 18) [2,3,4,7] ?_;simp only [Act.put,pt])
   (refine qhr HS0.out 2 (some 19) [3,4,7] ?_;simp only [Act.put,pt])
   (refine qhr HS0.out 3 (some 20) [4,7] ?_;simp only [Act.put,pt])
   (refine qhr HS0.out 4 (some 21) [7] ?_;simp only [Act.put,pt])
   (refine qhr HS0.out 5 (some 22) [6,7] ?_;simp only [Act.put,pt])
   clear hHeld
   have Hq1:Hid (qhm w1.drew v7 st.waiting):=(qhm.kept Hq.out (Kept.of_below (F:=qq) Hb1.out) fun _ _=>id).kept ((Kept.refl qq w1).drew) fun _ _=>id
   refine qaf #[true,true,true,true,true,true,false,false,false,false,false] [6] (by kernel_rfl) (by simp) (qaa.cons' ?_ qaa.nil)
   refine qbo (l':= #[true,true,true,true,true,true,true,false,false,false,false]) rfl ⟨rfl,rfl⟩ _ _ (qdg (cells:= #[.string p.name,.int .i64 p.n0,.int .i64 p.n1,.int .i64 p.n2,.int .i64 p.port,.slice p.labels.a p.labels.L.length p.labels.cap,.slice p.select.a p.select.L.length p.select.cap,.slice p.bears.a p.bears.L.length p.bears.cap,.slice p.near.a p.near.L.length p.near.cap,.slice p.apart.a p.apart.L.length p.apart.cap]) rfl Tryz.underlying104 infoRP (by decide) (by decide) (by kernel_rfl)) (HSS.out _ (.inl (qj (Below.refl _ w1).drew (qi _ _)))) (by kernel_rfl) rfl ?_
   simp only [Act.put,List.setIfInBounds_toArray,List.set_cons_zero,List.set_cons_succ]
   obtain ⟨v',w',hr,Q',K',f'⟩:=queue_append (w:=w1.drew.alloc (.cells #[.string p.name,.int .i64 p.n0,.int .i64 p.n1,.int .i64 p.n2,.int .i64 p.port,.slice p.labels.a p.labels.L.length p.labels.cap,.slice p.select.a p.select.L.length p.select.cap,.slice p.bears.a p.bears.L.length p.bears.cap,.slice p.near.a p.near.L.length p.near.cap,.slice p.apart.a p.apart.L.length p.apart.cap] 45)) ((Hq1.out).kept (Kept.of_below (F:=qq) (qi _ _)) fun _ _=>id) (by omega) p 104 w1.drew.heap.size 1 (fun j u hu=>by rw [qg6,ql (qm _ _)];simpa [PodD.row,PodD.cells,Lst.val] using hu)
   obtain ⟨oa,na,ca,rfl⟩: ∃ oa na ca,v'= .slice oa na ca:=by
    rcases Q' with ⟨h,_⟩| ⟨g,off,cap,cur,h,_⟩
    ·exact ⟨_,_,_,h⟩
    ·exact ⟨_,_,_,h⟩
   refine qaf #[true,true,true,true,true,true,true,false,false,false,false] [7] (by kernel_rfl) (by simp) (qaa.cons' ?_ qaa.nil)
   refine qge (l':= #[true,true,true,true,true,true,true,true,false,false,false]) rfl ⟨rfl,rfl⟩ rfl rfl rfl (by kernel_rfl) ⟨.slice oa na ca,w',hr,HSS.out _ (.inr ⟨_,qj (Below.refl _ w1).drew (qi _ _),K'⟩),?_⟩
   simp only [Act.put,List.setIfInBounds_toArray,List.set_cons_zero,List.set_cons_succ]
   have sw:=K'.size
   have y7w:=(HSS.out _ (.inr ⟨_,qj (Below.refl _ w1).drew (qi _ _),K'⟩)).1
   have lYd:Y < (w1.drew.alloc (.cells #[.string p.name,.int .i64 p.n0,.int .i64 p.n1,.int .i64 p.n2,.int .i64 p.port,.slice p.labels.a p.labels.L.length p.labels.cap,.slice p.select.a p.select.L.length p.select.cap,.slice p.bears.a p.bears.L.length p.bears.cap,.slice p.near.a p.near.L.length p.near.cap,.slice p.apart.a p.apart.L.length p.apart.cap] 45)).heap.size:=by have h9:=Hb1.out.size;simp;omega
   have fz:w'.frozen? ⟨Y,7,none⟩=false:=(K'.frozen (p:=⟨Y,7,none⟩) lYd nY7).trans (((qi w1.drew _).frozen (p:=⟨Y,7,none⟩) (Nat.lt_of_lt_of_le lY0 Hb1.out.size)).trans ((Hb1.out.frozen (p:=⟨Y,7,none⟩) lY0).trans (qp HH0.out.box)))
   have HK':Hid (Kept (fun b=>v7.ownBlock=some b) (w1.drew.alloc (.cells #[.string p.name,.int .i64 p.n0,.int .i64 p.n1,.int .i64 p.n2,.int .i64 p.port,.slice p.labels.a p.labels.L.length p.labels.cap,.slice p.select.a p.select.L.length p.select.cap,.slice p.bears.a p.bears.L.length p.bears.cap,.slice p.near.a p.near.L.length p.near.cap,.slice p.apart.a p.apart.L.length p.apart.cap] 45)) w'):=K'
   have HQ':Hid (qhm w' (.slice oa na ca) (st.waiting++ [p])):=Q'
   have Hf':Hid ((Value.slice oa na ca).ownBlock=v7.ownBlock∨ ∀ k,(Value.slice oa na ca).ownBlock=some k→(w1.drew.alloc (.cells #[.string p.name,.int .i64 p.n0,.int .i64 p.n1,.int .i64 p.n2,.int .i64 p.port,.slice p.labels.a p.labels.L.length p.labels.cap,.slice p.select.a p.select.L.length p.select.cap,.slice p.bears.a p.bears.L.length p.bears.cap,.slice p.near.a p.near.L.length p.near.cap,.slice p.apart.a p.apart.L.length p.apart.cap] 45)).heap.size≤k):=f'
   clear K' Q' f' hr Hq1
   have hHeld:=HSS.out _ (.inr ⟨_,qj (Below.refl _ w1).drew (qi _ _),HK'.out⟩)
   have HS4:Hid ((fun w'=>w'.cell? ⟨Y,7,none⟩=some v7∧w'.cell? ⟨w.heap.size,0,none⟩=some (.string p.name)∧w'.cell? ⟨w.heap.size,1,none⟩=some (.int .i64 p.n0)∧w'.cell? ⟨w.heap.size,2,none⟩=some (.int .i64 p.n1)∧w'.cell? ⟨w.heap.size,3,none⟩=some (.int .i64 p.n2)∧w'.cell? ⟨w.heap.size,4,none⟩=some (.int .i64 p.port)∧w'.cell? ⟨w.heap.size,5,none⟩=some (.slice p.labels.a p.labels.L.length p.labels.cap)∧w'.cell? ⟨w.heap.size,6,none⟩=some (.slice p.select.a p.select.L.length p.select.cap)∧w'.cell? ⟨w.heap.size,7,none⟩=some (.slice p.bears.a p.bears.L.length p.bears.cap)∧w'.cell? ⟨w.heap.size,8,none⟩=some (.slice p.near.a p.near.L.length p.near.cap)∧w'.cell? ⟨w.heap.size,9,none⟩=some (.slice p.apart.a p.apart.L.length p.apart.cap)) w'):=hHeld
   (try dsimp only at hHeld)
   (refine qhr HS4.out 8 (some 25) [9] ?_;simp only [Act.put,pt])
   (refine qhr HS4.out 9 (some 26) [] ?_;simp only [Act.put,pt])
   refine qaf #[true,true,true,true,true,true,true,true,true,true,false] [10] (by kernel_rfl) (by simp) ?_
   refine qaa.cons rfl ?_ qaa.nil
   intro o' ho' K hK
   simp only [List.getElem?_toArray,List.getElem?_cons_succ,List.getElem?_cons_zero,Option.some.injEq] at ho'
   subst ho'
   go_simp
   refine hK.out _ _ (fun h=>absurd rfl h) (fun _=> ?_)
   clear hK K
   refine qfu (by kernel_rfl) ?_ _
   go_wp2
   go_ret
   have hbA:Below w.heap.size w (w1.drew.alloc (.cells #[.string p.name,.int .i64 p.n0,.int .i64 p.n1,.int .i64 p.n2,.int .i64 p.port,.slice p.labels.a p.labels.L.length p.labels.cap,.slice p.select.a p.select.L.length p.select.cap,.slice p.bears.a p.bears.L.length p.bears.cap,.slice p.near.a p.near.L.length p.near.cap,.slice p.apart.a p.apart.L.length p.apart.cap] 45)):=qj HB0.out (qj Hb1.out.drew (qi _ _))
   obtain ⟨q1,q2,q3⟩:=(HH.out.kept (Kept.of_below (F:=qq) hbA) fun _ _=>id).queued HK'.out HQ'.out Hf'.out
   exact ⟨rfl,.slice oa na ca,q1,(Kept.of_below hbA).trans q2 fun _ _ h=>h,fun b h=>(q3 b h).imp id fun h=>Nat.le_trans hbA.size h⟩
 ·have hq:st.queue p=(p.err,st):=by unfold RefD.queue;rw [if_pos h0]
  have h0':(p.err==0)=false:=by simpa using h0
  have h0'':(p.err != 0)=true:=by simpa using h0
  rw [hq]
  go_enter Tryz.func32,Tryz.ntmps32
  go_upto_region 1 with fail
  rw [← hw0]
  clear hw0
  go_wp2_with (first| (go_at_call 50;refine c1.mono ?_;rintro e w1 ⟨rfl,hb1⟩))
  go_ret
  exact ⟨rfl,Hno.out _ hb1⟩
end
section
open Go.RowKit Go.Maps
def RefD.drain (st:RefD):Nat→List qg8×RefD
 | 0=>([],st)
 | n+1=>match st.waiting with
  | []=>([],st)
  | p::r=>((({ st with waiting:=r }:RefD).sched p).1::((({ st with waiting:=r }:RefD).sched p).2.drain n).1,((({ st with waiting:=r }:RefD).sched p).2.drain n).2)
theorem RefD.drain_nil {st:RefD} (h:st.waiting= []): ∀ n,st.drain n=([],st)
 | 0=>rfl
 | n+1=>by unfold RefD.drain;rw [h]
theorem RefD.drain_cons {st:RefD} {p:PodD} {r:List PodD} (h:st.waiting=p::r) (n:Nat):st.drain (n+1)=((({ st with waiting:=r }:RefD).sched p).1::((({ st with waiting:=r }:RefD).sched p).2.drain n).1,((({ st with waiting:=r }:RefD).sched p).2.drain n).2):=by
 conv=>lhs;unfold RefD.drain
 rw [h]
theorem RefD.drain_succ: ∀ (k:Nat) (st:RefD) {p:PodD} {R:List PodD},(st.drain k).1.length=k→(st.drain k).2.waiting=p::R→
  st.drain (k+1)=((st.drain k).1++ [(({ (st.drain k).2 with waiting:=R }:RefD).sched p).1],(({ (st.drain k).2 with waiting:=R }:RefD).sched p).2)
 | 0,st,p,R,_,h=>by
  rw [RefD.drain_cons (st:=st) h]
  rfl
 | k+1,st,p,R,hl,h=>by
  cases hW:st.waiting with
  | nil=>
   rw [RefD.drain_nil hW] at hl
   cases hl
  | cons y T=>
   rw [RefD.drain_cons hW] at hl h
   rw [RefD.drain_cons hW (k+1),RefD.drain_cons hW k]
   have ih:=RefD.drain_succ k (({ st with waiting:=T }:RefD).sched y).2 (p:=p) (R:=R) (by simpa using hl) h
   rw [ih]
   rfl
theorem RefD.drain_stop: ∀ (k n:Nat) (st:RefD),(st.drain k).2.waiting= []→k≤n→st.drain n=st.drain k
 | 0,n,st,h,_=>RefD.drain_nil h n
 | k+1,n,st,h,hn=>by
  cases hW:st.waiting with
  | nil=>rw [RefD.drain_nil hW,RefD.drain_nil hW]
  | cons y T=>
   obtain ⟨n,rfl⟩: ∃ m,n=m+1:=⟨n - 1,by omega⟩
   rw [RefD.drain_cons hW] at h ⊢
   rw [RefD.drain_cons hW,RefD.drain_stop k n _ h (by omega)]
theorem tally_drain: ∀ (n:Nat) (st:RefD),(st.drain n).2.tally≤st.tally
 | 0,st=>Nat.le_refl _
 | n+1,st=>by
  cases hW:st.waiting with
  | nil=>rw [RefD.drain_nil hW];exact Nat.le_refl _
  | cons y T=>
   rw [RefD.drain_cons hW]
   have h1:=tally_drain n (({ st with waiting:=T }:RefD).sched y).2
   have h2:=tally_sched ({ st with waiting:=T }:RefD) y
   have h3:({ st with waiting:=T }:RefD).tally+2=st.tally:=by unfold RefD.tally;rw [hW];simp<;>omega
   dsimp only
   omega
theorem wait_drain: ∀ (n:Nat) (st:RefD),(st.drain n).2.waiting.length+(st.drain n).1.length=st.waiting.length
 | 0,st=>rfl
 | n+1,st=>by
  cases hW:st.waiting with
  | nil=>rw [RefD.drain_nil hW,hW];rfl
  | cons y T=>
   rw [RefD.drain_cons hW]
   have h1:=wait_drain n (({ st with waiting:=T }:RefD).sched y).2
   rw [qho] at h1
   simp at h1 ⊢
   omega
theorem tally_queue (st:RefD) (p:PodD):(st.queue p).2.tally≤st.tally+2:=by
 unfold RefD.queue
 split
 ·dsimp only;omega
 ·split
  ·dsimp only;omega
  ·unfold RefD.tally;simp<;>omega
theorem nodes_sched (st:RefD) (p:PodD):(st.sched p).2.nodes=st.nodes:=by
 have hf:st.fresh.2.nodes=st.nodes:=rfl
 unfold RefD.sched
 split
 ·rfl
 ·split
  ·rfl
  ·unfold RefD.schedIn
   split
   split
   ·exact hf
   ·unfold RefD.lay
    (repeat' split)<;>exact hf
theorem RefD.sound.wait {C:Nat→Prop} {w:World} {st:RefD} (h:st.sound C w) (T:List PodD):({ st with waiting:=T }:RefD).sound C w:=
 ⟨⟨h.wf.hold0,h.wf.hold1,h.wf.now0,h.wf.now1,h.wf.since,h.wf.nodes,h.wf.pods⟩,h.needs,h.rooms,h.nok,h.pok,h.there⟩
theorem drain_keeps {C:Nat→Prop} {w:World}: ∀ (n:Nat) (st:RefD),st.sound C w→st.waits C w→(st.drain n).2.sound C w∧(st.drain n).2.waits C w∧(st.drain n).2.nodes=st.nodes
 | 0,st,S,W=>⟨S,W,rfl⟩
 | n+1,st,S,W=>by
  cases hW:st.waiting with
  | nil=>rw [RefD.drain_nil hW];exact ⟨S,W,rfl⟩
  | cons y T=>
   rw [RefD.drain_cons hW]
   obtain ⟨y1,y2⟩:=W y (by rw [hW];exact List.mem_cons_self)
   have h:=drain_keeps n (({ st with waiting:=T }:RefD).sched y).2 ((S.wait T).sched y y1 y2) (fun p hp=>W p (by rw [qho] at hp;rw [hW];exact List.mem_cons_of_mem _ hp))
   exact ⟨h.1,h.2.1,h.2.2.trans (nodes_sched _ _)⟩
theorem RefD.sound.hin {C:Nat→Prop} {w:World} {st:RefD} (S:st.sound C w): ∀ x∈st.pods,(getL st.N (ky x.node)).isSome=true:=fun x hx=>by
 rw [← N_isSome]
 obtain ⟨i,hi⟩:=S.there x hx
 rw [hi]
 rfl
theorem ref_drain {C:Nat→Prop} {w:World}: ∀ (n:Nat) (st:RefD),qad st.N→st.sound C w→st.waits C w→st.abs.drain n=((st.drain n).1.map qg8.rep,(st.drain n).2.abs)
 | 0,st,_,_,_=>rfl
 | n+1,st,hs,S,W=>by
  cases hW:st.waiting with
  | nil=>
   rw [RefD.drain_nil hW,drain_nil (show st.abs.W= [] from by show st.waiting.map _= [];rw [hW];rfl)]
   rfl
  | cons y T=>
   have hA:st.abs.W=(y.name,y.val)::T.map fun p=>(p.name,p.val):=by show st.waiting.map _=_;rw [hW];rfl
   rw [RefD.drain_cons hW,qe0 hA]
   obtain ⟨y1,y2⟩:=W y (by rw [hW];exact List.mem_cons_self)
   have r:=ref_sched (st:= { st with waiting:=T }) hs (S.wait T).hin (S.wait T).needs y
   have e:({ st.abs with W:=T.map fun p=>(p.name,p.val) }:Abs)=({ st with waiting:=T }:RefD).abs:=rfl
   have ih:=ref_drain n (({ st with waiting:=T }:RefD).sched y).2 (by unfold RefD.N;rw [nodes_sched];exact hs) ((S.wait T).sched y y1 y2) (fun p hp=>W p (by rw [qho] at hp;rw [hW];exact List.mem_cons_of_mem _ hp))
   rw [e]
   dsimp only
   rw [r]
   dsimp only
   rw [ih]
   rfl
end
section
open Go.RowKit Go.Maps
theorem infoRRTd:(Tryz.prog.info? 138).map (fun i=>(i.zero,i.size,i.bytes))=some (some (.agg #[.int .i64 0,.string ⟨#[]⟩,.int .i64 0,.slice none 0 0,.int .i64 0]),5,64):=by kernel_rfl
def rrepRow (x:qg8×Option Addr×Nat):List Value:= [.int .i64 x.1.err,.string x.1.node,.int .i64 x.1.score,.slice x.2.1 x.1.reasons.length x.2.2,.int .i64 x.1.fresh]
structure qhn (F:Nat→Prop) (w w':World) (l:List (qg8×Option Addr×Nat)) (v:Value):Prop where
 row:w'.ownsRow 0 138 5 v l.length (l.flatMap rrepRow)
 new: ∀ b,v.ownBlock=some b→w.heap.size≤b∧ ¬ F b
 rsn: ∀ x∈l,w'.ownsRow 0 165 2 (.slice x.2.1 x.1.reasons.length x.2.2) x.1.reasons.length (x.1.reasons.flatMap qdr)
 rnew: ∀ x∈l,∀ b,(Value.slice x.2.1 x.1.reasons.length x.2.2).ownBlock=some b→w.heap.size≤b∧ ¬ F b
theorem qhn.kept {F F' G:Nat→Prop} {w w1 w2:World} {l:List (qg8×Option Addr×Nat)} {v:Value} (R:qhn F w w1 l v) (hk:Kept G w1 w2) (hG: ∀ b,G b→b < w1.heap.size→F b∨b < w.heap.size) (hF: ∀ b,F' b→F b∨w1.heap.size≤b):qhn F' w w2 l v:=by
 have hr: ∀ {e:TypeId} {s n:Nat} {u:Value} {xs:List Value},w1.ownsRow 0 e s u n xs→(∀ b,u.ownBlock=some b→w.heap.size≤b∧ ¬ F b)→w2.ownsRow 0 e s u n xs∧ ∀ b,u.ownBlock=some b→w.heap.size≤b∧ ¬ F' b:=by
  intro e s n u xs h hn
  refine ⟨hk.ownsRow h fun b hb g=> ?_,fun b hb=>⟨(hn b hb).1,fun hf=> ?_⟩⟩
  ·have:=hn b hb
   rcases hG b g (h.lt b hb).2 with h| h
   ·exact this.2 h
   ·omega
  ·rcases hF b hf with h'| h'
   ·exact (hn b hb).2 h'
   ·have:=(h.lt b hb).2
    omega
 exact ⟨(hr R.row R.new).1,(hr R.row R.new).2,fun x hx=>(hr (R.rsn x hx) (R.rnew x hx)).1,fun x hx=>(hr (R.rsn x hx) (R.rnew x hx)).2⟩
theorem qhn.add {F:Nat→Prop} {w w1 w2:World} {l:List (qg8×Option Addr×Nat)} {v v':Value} (R:qhn F w w1 l v) (hs:w.heap.size≤w1.heap.size) (hlt: ∀ b,F b→b < w1.heap.size) {x:qg8×Option Addr×Nat} (hr:w1.ownsRow 0 165 2 (.slice x.2.1 x.1.reasons.length x.2.2) x.1.reasons.length (x.1.reasons.flatMap qdr)) (hn: ∀ b,(Value.slice x.2.1 x.1.reasons.length x.2.2).ownBlock=some b→w.heap.size≤b∧ ¬ F b)
  (r:w2.ownsRow 0 138 5 v' (l.length+1) (l.flatMap rrepRow++rrepRow x)) (g:w1.grownBy w2 v.ownBlock) (f:v'.ownBlock=v.ownBlock∨ ∀ k,v'.ownBlock=some k→w1.heap.size≤k):qhn F w w2 (l++ [x]) v'∧Kept (fun b=>v.ownBlock=some b) w1 w2:=by
 have K:Kept (fun b=>v.ownBlock=some b) w1 w2:=(Kept.refl _ _).grown g fun k hk _=>hk
 have ap: ∀ {u:Value} {n:Nat} {xs:List Value},w1.ownsRow 0 165 2 u n xs→w2.ownsRow 0 165 2 u n xs:=fun h=>K.ownsRow h fun b hb e=>qce h R.row (by decide) hb e
 refine ⟨⟨?_,fun b h=> ?_,fun y hy=> ?_,fun y hy=> ?_⟩,K⟩
 ·rw [List.length_append,List.length_singleton,List.flatMap_append]
  simpa using r
 ·rcases f with f| f
  ·exact R.new b (by rw [← f];exact h)
  ·have:=f b h
   exact ⟨by omega,fun hf=>by have:=hlt b hf;omega⟩
 ·rcases List.mem_append.1 hy with hy| hy
  ·exact ap (R.rsn y hy)
  ·rw [List.mem_singleton] at hy
   subst hy
   exact ap hr
 ·rcases List.mem_append.1 hy with hy| hy
  ·exact R.rnew y hy
  ·rw [List.mem_singleton] at hy
   subst hy
   exact hn
theorem qhm.take {w:World} {v:Value} {p:PodD} {R:List PodD} (H:qhm w v (p::R)): ∃ g off cap,v= .slice (some ⟨g,off,none⟩) (R.length+1) (cap+1)∧(∀ j u,p.row[j]? =some u→w.cell? ⟨g,off+j,none⟩=some u)∧qhm w (.slice (if cap=0 then some ⟨g,off,none⟩ else some ⟨g,off+10,none⟩) R.length cap) R∧R.length≤cap:=by
 rcases H with ⟨_,h⟩| ⟨g,off,cap,cur,rfl,hg,h1,h2,h3,h4⟩
 ·cases h
 ·simp only [List.length_cons] at h1 h4
  obtain ⟨cap,rfl⟩: ∃ m,cap=m+1:=⟨cap - 1,by omega⟩
  have hrow:p.row.length=10:=rfl
  refine ⟨g,off,cap,rfl,fun j u hu=> ?_,?_,by omega⟩
  ·have hj:j < 10:=by rw [← hrow];exact (List.getElem?_eq_some_iff.1 hu).1
   have h5:((cur.toList.drop off).take ((R.length+1) * 10))[j]? =some u:=by rw [h4,List.flatMap_cons,List.getElem?_append_left (by omega)];exact hu
   rw [List.getElem?_take_of_lt (by omega),List.getElem?_drop] at h5
   rw [ql hg,← Array.getElem?_toList]
   exact h5
  ·by_cases hc:cap=0
   ·subst hc
    obtain rfl:R= []:=List.eq_nil_of_length_eq_zero (by omega)
    exact .inr ⟨g,off,0,cur,rfl,hg,Nat.le_refl _,by omega,by omega,by simp⟩
   ·rw [if_neg hc]
    refine .inr ⟨g,off+10,cap,cur,rfl,hg,by omega,by omega,by omega,?_⟩
    have h5:=congrArg (List.drop 10) h4
    have h6:(p.row++R.flatMap PodD.row).drop 10=R.flatMap PodD.row:=List.drop_left' hrow
    rw [List.flatMap_cons,h6,List.drop_take,List.drop_drop] at h5
    rw [← h5,show (R.length+1) * 10 - 10=R.length * 10 from by omega]
theorem rdrain_any (C:Nat→Prop) (Y:Nat) (st:RefD) (v4 v5 v6 v7:Value) (w:World) (H:qbc w Y st v4 v5 v6 v7) (hS:st.sound C w) (hW:st.waits C w) (hCF: ∀ b,C b→ ¬ qau Y v4 v5 v6 v7 b) (hCl: ∀ b,C b→b < w.heap.size) (ht:st.tally≤8000000000000) (hw:st.waiting.length≤128) (n:Int) (hn: -9223372036854775808≤n∧n≤9223372036854775807):
  Calls Tryz.prog 62 #[.pointer (some ⟨Y,0,none⟩),.int .i64 n] w fun e w'=> ∃ l oo oc,e= .returned (.slice oo l.length oc)∧l.map (·.1)=(st.drain n.toNat).1∧ ∃ u4 u5 u6 u7,qbc w' Y (st.drain n.toNat).2 u4 u5 u6 u7∧Kept (qau Y v4 v5 v6 v7) w w'∧(∀ b,qau Y u4 u5 u6 u7 b→qau Y v4 v5 v6 v7 b∨w.heap.size≤b)∧qhn (qau Y u4 u5 u6 u7) w w' l (.slice oo l.length oc):=by
 obtain ⟨i0,hi,hz0,hz1,hz2⟩:=info_parts infoRRTd
 have HK:Hid (∀ k,(st.drain k).2.sound C w∧(st.drain k).2.waits C w∧(st.drain k).2.nodes=st.nodes):=fun k=>drain_keeps k st hS hW
 have HT:Hid (∀ k,(st.drain k).2.tally≤8000000000000):=fun k=>Nat.le_trans (tally_drain k st) ht
 have HC:Hid ((∀ b,C b→ ¬ qau Y v4 v5 v6 v7 b)∧ ∀ b,C b→b < w.heap.size):=⟨hCF,hCl⟩
 have HH:Hid (qbc w Y st v4 v5 v6 v7):=H
 clear H hS hW hCF hCl ht
 go_enter Tryz.func62,Tryz.ntmps62
 go_wp2
 go_loopw [1,5] (fun nv ov wr=> ∃ (k:Nat) (l:List (qg8×Option Addr×Nat)) (oo:Option Addr) (oc:Nat) (u4 u5 u6 u7:Value),nv= .int .i64 (n - (k:Int))∧ov= .slice oo k oc∧l.length=k∧l.map (·.1)=(st.drain k).1∧k≤n.toNat∧(st.drain k).2.waiting.length+k=st.waiting.length∧qbc wr Y (st.drain k).2 u4 u5 u6 u7∧Kept (qau Y v4 v5 v6 v7) w wr∧(∀ b,qau Y u4 u5 u6 u7 b→qau Y v4 v5 v6 v7 b∨w.heap.size≤b)∧qhn (qau Y u4 u5 u6 u7) w wr l (.slice oo k oc)) (fun nv _ _=>(intOf nv).toNat)
 case atStart=>exact ⟨0,[],none,0,v4,v5,v6,v7,by simp,rfl,rfl,rfl,Nat.zero_le _,rfl,HH.out,Kept.refl _ _,fun b h=> .inl h,⟨World.ownsRow_nil _ _ _ _,by simp [Value.ownBlock],by simp,by simp⟩⟩
 case round=>
  clear HH
  obtain ⟨k,l,oo,oc,u4,u5,u6,u7,rfl,rfl,hlk,hld,hkn,hWk,hR,hKp,hu,hRp⟩:=hrel
  have HR:Hid (qbc wr Y (st.drain k).2 u4 u5 u6 u7):=hR
  have HKp:Hid (Kept (qau Y v4 v5 v6 v7) w wr):=hKp
  have HU:Hid (∀ b,qau Y u4 u5 u6 u7 b→qau Y v4 v5 v6 v7 b∨w.heap.size≤b):=hu
  have HRp:Hid (qhn (qau Y u4 u5 u6 u7) w wr l (.slice oo k oc)):=hRp
  have HD:Hid (l.length=k∧l.map (·.1)=(st.drain k).1∧k≤n.toNat∧(st.drain k).2.waiting.length+k=st.waiting.length):=⟨hlk,hld,hkn,hWk⟩
  have hk128:k≤128:=by omega
  have hYr:=qo hR.box
  have hQ:=hR.r7
  have y7:wr.cell? ⟨Y,7,none⟩=some u7:=by rw [ql hR.box];rfl
  clear hlk hld hWk hRp hKp hu hw
  by_cases hlt:(k:Int) < n
  ·have hlt':0 < n - (k:Int):=by omega
   cases hW:(st.drain k).2.waiting with
   | nil=>
    rw [hW] at hQ
    obtain ⟨oq,cq,rfl⟩: ∃ oq cq,u7= .slice oq 0 cq:=by
     rcases hQ with ⟨h,_⟩| ⟨g,off,cap,cur,h,_⟩
     ·exact ⟨_,_,h⟩
     ·exact ⟨_,_,h⟩
    have HW:Hid _:=hW
    clear hW hQ hR
    go_wp2
    go_ret
    obtain ⟨h1,h2,h3,h4⟩:=HD.out
    subst h1
    rw [RefD.drain_stop _ n.toNat st HW.out h3]
    exact ⟨l,oo,oc,rfl,h2,u4,u5,u6,_,HR.out,HKp.out,HU.out,HRp.out⟩
   | cons p R=>
    rw [hW] at hQ
    obtain ⟨g,off,cap,rfl,hcell,hQ',hcap⟩:=hQ.take
    obtain ⟨pok,ppC⟩:=(HK.out k).2.1 p (by rw [hW];exact List.mem_cons_self)
    have HW:Hid _:=hW
    have c0:wr.cell? ⟨g,off,none⟩=some (.string p.name):=hcell 0 _ rfl
    have c1:wr.cell? ⟨g,off+1,none⟩=some (.int .i64 p.n0):=hcell 1 _ rfl
    have c2:wr.cell? ⟨g,off+2,none⟩=some (.int .i64 p.n1):=hcell 2 _ rfl
    have c3:wr.cell? ⟨g,off+3,none⟩=some (.int .i64 p.n2):=hcell 3 _ rfl
    have c4:wr.cell? ⟨g,off+4,none⟩=some (.int .i64 p.port):=hcell 4 _ rfl
    have c5:wr.cell? ⟨g,off+5,none⟩=some (.slice p.labels.a p.labels.L.length p.labels.cap):=hcell 5 _ rfl
    have c6:wr.cell? ⟨g,off+6,none⟩=some (.slice p.select.a p.select.L.length p.select.cap):=hcell 6 _ rfl
    have c7:wr.cell? ⟨g,off+7,none⟩=some (.slice p.bears.a p.bears.L.length p.bears.cap):=hcell 7 _ rfl
    have c8:wr.cell? ⟨g,off+8,none⟩=some (.slice p.near.a p.near.L.length p.near.cap):=hcell 8 _ rfl
    have c9:wr.cell? ⟨g,off+9,none⟩=some (.slice p.apart.a p.apart.L.length p.apart.cap):=hcell 9 _ rfl
    obtain ⟨W0,hW0⟩: ∃ V,V=wr.alloc (.cells #[.string p.name,.int .i64 p.n0,.int .i64 p.n1,.int .i64 p.n2,.int .i64 p.port,.slice p.labels.a p.labels.L.length p.labels.cap,.slice p.select.a p.select.L.length p.select.cap,.slice p.bears.a p.bears.L.length p.bears.cap,.slice p.near.a p.near.L.length p.near.cap,.slice p.apart.a p.apart.L.length p.apart.cap] 45):=⟨_,rfl⟩
    have hb0:Below wr.heap.size wr W0:=by rw [hW0];exact qi _ _
    have lz:wr.heap.size < W0.heap.size:=by rw [hW0];simp
    have nz: ¬ qau Y u4 u5 u6 (.slice (some ⟨g,off,none⟩) (R.length+1) (cap+1)) wr.heap.size:=fun h=>Nat.lt_irrefl _ (hR.footLt h)
    have y70:=(hb0.cell (p:=⟨Y,7,none⟩) hYr).trans y7
    have f70:W0.frozen? ⟨Y,7,none⟩=false:=(hb0.frozen (p:=⟨Y,7,none⟩) hYr).trans (qp hR.box)
    obtain ⟨q1,q2,q3⟩:=(hR.kept (Kept.of_below (F:=qq) hb0) fun _ _=>id).queued (Kept.refl _ _) (hQ'.kept (Kept.of_below (F:=qq) hb0) fun _ _=>id) (.inl (by split<;>rfl))
    obtain ⟨W1,hW1⟩: ∃ V,V=W0.setCell ⟨Y,7,none⟩ (.slice (if cap=0 then some ⟨g,off,none⟩ else some ⟨g,off+10,none⟩) R.length cap):=⟨_,rfl⟩
    rw [← hW1] at q1 q2
    have b0:W1.cell? ⟨wr.heap.size,0,none⟩=some (.string p.name):=(q2.cell (p:=⟨wr.heap.size,0,none⟩) lz nz).trans (by rw [hW0,ql (qm _ _)];rfl)
    have b1:W1.cell? ⟨wr.heap.size,1,none⟩=some (.int .i64 p.n0):=(q2.cell (p:=⟨wr.heap.size,1,none⟩) lz nz).trans (by rw [hW0,ql (qm _ _)];rfl)
    have b2:W1.cell? ⟨wr.heap.size,2,none⟩=some (.int .i64 p.n1):=(q2.cell (p:=⟨wr.heap.size,2,none⟩) lz nz).trans (by rw [hW0,ql (qm _ _)];rfl)
    have b3:W1.cell? ⟨wr.heap.size,3,none⟩=some (.int .i64 p.n2):=(q2.cell (p:=⟨wr.heap.size,3,none⟩) lz nz).trans (by rw [hW0,ql (qm _ _)];rfl)
    have b4:W1.cell? ⟨wr.heap.size,4,none⟩=some (.int .i64 p.port):=(q2.cell (p:=⟨wr.heap.size,4,none⟩) lz nz).trans (by rw [hW0,ql (qm _ _)];rfl)
    have b5:W1.cell? ⟨wr.heap.size,5,none⟩=some (.slice p.labels.a p.labels.L.length p.labels.cap):=(q2.cell (p:=⟨wr.heap.size,5,none⟩) lz nz).trans (by rw [hW0,ql (qm _ _)];rfl)
    have b6:W1.cell? ⟨wr.heap.size,6,none⟩=some (.slice p.select.a p.select.L.length p.select.cap):=(q2.cell (p:=⟨wr.heap.size,6,none⟩) lz nz).trans (by rw [hW0,ql (qm _ _)];rfl)
    have b7:W1.cell? ⟨wr.heap.size,7,none⟩=some (.slice p.bears.a p.bears.L.length p.bears.cap):=(q2.cell (p:=⟨wr.heap.size,7,none⟩) lz nz).trans (by rw [hW0,ql (qm _ _)];rfl)
    have b8:W1.cell? ⟨wr.heap.size,8,none⟩=some (.slice p.near.a p.near.L.length p.near.cap):=(q2.cell (p:=⟨wr.heap.size,8,none⟩) lz nz).trans (by rw [hW0,ql (qm _ _)];rfl)
    have b9:W1.cell? ⟨wr.heap.size,9,none⟩=some (.slice p.apart.a p.apart.L.length p.apart.cap):=(q2.cell (p:=⟨wr.heap.size,9,none⟩) lz nz).trans (by rw [hW0,ql (qm _ _)];rfl)
    have KW:Kept (qau Y v4 v5 v6 v7) w W1:=HKp.out.trans ((Kept.of_below hb0).trans q2 fun _ _ h=>h) fun b hb h=>(HU.out b h).elim id fun h=>by omega
    have hU1: ∀ b,qau Y u4 u5 u6 (.slice (if cap=0 then some ⟨g,off,none⟩ else some ⟨g,off+10,none⟩) R.length cap) b→qau Y v4 v5 v6 v7 b∨w.heap.size≤b:=fun b h=>(q3 b h).elim (HU.out b) fun h=> .inr (Nat.le_trans (Nat.le_trans HKp.out.size hb0.size) h)
    have hs1:=KW.size
    have cS:=sched_any C Y ({ (st.drain k).2 with waiting:=R }:RefD) u4 u5 u6 (.slice (if cap=0 then some ⟨g,off,none⟩ else some ⟨g,off+10,none⟩) R.length cap) p W1 q1 (((HK.out k).1.wait R).kept KW HC.out.1) (fun b hc h=>(hU1 b h).elim (HC.out.1 b hc) fun h=>absurd (HC.out.2 b hc) (Nat.not_lt.2 h)) (pok.kept ppC KW HC.out.1) ppC (fun b hc=>Nat.lt_of_lt_of_le (HC.out.2 b hc) hs1) (by have h:=HT.out k;unfold RefD.tally at h;show (st.drain k).2.touched.length < _;omega)
    obtain ⟨rp,sn,hra⟩: ∃ rp sn,({ (st.drain k).2 with waiting:=R }:RefD).sched p=(rp,sn):=⟨_,_,rfl⟩
    rw [hra] at cS
    have HRA:Hid _:=hra
    dsimp only at cS
    unfold PodD.cells Lst.val at cS
    have HRW:Hid (qhn (qau Y u4 u5 u6 (.slice (if cap=0 then some ⟨g,off,none⟩ else some ⟨g,off+10,none⟩) R.length cap)) w W1 l (.slice oo k oc)):=HRp.out.kept ((Kept.of_below hb0).trans q2 fun _ _ h=>h) (fun b h _=> .inl h) (fun b h=>(q3 b h).imp id fun h=>Nat.le_trans hb0.size h)
    have HKW:Hid (Kept (qau Y v4 v5 v6 v7) w W1):=KW
    have HU1:Hid (∀ b,qau Y u4 u5 u6 (.slice (if cap=0 then some ⟨g,off,none⟩ else some ⟨g,off+10,none⟩) R.length cap) b→qau Y v4 v5 v6 v7 b∨w.heap.size≤b):=hU1
    have lY1:Y < W1.heap.size:=qo q1.box
    clear hra hW hQ hQ' hR hcell pok ppC q1 q2 q3 hb0 nz KW hU1
    go_upto_region 4 with fail
    rw [← hW0]
    clear hW0
    go_upto_region 5 with fail
    rw [← hW1]
    clear hW1 y70 f70
    go_wp2_with (first
     | (go_at_call 54;refine cS.mono ?_;rintro e w4 ⟨rv,t4,t5,t6,t7,rfl,h1,h2,R4,K4,hu4⟩;obtain ⟨ro,rc,rfl⟩:=qv h1;have HAl:Hid (Below w4.heap.size w4 ((w4.alloc (.cells #[.int .i64 rp.err,.string rp.node,.int .i64 rp.score,.slice ro rp.reasons.length rc,.int .i64 rp.fresh] 138)).alloc (.cells #[.int .i64 rp.err,.string rp.node,.int .i64 rp.score,.slice ro rp.reasons.length rc,.int .i64 rp.fresh] 138))):=qj (qi _ _) (qi _ _);have HRP:Hid (qhn (qau Y t4 t5 t6 t7) w ((w4.alloc (.cells #[.int .i64 rp.err,.string rp.node,.int .i64 rp.score,.slice ro rp.reasons.length rc,.int .i64 rp.fresh] 138)).alloc (.cells #[.int .i64 rp.err,.string rp.node,.int .i64 rp.score,.slice ro rp.reasons.length rc,.int .i64 rp.fresh] 138)) l (.slice oo k oc)):=(HRW.out.kept K4 (fun b h _=> .inl h) (fun b h=>hu4 b h)).kept (Kept.of_below (F:=qq) HAl.out) (fun _ h _=>h.elim) (fun _ h=> .inl h);have HROW:Hid (((w4.alloc (.cells #[.int .i64 rp.err,.string rp.node,.int .i64 rp.score,.slice ro rp.reasons.length rc,.int .i64 rp.fresh] 138)).alloc (.cells #[.int .i64 rp.err,.string rp.node,.int .i64 rp.score,.slice ro rp.reasons.length rc,.int .i64 rp.fresh] 138)).ownsRow 0 138 5 (.slice oo k oc) k (l.flatMap rrepRow)):=(by have:=HRP.out.row;rw [HD.out.1] at this;exact this);have HF5:Hid (∀ j u,[Value.int .i64 rp.err,Value.string rp.node,Value.int .i64 rp.score,Value.slice ro rp.reasons.length rc,Value.int .i64 rp.fresh][j]? =some u→((w4.alloc (.cells #[.int .i64 rp.err,.string rp.node,.int .i64 rp.score,.slice ro rp.reasons.length rc,.int .i64 rp.fresh] 138)).alloc (.cells #[.int .i64 rp.err,.string rp.node,.int .i64 rp.score,.slice ro rp.reasons.length rc,.int .i64 rp.fresh] 138)).cell? ((⟨w4.heap.size+1,0,none⟩:Addr).add j)=some u):=(fun j u hu=>by rw [← show (w4.alloc (.cells #[.int .i64 rp.err,.string rp.node,.int .i64 rp.score,.slice ro rp.reasons.length rc,.int .i64 rp.fresh] 138)).heap.size=w4.heap.size+1 from by simp];exact five_at _ _ _ _ _ _ _ j u hu);have HR4:Hid (qbc w4 Y sn t4 t5 t6 t7):=R4;have HK4:Hid (Kept (qau Y u4 u5 u6 (.slice (if cap=0 then some ⟨g,off,none⟩ else some ⟨g,off+10,none⟩) R.length cap)) W1 w4):=K4;have Hu4:Hid _:=hu4;have Hr4:Hid _:=And.intro h1 h2;clear R4 K4 hu4 h1 h2)
     | (at_builtin;refine qy _ rfl (.tmp 35) (.tmp 37) 146 rfl 138 i0 _ 5 64 Tryz.underlying146 hi hz0 hz1 hz2 rfl (by decide) (.slice oo k oc) k _ rfl HROW.out ⟨w4.heap.size+1,0,none⟩ 1 1 [.int .i64 rp.err,.string rp.node,.int .i64 rp.score,.slice ro rp.reasons.length rc,.int .i64 rp.fresh] rfl rfl HF5.out (fun u hu=>by simp at hu;rcases hu with rfl| rfl| rfl| rfl| rfl<;>rfl) (by unfold maxLen;omega) (by omega) ?_;intro ao5 cap5 w5 r5 g5 f5))
    go_roundw
    case measure=>simp [intOf];omega
    case rel=>
     obtain ⟨h1,h2,h3,h4⟩:=HD.out
     obtain ⟨r1,r2⟩:=Hr4.out
     have hs4:=HK4.out.size
     have hsA:=HAl.out.size
     have hdl:(st.drain k).1.length=k:=by rw [← h2,List.length_map];exact h1
     have hDS:=RefD.drain_succ k st hdl HW.out
     rw [HRA.out] at hDS
     obtain ⟨RP,K5⟩:=HRP.out.add (x:=(rp,ro,rc)) (v':= .slice ao5 (k+1) cap5) (by omega) (fun b hb=>Nat.lt_of_lt_of_le (HR4.out.footLt hb) hsA) ((Kept.of_below (F:=qq) HAl.out).ownsRow r1 fun _ _=>id) (fun b hb=>⟨Nat.le_trans hs1 (r2 b hb).1,(r2 b hb).2⟩) (by rw [h1];exact r5) g5 f5
     have R6:=(HR4.out.kept (Kept.of_below (F:=qq) HAl.out) fun _ _=>id).kept K5 fun b hf h=>(HRP.out.new b h).2 hf
     have hsn:sn.waiting=R:=by
      have:=qho ({ (st.drain k).2 with waiting:=R }:RefD) p
      rw [HRA.out] at this
      exact this
     have hk1:k+1≤n.toNat:=by omega
     refine ⟨k+1,l++ [(rp,ro,rc)],ao5,cap5,t4,t5,t6,t7,by go_num,rfl,by rw [List.length_append,h1];rfl,?_,hk1,?_,by rw [hDS];exact R6,?_,?_,RP⟩
     ·rw [hDS,List.map_append,h2]
      rfl
     ·rw [hDS]
      rw [HW.out,List.length_cons] at h4
      show sn.waiting.length+_=_
      rw [hsn]
      omega
     ·exact ((HKW.out.trans HK4.out fun b hb h=>(HU1.out b h).elim id fun h=>by omega).trans (Kept.of_below (F:=qq) HAl.out) fun b _ h=>h.elim).trans K5 fun b hb h=>absurd hb (Nat.not_lt.2 (HRP.out.new b h).1)
     ·exact fun b h=>(Hu4.out b h).elim (HU1.out b) fun h=> .inr (Nat.le_trans hs1 h)
  ·have hkn':k=n.toNat:=by omega
   have hlt': ¬ 0 < n - (k:Int):=by omega
   clear hR hQ
   go_wp2
   go_ret
   obtain ⟨h1,h2,h3,h4⟩:=HD.out
   subst h1
   rw [← hkn']
   exact ⟨l,oo,oc,rfl,h2,u4,u5,u6,u7,HR.out,HKp.out,HU.out,HRp.out⟩
end
end Go.Proofs.YtchddaafibjmgaaGreat
