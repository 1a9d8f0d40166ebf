import Derived.Test.YtchddaafibjmgaaGreatMD8
set_option maxRecDepth 100000
set_option maxHeartbeats 20000000
namespace Go.Proofs.YtchddaafibjmgaaGreat
section
open Go.RowKit
attribute [local go_sem] Go.wp_at_zero Go.wp_at_succ
theorem sched_in (C:Nat→Prop) (Y:Nat) (st:RefD) (v4 v5 v6 v7:Value) (p:PodD) (w:World) (H:qbc w Y st v4 v5 v6 v7) (hS:st.sound C w) (hCF: ∀ b,C b→ ¬ qau Y v4 v5 v6 v7 b) (hok:p.ok w) (hpC: ∀ x∈p.lists,x.inC C) (hCl: ∀ b,C b→b < w.heap.size)
  (ht:st.touched.length < 8796093022000) (h0:p.err=0) (h1:st.admits p.name=0):
  Calls Tryz.prog 54 #[.pointer (some ⟨Y,0,none⟩),.agg p.cells] w fun e w'=>qem w w' Y (st.sched p).2 (st.sched p).1 v4 v5 v6 v7 e:=by
 have HE:Hid (st.sched p=st.fresh.2.schedIn p st.fresh.1):=by show st.sched p=_;simp [RefD.sched,h0,h1]
 have hp:=hS.wf.pods
 have hn:=hS.wf.nodes
 obtain ⟨p0,p1,p2⟩:=PodD.amounts h0
 have HS1:Hid (st.fresh.2.sound C w):=hS.fresh
 have HCF:Hid (∀ b,C b→ ¬ qau Y v4 v5 v6 v7 b):=hCF
 have hfn:st.fresh.2.nodes=st.nodes:=rfl
 have hfp:st.fresh.2.pods=st.pods:=rfl
 have hft:st.fresh.2.touched= []:=rfl
 have hW:=fun o o'=>qj (qi w o) (qi (w.alloc o) o')
 have c1:=fun o o'=>qhq p ((w.alloc o).alloc o') (hok.below (hW o o'))
 have hb: ∀ w1:World,Below w.heap.size w w1→qbc w1 Y st v4 v5 v6 v7:=fun w1 hb=>H.kept (Kept.of_below (F:=qq) hb) fun _ _=>id
 have c3:=fun w1 hb1=>admits_any Y st v4 v5 v6 v7 p w1 (hb w1 hb1) (by omega)
 have c4:=fun w1 hb1=>fresh_any Y st v4 v5 v6 v7 w1 (hb w1 hb1) (by omega) ht
 rw [h0] at c1
 rw [h1] at c3
 obtain ⟨fr,st1,hF⟩: ∃ fr st1,st.fresh=(fr,st1):=⟨_,_,rfl⟩
 rw [hF] at HE HS1 hfn hfp hft c4
 dsimp only at HE HS1 hfn hfp hft c4
 have ht1:st1.touched.length < 8796093022207:=by rw [hft];simp
 have hn1:st1.nodes.length≤32:=by rw [hfn];exact hn
 have hp1:st1.pods.length≤128:=by rw [hfp];exact hp
 have HF:Hid (st.fresh=(fr,st1)):=hF
 clear h0 h1 hF hCF hS hfn hfp hft hn hp
 have Hb:Hid (∀ w1:World,Below w.heap.size w w1→qbc w1 Y st v4 v5 v6 v7):=hb
 clear hb
 unfold PodD.cells Lst.val at c1 c3
 unfold PodD.cells Lst.val
 go_enter Tryz.func54,Tryz.ntmps54
 go_wp2_with (first
  | (go_at_call 50;refine (c1 _ _).mono ?_;rintro e w1 ⟨rfl,hb1⟩;have z1:=hb1.size;have hB1:=qj (hW _ _) hb1;have r0:=fun o=>hb1.cell (p:=⟨w.heap.size,o,none⟩) (by simp;omega);have r1:=fun o=>hb1.cell (p:=⟨w.heap.size+1,o,none⟩) (by simp);have r2:=fun o=>hb1.frozen (p:=⟨w.heap.size+1,o,none⟩) (by simp))
  | (go_at_call 51;refine (c3 w1 hB1).mono ?_;rintro e w2 ⟨rfl,hb2⟩;have hB2:=qj hB1 hb2)
  | (go_at_call 74;refine (c4 w2 hB2).mono ?_;rintro e w3 ⟨rfl,x4,x5,x6,x7,H3,K3,hf3⟩))
 clear c1 c3 c4 r0 r1 r2
 have Hhok:Hid (p.ok w):=hok
 have HhpC:Hid (∀ x∈p.lists,x.inC C):=hpC
 have HhCl:Hid (∀ b,C b→b < w.heap.size):=hCl
 have hfl: ∀ b,qau Y v4 v5 v6 v7 b→b < w.heap.size:=fun b hb=>H.footLt hb
 have z12:w.heap.size+1 < w1.heap.size:=Nat.lt_of_lt_of_le (by simp) hb1.size
 have z23:w.heap.size+1 < w2.heap.size:=Nat.lt_of_lt_of_le z12 hb2.size
 have z3:w.heap.size+1 < w3.heap.size:=Nat.lt_of_lt_of_le z23 K3.size
 have hP3:Hid (w3.heap[w.heap.size]? =some (.cells #[.string p.name,.int .i64 p.n0,.int .i64 p.n1,.int .i64 p.n2,.int .i64 p.port,.slice p.labels.a p.labels.L.length p.labels.cap,.slice p.select.a p.select.L.length p.select.cap,.slice p.bears.a p.bears.L.length p.bears.cap,.slice p.near.a p.near.L.length p.near.cap,.slice p.apart.a p.apart.L.length p.apart.cap] 45 (0,0))):=by
  show _=_
  rw [K3.block _ (by omega) (fun h=>by have:=hfl _ h;omega),hb2.block _ (by omega),hb1.block _ (by simp;omega),Below.heap_alloc _ _ _ (by simp)]
  exact qm _ _
 have hR3:Hid (w3.heap[w.heap.size+1]? =some (.cells #[.int .i64 0,.string ⟨#[]⟩,.int .i64 0,.slice none 0 0,.int .i64 0] 138 (0,0))):=by
  show _=_
  rw [K3.block _ (by omega) (fun h=>by have:=hfl _ h;omega),hb2.block _ (by omega),hb1.block _ (by simp)]
  have:=qm (w.alloc (.cells #[.string p.name,.int .i64 p.n0,.int .i64 p.n1,.int .i64 p.n2,.int .i64 p.port,.slice p.labels.a p.labels.L.length p.labels.cap,.slice p.select.a p.select.L.length p.select.cap,.slice p.bears.a p.bears.L.length p.bears.cap,.slice p.near.a p.near.L.length p.near.cap,.slice p.apart.a p.apart.L.length p.apart.cap] 45)) (.cells #[.int .i64 0,.string ⟨#[]⟩,.int .i64 0,.slice none 0 0,.int .i64 0] 138)
  simpa using this
 have K03:Kept (qau Y v4 v5 v6 v7) w w3:=(Kept.of_below hB2).trans K3 (fun _ _ h=>h)
 have Hf3:Hid (∀ b,qau Y x4 x5 x6 x7 b→qau Y v4 v5 v6 v7 b∨w2.heap.size≤b):=hf3
 have Hfl:Hid (∀ b,qau Y v4 v5 v6 v7 b→b < w.heap.size):=hfl
 clear hok hpC hCl hW hb1 hb2 z1 hf3 hfl ht
 obtain ⟨i1,hi1,hz10,hz11,hz12⟩:=info_parts Tryz.infoReason
 obtain ⟨a4,cp4,rfl⟩:=qv H3.r4
 go_loopg [7,8,9] st1.nodes.length (fun gk l b i wr=> ∃ k:Nat,k≤st1.nodes.length∧gk=st1.nodes.length - k∧i= .int .i64 k∧b= .int .i64 (qah st1 p k).2.1∧ ∃ ao cap,l= .slice ao (qah st1 p k).1.length cap∧
   BuiltB w3.heap.size (w3.alloc (.cells #[.int .i64 0,.string ⟨#[]⟩,.int .i64 0,.slice none 0 0,.int .i64 fr] 138)) wr 165 2 l (qah st1 p k).1.length ((qah st1 p k).1.flatMap qdr)∧wr.heap[w3.heap.size]? =some (.cells #[.int .i64 0,.string ⟨#[]⟩,.int .i64 (qah st1 p k).2.2,.slice none 0 0,.int .i64 fr] 138 (0,0)))
 case atStart=>exact ⟨0,Nat.zero_le _,rfl,rfl,rfl,none,0,rfl,⟨World.ownsRow_nil _ _ _ _,Kept.refl _ _,fun k hk=>by simp [Value.ownBlock] at hk⟩,qm _ _⟩
 case round=>
  obtain ⟨k,hk,hgk,rfl,rfl,ao,cap,rfl,hB,hbox⟩:=hrel
  have Hgk:Hid (gk=st1.nodes.length - k):=hgk
  have Hbox:Hid (wr.heap[w3.heap.size]? =some (.cells #[.int .i64 0,.string ⟨#[]⟩,.int .i64 (qah st1 p k).2.2,.slice none 0 0,.int .i64 fr] 138 (0,0))):=hbox
  clear hgk hbox
  have K3r:Kept (fun b=>b=w3.heap.size) w3 wr:=((Kept.refl _ w3).alloc (.cells #[.int .i64 0,.string ⟨#[]⟩,.int .i64 0,.slice none 0 0,.int .i64 fr] 138)).trans hB.2.1 (fun _ _ h=>h)
  have H4:=H3.kept K3r (fun b hb e=>by have:=H3.footLt hb;omega)
  have Kr:Kept (fun b=>qau Y v4 v5 v6 v7 b∨b=w3.heap.size) w wr:=(K03.mono (fun _ _ h=> .inl h)).trans K3r (fun _ _ h=> .inr h)
  have Kr':Kept (qau Y v4 v5 v6 v7) w wr:=K03.trans K3r (fun b hb h=>by omega)
  have hCn: ∀ b,C b→ ¬ (qau Y v4 v5 v6 v7 b∨b=w3.heap.size):=fun b hb h=>h.elim (HCF.out b hb) (fun e=>by have:=HhCl.out b hb;omega)
  have hSr:=HS1.out.kept Kr hCn
  have hpr:=Hhok.out.kept HhpC.out Kr hCn
  have hPr:=(K3r.block w.heap.size (by omega) (by omega)).trans hP3.out
  have hx4:=ql (i:=4) H4.box
  have hYr:=qo H4.box
  obtain ⟨f1,f2,f3,f4,f5⟩:=schedTo_facts st1 p hSr.needs ⟨p0,p1,p2⟩ k hk
  by_cases hlt:k < st1.nodes.length
  ·obtain ⟨g,ho,hg,-,-⟩:=qbs H4.r4 (by omega)
   subst ho
   obtain ⟨m0,m1,m2,m3,m4,m5,-,-⟩:=row6 H4.r4 k hlt
   have hsc:qah st1 p (k+1)=if 0 < st1.why st1.nodes[k] p then ((qah st1 p k).1++ [(st1.nodes[k].name,st1.why st1.nodes[k] p)],(qah st1 p k).2) else if (qah st1 p k).2.1 < 0∨(qah st1 p k).2.2 < st1.score st1.nodes[k] p then ((qah st1 p k).1,k,st1.score st1.nodes[k] p) else qah st1 p k:=by
    rw [qah,List.getElem?_eq_getElem hlt]
   have hrm:=hSr.rooms _ (List.getElem_mem hlt)
   have hno:=(hSr.nok _ (List.getElem_mem hlt)).1
   have bW:=why_bound st1 st1.nodes[k] p
   have bS:=score_bound st1 st1.nodes[k] p hSr.needs ⟨p0,p1,p2⟩
   obtain ⟨nd,hnd⟩: ∃ nd,nd=st1.nodes[k]:=⟨_,rfl⟩
   simp only [← hnd] at m0 m1 m2 m3 m4 m5 hsc hrm hno bW bS
   clear hnd
   have cW:=fun wx (hx:Below wr.heap.size wr wx)=>why_any Y st1 _ _ _ _ nd p wx (H4.kept (Kept.of_below (F:=qq) hx) (fun _ _=>id)) (by omega) (by omega) hSr.needs hrm.1 hrm.2.1 hrm.2.2 p0 p1 p2 (hno.below hx) (hpr.below hx) (fun m hm=>(hSr.nok m hm).1.below hx) (fun m hm=>(hSr.pok m hm).1.below hx) hSr.there
   have cS:=fun wx (hx:Below wr.heap.size wr wx)=>score_any Y st1 _ _ _ _ nd p wx (H4.kept (Kept.of_below (F:=qq) hx) (fun _ _=>id)) (by omega) hSr.needs hrm.1 hrm.2.1 hrm.2.2 p0 p1 p2
   unfold qu.cells PodD.cells Lst.val at cW cS
   unfold Lst.val at m4 m5
   have Hsc:Hid (qah st1 p (k+1)=if 0 < st1.why nd p then ((qah st1 p k).1++ [(nd.name,st1.why nd p)],(qah st1 p k).2) else if (qah st1 p k).2.1 < 0∨(qah st1 p k).2.2 < st1.score nd p then ((qah st1 p k).1,k,st1.score nd p) else qah st1 p k):=hsc
   clear hsc
   have q0:wr.cell? ⟨w.heap.size,0,none⟩=some (.string p.name):=by rw [ql hPr];rfl
   have q1:wr.cell? ⟨w.heap.size,1,none⟩=some (.int .i64 p.n0):=by rw [ql hPr];rfl
   have q2:wr.cell? ⟨w.heap.size,2,none⟩=some (.int .i64 p.n1):=by rw [ql hPr];rfl
   have q3:wr.cell? ⟨w.heap.size,3,none⟩=some (.int .i64 p.n2):=by rw [ql hPr];rfl
   have q4:wr.cell? ⟨w.heap.size,4,none⟩=some (.int .i64 p.port):=by rw [ql hPr];rfl
   have q5:wr.cell? ⟨w.heap.size,5,none⟩=some (.slice p.labels.a p.labels.L.length p.labels.cap):=by rw [ql hPr];rfl
   have q6:wr.cell? ⟨w.heap.size,6,none⟩=some (.slice p.select.a p.select.L.length p.select.cap):=by rw [ql hPr];rfl
   have q7:wr.cell? ⟨w.heap.size,7,none⟩=some (.slice p.bears.a p.bears.L.length p.bears.cap):=by rw [ql hPr];rfl
   have q8:wr.cell? ⟨w.heap.size,8,none⟩=some (.slice p.near.a p.near.L.length p.near.cap):=by rw [ql hPr];rfl
   have q9:wr.cell? ⟨w.heap.size,9,none⟩=some (.slice p.apart.a p.apart.L.length p.apart.cap):=by rw [ql hPr];rfl
   have hdr:Below wr.heap.size wr wr.drew:=(Below.refl _ _).drew
   have HPr:Hid (wr.heap[w.heap.size]? =some (.cells #[.string p.name,.int .i64 p.n0,.int .i64 p.n1,.int .i64 p.n2,.int .i64 p.port,.slice p.labels.a p.labels.L.length p.labels.cap,.slice p.select.a p.select.L.length p.select.cap,.slice p.bears.a p.bears.L.length p.bears.cap,.slice p.near.a p.near.L.length p.near.cap,.slice p.apart.a p.apart.L.length p.apart.cap] 45 (0,0))):=hPr
   have HSr:Hid (st1.sound C wr):=hSr
   clear hPr hSr hCn hrm hno
   generalize st1.why nd p=WH at *
   generalize st1.score nd p=SC at *
   go_upto_region 12 with fail
   go_cut [10] from 26 to 80 (fun c wx=>c= .int .i64 WH∧Below wr.heap.size wr wx)
   case first=>
    go_region_with (go_at_call 75;refine (cW _ hdr).mono ?_;rintro e w5 ⟨rfl,hb5⟩)
    all_goals go_wp2_with fail
    all_goals go_meet
    all_goals exact ⟨rfl,hdr.trans (hb5.mono (Nat.le_refl _))⟩
   case rest=>
    obtain ⟨rfl,hb5⟩:=hcut
    have zr:w.heap.size < wr.heap.size:=Nat.lt_of_lt_of_le (by omega) K3r.size
    have hgc:g < wc.heap.size:=Nat.lt_of_lt_of_le hg hb5.size
    have zrc:w.heap.size < wc.heap.size:=Nat.lt_of_lt_of_le zr hb5.size
    have z3r:w3.heap.size < wr.heap.size:=qo Hbox.out
    have z3c:w3.heap.size < wc.heap.size:=Nat.lt_of_lt_of_le z3r hb5.size
    have m0c:=(hb5.cell (p:=⟨g,k * 6,none⟩) (by exact hg)).trans m0
    have m1c:=(hb5.cell (p:=⟨g,k * 6+1,none⟩) (by exact hg)).trans m1
    have m2c:=(hb5.cell (p:=⟨g,k * 6+2,none⟩) (by exact hg)).trans m2
    have m3c:=(hb5.cell (p:=⟨g,k * 6+3,none⟩) (by exact hg)).trans m3
    have m4c:=(hb5.cell (p:=⟨g,k * 6+4,none⟩) (by exact hg)).trans m4
    have m5c:=(hb5.cell (p:=⟨g,k * 6+5,none⟩) (by exact hg)).trans m5
    have q0c:=(hb5.cell (p:=⟨w.heap.size,0,none⟩) (by exact zr)).trans q0
    have q1c:=(hb5.cell (p:=⟨w.heap.size,1,none⟩) (by exact zr)).trans q1
    have q2c:=(hb5.cell (p:=⟨w.heap.size,2,none⟩) (by exact zr)).trans q2
    have q3c:=(hb5.cell (p:=⟨w.heap.size,3,none⟩) (by exact zr)).trans q3
    have q4c:=(hb5.cell (p:=⟨w.heap.size,4,none⟩) (by exact zr)).trans q4
    have q5c:=(hb5.cell (p:=⟨w.heap.size,5,none⟩) (by exact zr)).trans q5
    have q6c:=(hb5.cell (p:=⟨w.heap.size,6,none⟩) (by exact zr)).trans q6
    have q7c:=(hb5.cell (p:=⟨w.heap.size,7,none⟩) (by exact zr)).trans q7
    have q8c:=(hb5.cell (p:=⟨w.heap.size,8,none⟩) (by exact zr)).trans q8
    have q9c:=(hb5.cell (p:=⟨w.heap.size,9,none⟩) (by exact zr)).trans q9
    have hx4c:=(hb5.cell (p:=⟨Y,4,none⟩) (by exact hYr)).trans hx4
    have hYc:Y < wc.heap.size:=Nat.lt_of_lt_of_le hYr hb5.size
    have hBc:=hB.below hb5
    have hboxc:=(hb5.block w3.heap.size z3r).trans Hbox.out
    clear cW m0 m1 m2 m3 m4 m5 q0 q1 q2 q3 q4 q5 q6 q7 q8 q9 hx4 Hbox hB hdr
    generalize qah st1 p k=T at *
    obtain ⟨L,bb,ss⟩:=T
    dsimp only at f1 f2 f3 f4 f5 hBc hboxc Hsc
    have Hboxc:Hid (wc.heap[w3.heap.size]? =some (.cells #[.int .i64 0,.string ⟨#[]⟩,.int .i64 ss,.slice none 0 0,.int .i64 fr] 138 (0,0))):=hboxc
    clear hboxc
    by_cases hy:0 < WH
    ·have HS:Hid (qah st1 p (k+1)=(L++ [(nd.name,WH)],bb,ss)):=by show _=_;rw [Hsc.out,if_pos hy]
     go_wp2_with (at_builtin;refine qy _ rfl (.tmp 47) (.tmp 58) 136 rfl 165 i1 _ 2 24 Tryz.underlying136 hi1 hz10 hz11 hz12 rfl (by decide) _ L.length _ rfl (by exact hBc.1.alloc _) ⟨wc.heap.size,0,none⟩ 1 1 (qdr (nd.name,WH)) rfl rfl (by exact qcr _ #[.string nd.name,.int .i64 WH] _ _ rfl) (by intro u hu;simp [qdr] at hu;rcases hu with rfl| rfl<;>rfl) (by unfold maxLen;omega) (by omega) ?_;intro ao1 cp1 w51 ho1 hg1 hf1)
     go_roundg (st1.nodes.length - (k+1))
     case measure=>have:=Hgk.out;omega
     case rel=>
      refine ⟨k+1,by omega,rfl,by go_num,by rw [HS.out],ao1,cp1,by rw [HS.out];simp,?_,?_⟩
      ·rw [HS.out];exact hBc.more hg1 (by simpa using ho1) hf1
      ·rw [HS.out,hg1.block w3.heap.size (by simp;omega) (fun e=>by have:=hBc.2.2 _ e.symm;simp at this;omega),Below.heap_alloc _ _ _ (by omega)]
       exact Hboxc.out
    ·have hyd:decide (0 < WH)=false:=by simpa using hy
     have hdc:Below wc.heap.size wc wc.drew:=(Below.refl _ _).drew
     have hbr:=qj hb5 hdc
     go_upto_region 15 with fail
     go_cut [11] from 26 to 80 (fun c wx=>c= .int .i64 SC∧Below wc.heap.size wc wx)
     case first=>
      go_region_with (go_at_call 76;refine (cS _ hbr).mono ?_;rintro e w6 ⟨rfl,hb6⟩)
      all_goals go_wp2_with fail
      all_goals go_meet
      all_goals exact ⟨rfl,hdc.trans (hb6.mono (Nat.le_refl _))⟩
     case rest=>
      obtain ⟨rfl,hb6⟩:=hcut
      have hBd:=hBc.below hb6
      have hboxd:=(hb6.block w3.heap.size z3c).trans Hboxc.out
      have d2:=ql (i:=2) hboxd
      have d2f:=qp (i:=2) hboxd
      have Hboxd:Hid (wc.heap[w3.heap.size]? =some (.cells #[.int .i64 0,.string ⟨#[]⟩,.int .i64 ss,.slice none 0 0,.int .i64 fr] 138 (0,0))):=hboxd
      have hB2W:w3.heap.size < (w3.alloc (.cells #[.int .i64 0,.string ⟨#[]⟩,.int .i64 0,.slice none 0 0,.int .i64 fr] 138)).heap.size:=by simp
      clear hboxd cS hBc Hboxc hb6 hb5 m0c m1c m2c m3c m4c m5c q0c q1c q2c q3c q4c q5c q6c q7c q8c q9c hx4c
      by_cases hb0:bb < 0
      ·have HS:Hid (qah st1 p (k+1)=(L,(k:Int),SC)):=by show _=_;rw [Hsc.out,if_neg hy,if_pos (.inl hb0)]
       go_wp2_with fail
       go_roundg (st1.nodes.length - (k+1))
       case measure=>have:=Hgk.out;omega
       case rel=>
        refine ⟨k+1,by omega,rfl,by go_num,by rw [HS.out],ao,cap,by rw [HS.out],?_,?_⟩
        ·rw [HS.out];exact hBd.set hB2W _
        ·rw [HS.out];exact qs Hboxd.out _
      ·have hb0d:decide (bb < 0)=false:=by simpa using hb0
       by_cases hs:ss < SC
       ·have HS:Hid (qah st1 p (k+1)=(L,(k:Int),SC)):=by show _=_;rw [Hsc.out,if_neg hy,if_pos (.inr hs)]
        go_wp2_with fail
        go_roundg (st1.nodes.length - (k+1))
        case measure=>have:=Hgk.out;omega
        case rel=>
         refine ⟨k+1,by omega,rfl,by go_num,by rw [HS.out],ao,cap,by rw [HS.out],?_,?_⟩
         ·rw [HS.out];exact hBd.set hB2W _
         ·rw [HS.out];exact qs Hboxd.out _
       ·have HS:Hid (qah st1 p (k+1)=(L,bb,ss)):=by show _=_;rw [Hsc.out,if_neg hy,if_neg (by omega)]
        have hsd:decide (ss < SC)=false:=by simpa using hs
        go_wp2_with fail
        go_roundg (st1.nodes.length - (k+1))
        case measure=>have:=Hgk.out;omega
        case rel=>
         refine ⟨k+1,by omega,rfl,by go_num,by rw [HS.out],ao,cap,by rw [HS.out],?_,?_⟩
         ·rw [HS.out];exact hBd
         ·rw [HS.out];exact Hboxd.out
  ·have hkl:k=st1.nodes.length:=by omega
   rw [hkl] at hB Hbox f1 f2 f3 f4 f5
   rw [hkl]
   clear hkl Hgk hk hlt
   have hRr:=(K3r.block (w.heap.size+1) (by omega) (by omega)).trans hR3.out
   have hsi:st1.schedIn p fr=match qah st1 p st1.nodes.length with
    | (l,b,s)=>match (if b < 0 then none else st1.nodes[b.toNat]?) with
     | none=>(⟨9,⟨#[]⟩,s,l,fr⟩,st1)
     | some n=>(⟨0,n.name,s,[],fr⟩,st1.lay ⟨p,n.name,false,st1.now⟩):=rfl
   generalize qah st1 p st1.nodes.length=T at *
   obtain ⟨L,bb,ss⟩:=T
   dsimp only at f1 f2 f3 f4 f5 hB Hbox hsi
   have hbox:=Hbox.out
   clear Hbox
   have d0:=ql (i:=0) hbox
   have d0f:=qp (i:=0) hbox
   have r0:=ql (i:=0) hRr
   have r0f:=qp (i:=0) hRr
   have d1:=ql (i:=1) hbox
   have d1f:=qp (i:=1) hbox
   have r1:=ql (i:=1) hRr
   have r1f:=qp (i:=1) hRr
   have d2:=ql (i:=2) hbox
   have d2f:=qp (i:=2) hbox
   have r2:=ql (i:=2) hRr
   have r2f:=qp (i:=2) hRr
   have d3:=ql (i:=3) hbox
   have d3f:=qp (i:=3) hbox
   have r3:=ql (i:=3) hRr
   have r3f:=qp (i:=3) hRr
   have d4:=ql (i:=4) hbox
   have d4f:=qp (i:=4) hbox
   have r4:=ql (i:=4) hRr
   have r4f:=qp (i:=4) hRr
   have Hboxr:Hid (wr.heap[w3.heap.size]? =some (.cells #[.int .i64 0,.string ⟨#[]⟩,.int .i64 ss,.slice none 0 0,.int .i64 fr] 138 (0,0))):=hbox
   have z3r:w3.heap.size < wr.heap.size:=qo hbox
   have HRr:Hid (wr.heap[w.heap.size+1]? =_):=hRr
   have HPr:Hid (wr.heap[w.heap.size]? =_):=hPr
   clear hbox hRr hPr
   by_cases hb0:bb < 0
   ·rw [if_pos hb0] at hsi
    have HS:Hid (st.sched p=(⟨9,⟨#[]⟩,ss,L,fr⟩,st1)):=HE.out.trans hsi
    have KF:=fun a b c d e f g=>(((((((Kept.refl (fun b=>b=w.heap.size+1∨b=w3.heap.size) wr).setCell (p:=⟨w3.heap.size,0,none⟩) (fun _=> .inr rfl) a).setCell (p:=⟨w3.heap.size,3,none⟩) (fun _=> .inr rfl) b).setCell (p:=⟨w.heap.size+1,0,none⟩) (fun _=> .inl rfl) c).setCell (p:=⟨w.heap.size+1,1,none⟩) (fun _=> .inl rfl) d).setCell (p:=⟨w.heap.size+1,2,none⟩) (fun _=> .inl rfl) e).setCell (p:=⟨w.heap.size+1,3,none⟩) (fun _=> .inl rfl) f).setCell (p:=⟨w.heap.size+1,4,none⟩) (fun _=> .inl rfl) g
    clear hsi hSr hpr
    have hne: ¬ (w3.heap.size=w.heap.size+1):=by omega
    have hne': ¬ (w.heap.size+1=w3.heap.size):=by omega
    go_wp2_with fail
    refine bodyPost_ret (v:= .agg #[.int .i64 9,.string ⟨#[]⟩,.int .i64 ss,.slice ao L.length cap,.int .i64 fr]) (by simp [results,Tryz.results54,go_sem,r0,r1,r2,r3,r4]) rfl ?_
    rw [HS.out]
    have KG:=KF (.int .i64 9) (.slice ao L.length cap) (.int .i64 9) (.string ⟨#[]⟩) (.int .i64 ss) (.slice ao L.length cap) (.int .i64 fr)
    refine ⟨.slice ao L.length cap,_,_,_,_,rfl,KG.ownsRow hB.1 (fun b hb e=>by have:=hB.2.2 b hb;simp at this;omega),fun b hb=>⟨by have:=hB.2.2 b hb;simp at this;omega,fun hF=>by have:=hB.2.2 b hb;have:=H3.footLt hF;simp at *;omega⟩,H4.kept KG (fun b hb e=>(Hf3.out b hb).elim (fun h=>by have:=Hfl.out b h;omega) (fun h=>by have:=H3.footLt hb;omega)),?_,?_⟩
    ·exact Kr'.trans KG (fun b hb e=>by omega)
    ·exact fun b hb=>(Hf3.out b hb).elim .inl (fun h=> .inr (Nat.le_trans hB2.size h))
   ·rw [if_neg hb0] at hsi
    obtain ⟨b,rfl⟩:=Int.eq_ofNat_of_zero_le (by omega:0≤bb)
    have hbl:b < st1.nodes.length:=by omega
    simp only [Int.toNat_natCast,List.getElem?_eq_getElem hbl] at hsi
    obtain ⟨g,ho,hg,-,-⟩:=qbs H4.r4 (by omega)
    subst ho
    obtain ⟨m0,-,-,-,-,-,-,-⟩:=row6 H4.r4 b hbl
    obtain ⟨nd,hnd⟩: ∃ nd,nd=st1.nodes[b]:=⟨_,rfl⟩
    rw [← hnd] at m0 hsi
    have HS:Hid (st.sched p=(⟨0,nd.name,ss,[],fr⟩,st1.lay ⟨p,nd.name,false,st1.now⟩)):=HE.out.trans hsi
    have hb0d:decide ((b:Int) < 0)=false:=by simp
    have hx3:=ql (i:=3) H4.box
    have zr:w.heap.size < wr.heap.size:=by omega
    have KS:Kept (fun b=>b=w3.heap.size) wr (wr.setCell ⟨w3.heap.size,1,none⟩ (.string nd.name)):=(Kept.refl (fun b=>b=w3.heap.size) wr).setCell (p:=⟨w3.heap.size,1,none⟩) (fun _=>rfl) (.string nd.name)
    have H5:=H4.kept KS (fun b hb e=>by have:=H3.footLt hb;omega)
    have cL:=lay_any Y st1 _ _ _ _ ⟨p,nd.name,false,st1.now⟩ _ (H5.kept ((Kept.refl qq _).drew) (fun _ _=>id)) (by omega) ht1
    unfold qax.cells Lst.val at cL
    dsimp only at cL
    have hYn: ¬ (Y=w3.heap.size):=by have:=H3.footLt (.inl rfl);omega
    have hPn: ¬ (w.heap.size=w3.heap.size):=by omega
    have q0:wr.cell? ⟨w.heap.size,0,none⟩=some (.string p.name):=by rw [ql HPr.out];rfl
    have q1:wr.cell? ⟨w.heap.size,1,none⟩=some (.int .i64 p.n0):=by rw [ql HPr.out];rfl
    have q2:wr.cell? ⟨w.heap.size,2,none⟩=some (.int .i64 p.n1):=by rw [ql HPr.out];rfl
    have q3:wr.cell? ⟨w.heap.size,3,none⟩=some (.int .i64 p.n2):=by rw [ql HPr.out];rfl
    have q4:wr.cell? ⟨w.heap.size,4,none⟩=some (.int .i64 p.port):=by rw [ql HPr.out];rfl
    have q5:wr.cell? ⟨w.heap.size,5,none⟩=some (.slice p.labels.a p.labels.L.length p.labels.cap):=by rw [ql HPr.out];rfl
    have q6:wr.cell? ⟨w.heap.size,6,none⟩=some (.slice p.select.a p.select.L.length p.select.cap):=by rw [ql HPr.out];rfl
    have q7:wr.cell? ⟨w.heap.size,7,none⟩=some (.slice p.bears.a p.bears.L.length p.bears.cap):=by rw [ql HPr.out];rfl
    have q8:wr.cell? ⟨w.heap.size,8,none⟩=some (.slice p.near.a p.near.L.length p.near.cap):=by rw [ql HPr.out];rfl
    have q9:wr.cell? ⟨w.heap.size,9,none⟩=some (.slice p.apart.a p.apart.L.length p.apart.cap):=by rw [ql HPr.out];rfl
    clear hsi hnd hSr hpr hb0
    go_upto_region 24 with fail
    go_cut [5] from 81 to 106 (fun c wx=>c= .int .i64 0∧qaq (wr.setCell ⟨w3.heap.size,1,none⟩ (.string nd.name)) wx Y (st1.lay ⟨p,nd.name,false,st1.now⟩) (.slice (some ⟨g,0,none⟩) st1.nodes.length cp4) x5 x6 x7)
    case first=>
     go_region_with (go_at_call 52;refine cL.mono ?_;rintro e w7 ⟨rfl,hA⟩)
     all_goals go_wp2_with fail
     all_goals go_meet
     all_goals exact ⟨rfl,qaq.behind (Below.refl _ _).drew hA⟩
    case rest=>
     obtain ⟨rfl,y4,y5,y6,y7,H7,K7,f7⟩:=hcut
     have hb7:=(K7.block w3.heap.size (by rw [qej];omega) (fun h=>by have:=H3.footLt h;omega)).trans (qs Hboxr.out (.string nd.name))
     have hr7:=(K7.block (w.heap.size+1) (by rw [qej];omega) (fun h=>(Hf3.out _ h).elim (fun h=>by have:=Hfl.out _ h;omega) (fun h=>by omega))).trans ((qbt (by omega) _).trans HRr.out)
     simp only [Array.setIfInBounds,List.size_toArray,List.length_cons,List.length_nil,Nat.reduceAdd,Nat.reduceLT,dite_true] at hb7
     have e0:=ql (i:=0) hb7
     have e0f:=qp (i:=0) hb7
     have s0:=ql (i:=0) hr7
     have s0f:=qp (i:=0) hr7
     have e1:=ql (i:=1) hb7
     have e1f:=qp (i:=1) hb7
     have s1:=ql (i:=1) hr7
     have s1f:=qp (i:=1) hr7
     have e2:=ql (i:=2) hb7
     have e2f:=qp (i:=2) hb7
     have s2:=ql (i:=2) hr7
     have s2f:=qp (i:=2) hr7
     have e3:=ql (i:=3) hb7
     have e3f:=qp (i:=3) hb7
     have s3:=ql (i:=3) hr7
     have s3f:=qp (i:=3) hr7
     have e4:=ql (i:=4) hb7
     have e4f:=qp (i:=4) hb7
     have s4:=ql (i:=4) hr7
     have s4f:=qp (i:=4) hr7
     have KG:=fun a b c d e=>(((((Kept.refl (fun b=>b=w.heap.size+1) wc).setCell (p:=⟨w.heap.size+1,0,none⟩) (fun _=>rfl) a).setCell (p:=⟨w.heap.size+1,1,none⟩) (fun _=>rfl) b).setCell (p:=⟨w.heap.size+1,2,none⟩) (fun _=>rfl) c).setCell (p:=⟨w.heap.size+1,3,none⟩) (fun _=>rfl) d).setCell (p:=⟨w.heap.size+1,4,none⟩) (fun _=>rfl) e
     have HK7:Hid (Kept _ _ wc):=K7
     have Hf7:Hid (∀ b,qau Y y4 y5 y6 y7 b→_):=f7
     clear hb7 hr7 q0 q1 q2 q3 q4 q5 q6 q7 q8 q9 m0 d0 d1 d2 d3 d4 r0 r1 r2 r3 r4 d0f d1f d2f d3f d4f r0f r1f r2f r3f r4f cL K7 f7 hx3 hx4
     go_wp2_with fail
     refine bodyPost_ret (v:= .agg #[.int .i64 0,.string nd.name,.int .i64 ss,.slice none 0 0,.int .i64 fr]) (by simp [results,Tryz.results54,go_sem,s0,s1,s2,s3,s4]) rfl ?_
     rw [HS.out]
     have KH:=KG (.int .i64 0) (.string nd.name) (.int .i64 ss) (.slice none 0 0) (.int .i64 fr)
     have f7:=Hf7.out
     rw [qej] at f7
     have hnx: ∀ b,qau Y (.slice (some ⟨g,0,none⟩) st1.nodes.length cp4) x5 x6 x7 b→qau Y v4 v5 v6 v7 b∨w2.heap.size≤b:=Hf3.out
     refine ⟨.slice none 0 0,y4,y5,y6,y7,rfl,World.ownsRow_nil _ _ _ _,fun k hk=>by simp [Value.ownBlock] at hk,H7.kept KH (fun b hb e=>(f7 b hb).elim (fun h=>(hnx b h).elim (fun h=>by have:=Hfl.out b h;omega) (fun h=>by omega)) (fun h=>by omega)),?_,?_⟩
     ·refine ((Kr'.trans KS (fun b hb e=>by omega)).trans HK7.out (fun b hb h=>(hnx b h).elim id (fun h=>by omega))).trans KH (fun b hb e=>by omega)
     ·exact fun b hb=>(f7 b hb).elim (fun h=>(hnx b h).elim .inl (fun h=> .inr (by omega))) (fun h=> .inr (by omega))
end
section
open Go.RowKit
theorem sched_any (C:Nat→Prop) (Y:Nat) (st:RefD) (v4 v5 v6 v7:Value) (p:PodD) (w:World) (H:qbc w Y st v4 v5 v6 v7) (hS:st.sound C w) (hCF: ∀ b,C b→ ¬ qau Y v4 v5 v6 v7 b) (hok:p.ok w) (hpC: ∀ x∈p.lists,x.inC C) (hCl: ∀ b,C b→b < w.heap.size)
  (ht:st.touched.length < 8796093022000):
  Calls Tryz.prog 54 #[.pointer (some ⟨Y,0,none⟩),.agg p.cells] w fun e w'=>qem w w' Y (st.sched p).2 (st.sched p).1 v4 v5 v6 v7 e:=by
 have hp:=hS.wf.pods
 by_cases h0:p.err=0
 ·by_cases h1:st.admits p.name=0
  ·exact sched_in C Y st v4 v5 v6 v7 p w H hS hCF hok hpC hCl ht h0 h1
  ·exact rsched_adm Y st v4 v5 v6 v7 p w H hok (by omega) h0 h1
 ·exact sched_err Y st v4 v5 v6 v7 p w H hok h0
end
section
open Go.RowKit
theorem nameIdx_iff (l:List ByteArray) (s:ByteArray):(∃ i,qan l s=some i)↔ ∃ y∈l,y.toList=s.toList:=by
 constructor
 ·rintro ⟨i,hi⟩
  obtain ⟨h,e,_⟩:=List.findIdx?_eq_some_iff_getElem.1 hi
  exact ⟨l[i],List.getElem_mem h,by simpa using e⟩
 ·rintro ⟨y,hy,e⟩
  cases h:qan l s with
  | some i=>exact ⟨i,rfl⟩
  | none=>
   unfold qan at h
   rw [List.findIdx?_eq_none_iff] at h
   have:=h y hy
   simp [e] at this
theorem nameIdx_get {l:List ByteArray} {s:ByteArray} {i:Nat} (h:qan l s=some i): ∃ hl:i < l.length,l[i].toList=s.toList:=by
 obtain ⟨hl,e,_⟩:=List.findIdx?_eq_some_iff_getElem.1 h
 exact ⟨hl,by simpa using e⟩
theorem qu.amounts {n:qu} (h:n.err=0):qb7 n.r0∧qb7 n.r1∧qb7 n.r2:=by
 unfold qu.err at h
 split at h
 ·rename_i hg
  simp only [qu.good,qef,amtB,Bool.and_eq_true,decide_eq_true_eq] at hg
  unfold qb7
  omega
 ·omega
section
variable {C:Nat→Prop} {w:World} {st:RefD}
theorem RefD.sound.empty (hold:Int) (rem whole:Bool) (h1:1≤hold) (h2:hold≤1000):(RefD.empty hold rem whole).sound C w:=
 ⟨⟨h1,h2,Int.le_refl _,by simp [RefD.empty],by simp [RefD.empty],by simp [RefD.empty],by simp [RefD.empty]⟩,by simp [RefD.empty,qfi],by simp [RefD.empty],by simp [RefD.empty],by simp [RefD.empty],by simp [RefD.empty]⟩
theorem RefD.sound.there' (h:st.sound C w) {x:qax} (hx:x∈st.pods): ∃ m∈st.nodes,m.name.toList=x.node.toList:=by
 obtain ⟨y,hy,e⟩:=(nameIdx_iff _ _).1 (h.there x hx)
 obtain ⟨m,hm,rfl⟩:=List.mem_map.1 hy
 exact ⟨m,hm,e⟩
theorem there_mk {nodes:List qu} {s:ByteArray} (h: ∃ m∈nodes,m.name.toList=s.toList): ∃ i,qan (nodes.map (·.name)) s=some i:=by
 obtain ⟨m,hm,e⟩:=h
 exact (nameIdx_iff _ _).2 ⟨m.name,List.mem_map.2 ⟨m,hm,rfl⟩,e⟩
theorem RefD.sound.putNode (h:st.sound C w) (n:qu) (hok:n.ok w) (hC: ∀ x∈n.lists,x.inC C):(st.putNode n).2.sound C w:=by
 unfold RefD.putNode
 split
 ·exact h
 ·rename_i h0
  have ha:=qu.amounts (by omega:n.err=0)
  cases hi:qan (st.nodes.map (·.name)) n.name with
  | some i=>
   dsimp only
   obtain ⟨hl,e⟩:=nameIdx_get hi
   rw [List.length_map] at hl
   rw [List.getElem_map] at e
   have hmem: ∀ m∈st.nodes.set i n,m=n∨m∈st.nodes:=fun m hm=>(List.mem_or_eq_of_mem_set hm).symm
   refine ⟨⟨h.wf.hold0,h.wf.hold1,h.wf.now0,h.wf.now1,h.wf.since,by simpa using h.wf.nodes,h.wf.pods⟩,h.needs,fun m hm=> ?_,fun m hm=> ?_,h.pok,fun x hx=> ?_⟩
   ·exact (hmem m hm).elim (fun e=>e▸ha) (h.rooms m)
   ·exact (hmem m hm).elim (fun e=>e▸⟨hok,hC⟩) (h.nok m)
   ·obtain ⟨m,hm,em⟩:=h.there' hx
    obtain ⟨j,hj,rfl⟩:=List.getElem_of_mem hm
    refine there_mk ?_
    by_cases hij:i=j
    ·subst hij
     exact ⟨n,List.mem_iff_getElem.2 ⟨i,by simpa using hl,by simp⟩,e.symm.trans em⟩
    ·exact ⟨st.nodes[j],List.mem_iff_getElem.2 ⟨j,by simpa using hj,by simp [hij]⟩,em⟩
  | none=>
   dsimp only
   split
   ·exact h
   ·refine ⟨⟨h.wf.hold0,h.wf.hold1,h.wf.now0,h.wf.now1,h.wf.since,by dsimp only;rw [qhi];omega,h.wf.pods⟩,h.needs,fun m hm=> ?_,fun m hm=> ?_,h.pok,fun x hx=> ?_⟩
    ·exact ((mem_insKey _ _ _ _).1 hm).elim (fun e=>e▸ha) (h.rooms m)
    ·exact ((mem_insKey _ _ _ _).1 hm).elim (fun e=>e▸⟨hok,hC⟩) (h.nok m)
    ·obtain ⟨m,hm,em⟩:=h.there' hx
     exact there_mk ⟨m,(mem_insKey _ _ _ _).2 (.inr hm),em⟩
theorem RefD.sound.fewer (h:st.sound C w) (l:List qax) (tl:List ByteArray) (hm: ∀ x∈l,x∈st.pods) (hl:l.length≤st.pods.length):RefD.sound C w { st with pods:=l,touched:=tl }:=
 ⟨⟨h.wf.hold0,h.wf.hold1,h.wf.now0,h.wf.now1,fun x hx=>h.wf.since x (hm x hx),h.wf.nodes,Nat.le_trans hl h.wf.pods⟩,fun x hx=>h.needs x (hm x hx),h.rooms,h.nok,fun x hx=>h.pok x (hm x hx),fun x hx=>h.there x (hm x hx)⟩
theorem RefD.sound.leave (h:st.sound C w) (i:Nat) (x:qax):(st.leave i x).sound C w:=
 h.fewer _ _ (fun _ hy=>List.mem_of_mem_eraseIdx hy) (List.length_eraseIdx_le _ _)
theorem RefD.sound.dropNode (h:st.sound C w) (s:ByteArray):(st.dropNode s).2.sound C w:=by
 unfold RefD.dropNode
 cases hi:qan (st.nodes.map (·.name)) s with
 | none=>exact h
 | some i=>
  dsimp only
  obtain ⟨hl,e⟩:=nameIdx_get hi
  rw [List.length_map] at hl
  rw [List.getElem_map] at e
  have hf: ∀ x∈st.pods.filter (fun x=> !(x.node.toList==s.toList)),x∈st.pods:=fun x hx=>(List.mem_filter.1 hx).1
  refine ⟨⟨h.wf.hold0,h.wf.hold1,h.wf.now0,h.wf.now1,fun x hx=>h.wf.since x (hf x hx),Nat.le_trans (List.length_eraseIdx_le _ _) h.wf.nodes,Nat.le_trans (List.length_filter_le _ _) h.wf.pods⟩,fun x hx=>h.needs x (hf x hx),fun m hm=>h.rooms m (List.mem_of_mem_eraseIdx hm),fun m hm=>h.nok m (List.mem_of_mem_eraseIdx hm),fun x hx=>h.pok x (hf x hx),fun x hx=> ?_⟩
  obtain ⟨m,hm,em⟩:=h.there' (hf x hx)
  have hne:x.node.toList≠s.toList:=by simpa using (List.mem_filter.1 hx).2
  refine there_mk ⟨m,?_,em⟩
  obtain ⟨j,hj,rfl⟩:=List.getElem_of_mem hm
  rw [List.mem_eraseIdx_iff_getElem]
  refine ⟨j,hj,fun hij=> ?_,rfl⟩
  subst hij
  exact hne (em.symm.trans e)
theorem RefD.sound.lay (h:st.sound C w) (x:qax) (hok:x.p.ok w) (hC: ∀ y∈x.p.lists,y.inC C) (hp:st.pods.length≤127) (ha:qb7 x.p.n0∧qb7 x.p.n1∧qb7 x.p.n2) (hs:0≤x.since∧x.since≤1099511627776) (ht: ∃ m∈st.nodes,m.name.toList=x.node.toList):
  (st.lay x).sound C w:=by
 unfold RefD.lay qb7 at *
 have hm: ∀ y∈qb8 (fun z:qax=>z.p.name) x st.pods,y=x∨y∈st.pods:=fun y hy=>(mem_insKey _ _ _ _).1 hy
 refine ⟨⟨h.wf.hold0,h.wf.hold1,h.wf.now0,h.wf.now1,fun y hy=> ?_,h.wf.nodes,by dsimp only;rw [qhi];omega⟩,fun y hy=> ?_,h.rooms,h.nok,fun y hy=> ?_,fun y hy=> ?_⟩
 ·exact (hm y hy).elim (fun e=>e▸hs) (h.wf.since y)
 ·rcases hm y hy with rfl| h'
  ·exact ⟨ha.1.1,ha.1.2,ha.2.1.1,ha.2.1.2,ha.2.2.1,ha.2.2.2⟩
  ·exact h.needs y h'
 ·exact (hm y hy).elim (fun e=>e▸⟨hok,hC⟩) (h.pok y)
 ·rcases hm y hy with rfl| h'
  ·exact there_mk ht
  ·exact h.there y h'
theorem admits_len {s:ByteArray} (h:st.admits s=0):st.pods.length≤127:=by
 unfold RefD.admits at h
 split at h
 ·omega
 ·split at h<;>omega
theorem RefD.sound.bind (h:st.sound C w) (p:PodD) (node:ByteArray) (hok:p.ok w) (hC: ∀ y∈p.lists,y.inC C):(st.bind p node).2.sound C w:=by
 unfold RefD.bind
 split
 ·exact h
 ·split
  ·exact h
  ·split
   ·exact h
   ·rename_i h0 h1 h2
    refine h.lay ⟨p,node,true,0⟩ hok hC (admits_len (by omega:st.admits p.name=0)) (PodD.amounts (by simpa using h0)) ⟨Int.le_refl _,by simp⟩ ?_
    cases hi:qan (st.nodes.map (·.name)) node with
    | none=>simp [hi] at h1
    | some i=>
     obtain ⟨hl,e⟩:=nameIdx_get hi
     rw [List.length_map] at hl
     rw [List.getElem_map] at e
     exact ⟨_,List.getElem_mem hl,e⟩
theorem RefD.sound.drop (h:st.sound C w) (s:ByteArray):(st.drop s).2.sound C w:=by
 unfold RefD.drop
 split
 ·exact h
 ·split
  ·exact h
  ·exact h.leave _ _
theorem RefD.sound.confirm (h:st.sound C w) (s:ByteArray):(st.confirm s).2.sound C w:=by
 unfold RefD.confirm
 split
 ·exact h
 ·split
  ·exact h
  ·rename_i _ i hi _ x hx
   split
   ·exact h
   ·have hx':x∈st.pods:=List.mem_of_getElem? hx
    have hm: ∀ y∈st.pods.set i { x with bound:=true },y= { x with bound:=true }∨y∈st.pods:=fun y hy=>(List.mem_or_eq_of_mem_set hy).symm
    refine ⟨⟨h.wf.hold0,h.wf.hold1,h.wf.now0,h.wf.now1,fun y hy=> ?_,h.wf.nodes,by simpa using h.wf.pods⟩,fun y hy=> ?_,h.rooms,h.nok,fun y hy=> ?_,fun y hy=> ?_⟩
    ·exact (hm y hy).elim (fun e=>e▸h.wf.since x hx') (h.wf.since y)
    ·exact (hm y hy).elim (fun e=>e▸h.needs x hx') (h.needs y)
    ·exact (hm y hy).elim (fun e=>e▸h.pok x hx') (h.pok y)
    ·rcases hm y hy with rfl| h'
     ·exact h.there x hx'
     ·exact h.there y h'
theorem RefD.sound.tickStep (h:st.sound C w) (k:Nat):(st.tickStep k).sound C w:=by
 unfold RefD.tickStep
 split
 ·split
  ·exact h.leave _ _
  ·exact h
 ·exact h
theorem RefD.sound.tickTo (h:st.sound C w) (n j:Nat):(st.tickTo n j).sound C w:=by
 induction j with
 | zero=>exact h
 | succ j ih=>exact ih.tickStep _
theorem RefD.sound.tick (h:st.sound C w) (n:Int):(st.tick n).2.sound C w:=by
 unfold RefD.tick
 split
 ·exact h
 ·rename_i hn
  have h1:=h.wf.now0
  refine RefD.sound.tickTo (st:= { st with now:=st.now+n }) ?_ _ _
  exact ⟨⟨h.wf.hold0,h.wf.hold1,by dsimp only;omega,by dsimp only;omega,h.wf.since,h.wf.nodes,h.wf.pods⟩,h.needs,h.rooms,h.nok,h.pok,h.there⟩
theorem RefD.sound.sched (h:st.sound C w) (p:PodD) (hok:p.ok w) (hC: ∀ y∈p.lists,y.inC C):(st.sched p).2.sound C w:=by
 unfold RefD.sched
 split
 ·exact h
 ·split
  ·exact h
  ·rename_i h0 h1
   have hf:=h.fresh
   unfold RefD.schedIn
   split
   rename_i l b s hT
   split
   ·exact hf
   ·rename_i n hn
    split at hn
    ·simp at hn
    ·refine hf.lay ⟨p,n.name,false,st.fresh.2.now⟩ hok hC (admits_len (s:=p.name) (by omega:st.admits p.name=0)) (PodD.amounts (by simpa using h0)) ⟨h.wf.now0,h.wf.now1⟩ ⟨n,List.mem_of_getElem? hn,rfl⟩
end
end
end Go.Proofs.YtchddaafibjmgaaGreat
