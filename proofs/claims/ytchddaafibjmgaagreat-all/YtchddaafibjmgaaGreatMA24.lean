import Derived.Conc.LoneSelect
import Derived.Tactics
import Derived.Test.YtchddaafibjmgaaGreatMA4
import Derived.Test.YtchddaafibjmgaaGreatMPTen
import Derived.Test.YtchddaafibjmgaaGreatMA6
import Derived.Test.YtchddaafibjmgaaGreatMA16
set_option maxRecDepth 100000
set_option maxHeartbeats 20000000
namespace Go.Proofs.YtchddaafibjmgaaGreat
section
open Go.RowKit Go.Conc
section
variable {P:Program} {ops:Array Oper} {o:Oper} {rest:List Oper} {Q:Exit→Act→World→Prop} {a:Act} {w w':World} {id:Nat}
theorem qe6 {b:Frame} {k:List Item} {cs:List Frame} {cases:Array CommCase} {blocking:Bool} {shape:CommShape} {l:List Nat} (ho:ops[0]? =some o) (hw:Region.wanted o (yielded ops a.tmps)=true)
    (hr:(execOp a.eval o).run P w= .ok (.comm cases blocking shape) w'):
    ∃ es,stepG P true (G (b.at a (.inRegion ops (0::l)::k)) cs) w= .comm (G (b.at a (.inRegion ops (0::l)::k)) cs) cases blocking shape w' es:=by
  rw [stepG_oper ho hw]
  by_cases hk:(b.kind==CallKind.early)=true
  · exact ⟨_,by simp [stepG.apply,hr,G,Frame.at,hk,GStep.after];rfl⟩
  · exact ⟨_,by simp [stepG.apply,hr,G,Frame.at,hk,GStep.after];rfl⟩
theorem qe4 (hops:ops.toList=o::rest) (v:Value) (w':World)
    (hs: ∀ (b:Frame) (k:List Item) (cs:List Frame) (l:List Nat),step P (solo (G (b.at a (.inRegion ops (0::l)::k)) cs) w)= .next (solo (G ((b.at a (.inRegion ops (0::l)::k)).finish v) cs) w'))
    (h:wpList P ops Q rest (a.put o.dst v) w'):(Code.region id ops false).wp P Q a w:=by
  intro b k cs
  have hsz:ops.size=rest.length+1:=by rw [← Array.length_toList,hops];rfl
  have hr:List.range ops.size=0::List.range' 1 rest.length:=by
    rw [hsz,List.range_eq_range',List.range'_succ]
  have ho:ops[0]? =some o:=by rw [← Array.getElem?_toList,hops];rfl
  have hw:wpOps P ops Q (List.range' 1 rest.length) (a.put o.dst v) w':=by
    rw [wpOps_eq_wpList rest 1 (fun j=>by rw [← Array.getElem?_toList,hops,Nat.add_comm 1 j];rfl)]
    exact h
  obtain ⟨e,a',w'',hq,harr⟩:=wp_ops (List.range' 1 rest.length) (a.put o.dst v) w' hw b k cs
  refine ⟨e,a',w'',hq,.of_steps (.one step_region) (.of_steps (.one ?_) harr)⟩
  have hst:=hs b k cs (List.range' 1 rest.length)
  rw [Frame.finish_at,ho] at hst
  rw [hr]
  exact hst
variable {c cap s r:Nat} {buf:Array Value} {z z' v:Value} {tm closed:Bool}
theorem wp_sel_send (hops:ops.toList=o::rest) (hw:Region.wanted o (yielded ops a.tmps)=true) (hr:(execOp a.eval o).run P w= .ok (.comm #[scase c v z'] false .select) w)
    (hc:w.heap[c]? =some (.chan cap buf false s r tm)) (hroom:buf.size < cap)
    (h:wpList P ops Q rest (a.put o.dst (.tuple #[goInt 0,.bool false])) (w.setChan c cap (buf.push v) false (s+1) r tm)):(Code.region id ops false).wp P Q a w:=
  qe4 hops _ _ (fun b k cs l=>by
    obtain ⟨es,he⟩:=qe6 (b:=b) (k:=k) (cs:=cs) (l:=l) (by rw [← Array.getElem?_toList,hops];rfl) hw hr
    exact step_lone_select_send_room he hc hroom) h
theorem wp_sel_full (hops:ops.toList=o::rest) (hw:Region.wanted o (yielded ops a.tmps)=true) (hr:(execOp a.eval o).run P w= .ok (.comm #[scase c v z'] false .select) w)
    (hc:w.heap[c]? =some (.chan cap buf false s r tm)) (hfull:cap≤buf.size)
    (h:wpList P ops Q rest (a.put o.dst (.tuple #[goInt (-1),.bool false])) w):(Code.region id ops false).wp P Q a w:=
  qe4 hops _ _ (fun b k cs l=>by
    obtain ⟨es,he⟩:=qe6 (b:=b) (k:=k) (cs:=cs) (l:=l) (by rw [← Array.getElem?_toList,hops];rfl) hw hr
    exact step_lone_select_send_full he hc hfull) h
theorem wp_sel_recv (hops:ops.toList=o::rest) (hw:Region.wanted o (yielded ops a.tmps)=true) (hr:(execOp a.eval o).run P w= .ok (.comm #[rcase c z] false .select) w)
    (hc:w.heap[c]? =some (.chan cap buf closed s r tm)) (hsome:0 < buf.size)
    (h:wpList P ops Q rest (a.put o.dst (.tuple #[goInt 0,.bool true,buf.getD 0 undef])) (w.setChan c cap (buf.extract 1 buf.size) closed s (r+1) tm)):(Code.region id ops false).wp P Q a w:=
  qe4 hops _ _ (fun b k cs l=>by
    obtain ⟨es,he⟩:=qe6 (b:=b) (k:=k) (cs:=cs) (l:=l) (by rw [← Array.getElem?_toList,hops];rfl) hw hr
    exact step_lone_select_recv_buf he hc hsome) h
theorem wp_sel_none (hops:ops.toList=o::rest) (hw:Region.wanted o (yielded ops a.tmps)=true) (hr:(execOp a.eval o).run P w= .ok (.comm #[rcase c z] false .select) w)
    (hc:w.heap[c]? =some (.chan cap #[] false s r tm))
    (h:wpList P ops Q rest (a.put o.dst (.tuple #[goInt (-1),.bool false,z])) w):(Code.region id ops false).wp P Q a w:=
  qe4 hops _ _ (fun b k cs l=>by
    obtain ⟨es,he⟩:=qe6 (b:=b) (k:=k) (cs:=cs) (l:=l) (by rw [← Array.getElem?_toList,hops];rfl) hw hr
    exact step_lone_select_default he hc) h
end
end
section
open Go.RowKit Go.Maps
theorem qaz.more {F F':Nat→Prop} {w:World} {v:Value} {l:List Lab} (h:qaz F w v l) (hF: ∀ b,F b→F' b):qaz F' w v l:=by
  obtain ⟨b,cap,cur,e,h1,h2,h3⟩:=h
  exact ⟨b,cap,cur,e,hF _ h1,h2,h3⟩
theorem podC {W:World} {b:Nat} {t:TypeId} {y0 y1 y2 y3 y4 y5 y6 y7 y8 y9:Value} (hB:W.heap[b]? =some (.cells #[y0,y1,y2,y3,y4,y5,y6,y7,y8,y9] t (0,0))):W.cell? ⟨b,0,none⟩=some y0∧W.cell? ⟨b,1,none⟩=some y1∧W.cell? ⟨b,2,none⟩=some y2∧W.cell? ⟨b,3,none⟩=some y3∧W.cell? ⟨b,4,none⟩=some y4∧W.cell? ⟨b,5,none⟩=some y5∧W.cell? ⟨b,6,none⟩=some y6∧W.cell? ⟨b,7,none⟩=some y7∧W.cell? ⟨b,8,none⟩=some y8∧W.cell? ⟨b,9,none⟩=some y9∧ ∀ o,W.frozen? ⟨b,o,none⟩=false:=by
  refine ⟨?_,?_,?_,?_,?_,?_,?_,?_,?_,?_,fun o=>qp hB⟩<;>(rw [ql hB];rfl)
theorem qaz.since {B:Nat} {w w':World} {v:Value} {l:List Lab} (h:qaz (fun b=>B≤b∧b < w.heap.size) w v l) (hk:Kept (fun b=>b < B) w w'):qaz (fun b=>B≤b∧b < w'.heap.size) w' v l:=by
  obtain ⟨b,cap,cur,rfl,h1,h2,h3⟩:=h
  refine ⟨b,cap,cur,rfl,⟨h1.1,Nat.lt_of_lt_of_le h1.2 hk.size⟩,by rw [hk.block b h1.2 (by omega)];exact h2,h3.kept hk fun q e=> ?_⟩
  simp only [Option.some.injEq] at e
  subst e
  dsimp only
  omega
theorem copiedPod_any (p:PodD) (w:World) (hok:p.ok w) (hl: ∀ x∈p.lists,x.L.length≤1000):
    Calls Tryz.prog 60 #[.agg p.cells] w fun e w'=> ∃ q:PodD,e= .returned (.agg q.cells)∧q.name=p.name∧q.n0=p.n0∧q.n1=p.n1∧q.n2=p.n2∧q.port=p.port∧q.labels.L=p.labels.L∧q.select.L=p.select.L∧q.bears.L=p.bears.L∧q.near.L=p.near.L∧q.apart.L=p.apart.L∧(∀ x∈q.lists,qaz (fun b=>w.heap.size≤b∧b < w'.heap.size) w' x.val x.L)∧Below w.heap.size w w':=by
  have c0:=fun W (hb:Below w.heap.size w W)=>qc7 p.labels W ((hok.2 p.labels (by simp [PodD.lists])).below hb) (hl _ (by simp [PodD.lists]))
  have c1:=fun W (hb:Below w.heap.size w W)=>qc7 p.select W ((hok.2 p.select (by simp [PodD.lists])).below hb) (hl _ (by simp [PodD.lists]))
  have c2:=fun W (hb:Below w.heap.size w W)=>qc7 p.bears W ((hok.2 p.bears (by simp [PodD.lists])).below hb) (hl _ (by simp [PodD.lists]))
  have c3:=fun W (hb:Below w.heap.size w W)=>qc7 p.near W ((hok.2 p.near (by simp [PodD.lists])).below hb) (hl _ (by simp [PodD.lists]))
  have c4:=fun W (hb:Below w.heap.size w W)=>qc7 p.apart W ((hok.2 p.apart (by simp [PodD.lists])).below hb) (hl _ (by simp [PodD.lists]))
  unfold PodD.cells Lst.val
  unfold Lst.val at c0 c1 c2 c3 c4
  clear hok hl
  obtain ⟨W0,hW0⟩: ∃ W,W=(w.alloc (.cells #[.string p.name,.int .i64 p.n0,.int .i64 p.n1,.int .i64 p.n2,.int .i64 p.port,.slice p.labels.a p.labels.L.length p.labels.cap,.slice p.select.a p.select.L.length p.select.cap,.slice p.bears.a p.bears.L.length p.bears.cap,.slice p.near.a p.near.L.length p.near.cap,.slice p.apart.a p.apart.L.length p.apart.cap] 77)).alloc (.cells #[.string ⟨#[]⟩,.int .i64 0,.int .i64 0,.int .i64 0,.int .i64 0,.slice none 0 0,.slice none 0 0,.slice none 0 0,.slice none 0 0,.slice none 0 0] 77):=⟨_,rfl⟩
  have B0:W0.heap[w.heap.size]? =some (.cells #[.string p.name,.int .i64 p.n0,.int .i64 p.n1,.int .i64 p.n2,.int .i64 p.port,.slice p.labels.a p.labels.L.length p.labels.cap,.slice p.select.a p.select.L.length p.select.cap,.slice p.bears.a p.bears.L.length p.bears.cap,.slice p.near.a p.near.L.length p.near.cap,.slice p.apart.a p.apart.L.length p.apart.cap] 77 (0,0)):=by
    rw [hW0,(qi _ _).block _ (by simp)]
    exact qm _ _
  have R0:W0.heap[w.heap.size+1]? =some (.cells #[.string ⟨#[]⟩,.int .i64 0,.int .i64 0,.int .i64 0,.int .i64 0,.slice none 0 0,.slice none 0 0,.slice none 0 0,.slice none 0 0,.slice none 0 0] 77 (0,0)):=by
    rw [hW0]
    have:=qm (w.alloc (.cells #[.string p.name,.int .i64 p.n0,.int .i64 p.n1,.int .i64 p.n2,.int .i64 p.port,.slice p.labels.a p.labels.L.length p.labels.cap,.slice p.select.a p.select.L.length p.select.cap,.slice p.bears.a p.bears.L.length p.bears.cap,.slice p.near.a p.near.L.length p.near.cap,.slice p.apart.a p.apart.L.length p.apart.cap] 77)) (.cells #[.string ⟨#[]⟩,.int .i64 0,.int .i64 0,.int .i64 0,.int .i64 0,.slice none 0 0,.slice none 0 0,.slice none 0 0,.slice none 0 0,.slice none 0 0] 77)
    simpa using this
  have hb0:Below w.heap.size w W0:=by rw [hW0];exact qj (qi _ _) (qi _ _)
  have z0:w.heap.size+2≤W0.heap.size:=by rw [hW0];simp
  go_enter Tryz.func60,Tryz.ntmps60
  go_upto_region 1 with fail
  rw [← hW0]
  clear hW0
  obtain ⟨_,_,_,_,_,x5_0,x6_0,x7_0,x8_0,x9_0,f0⟩:=podC B0
  have l0:=qo B0
  have r0:=qo R0
  go_upto_region 2 with (go_at_call 41;refine (c0 W0 hb0).mono ?_;rintro e v0 ⟨b0,k0,rfl,g0,o0,h0⟩;have y0:=(h0.cell (p:=⟨w.heap.size,5,none⟩) l0).trans x5_0;have fy0:=(h0.frozen (p:=⟨w.heap.size,5,none⟩) l0).trans (f0 5);have ly0:w.heap.size < v0.heap.size:=Nat.lt_of_lt_of_le l0 h0.size)
  obtain ⟨W1,hW1⟩: ∃ W,W=v0.setCell ⟨w.heap.size,5,none⟩ (.slice (some ⟨b0,0,none⟩) p.labels.L.length k0):=⟨_,rfl⟩
  rw [← hW1]
  have K0:Kept (fun b=>b=w.heap.size) v0 W1:=by rw [hW1];exact (Kept.refl (fun b=>b=w.heap.size) v0).setCell (p:=⟨w.heap.size,5,none⟩) (fun _=>rfl) _
  have B1:W1.heap[w.heap.size]? =some (.cells #[.string p.name,.int .i64 p.n0,.int .i64 p.n1,.int .i64 p.n2,.int .i64 p.port,.slice (some ⟨b0,0,none⟩) p.labels.L.length k0,.slice p.select.a p.select.L.length p.select.cap,.slice p.bears.a p.bears.L.length p.bears.cap,.slice p.near.a p.near.L.length p.near.cap,.slice p.apart.a p.apart.L.length p.apart.cap] 77 (0,0)):=by
    rw [hW1]
    have:=qs ((h0.block _ l0).trans B0) (i:=5) (.slice (some ⟨b0,0,none⟩) p.labels.L.length k0)
    rw [this]
    simp
  have R1:W1.heap[w.heap.size+1]? =some (.cells #[.string ⟨#[]⟩,.int .i64 0,.int .i64 0,.int .i64 0,.int .i64 0,.slice none 0 0,.slice none 0 0,.slice none 0 0,.slice none 0 0,.slice none 0 0] 77 (0,0)):=(K0.block _ (Nat.lt_of_lt_of_le r0 h0.size) (by omega)).trans ((h0.block _ r0).trans R0)
  have hb1:Below w.heap.size w W1:=hb0.trans ((h0.mono hb0.size).trans (K0.below (Nat.le_of_lt ly0) fun i hi e=>by omega))
  have z1:w.heap.size+2≤W1.heap.size:=Nat.le_trans (Nat.le_trans z0 h0.size) K0.size
  have J0:Kept (fun b=>b < w.heap.size+2) W0 W1:=((Kept.of_below (F:=fun b=>b < w.heap.size+2) h0)).trans K0 fun i hi e=>by omega
  have O0_1:qaz (fun b=>w.heap.size+2≤b∧b < W1.heap.size) W1 (.slice (some ⟨b0,0,none⟩) p.labels.L.length k0) p.labels.L:=by
    refine qaz.since (w:=v0) ((o0).more fun b e=> ?_) (K0.mono fun i hi e=>by omega)
    obtain ⟨b',cap,cur,e1,e2,e3,_⟩:=o0
    have:=qo e3
    subst e2
    subst e
    exact ⟨by omega,this⟩
  clear x5_0 x6_0 x7_0 x8_0 x9_0 f0 y0 fy0 ly0 K0 J0 o0 h0 B0 R0 hb0 z0 g0 l0 r0 hW1
  obtain ⟨_,_,_,_,_,x5_1,x6_1,x7_1,x8_1,x9_1,f1⟩:=podC B1
  have l1:=qo B1
  have r1:=qo R1
  go_upto_region 3 with (go_at_call 41;refine (c1 W1 hb1).mono ?_;rintro e v1 ⟨b1,k1,rfl,g1,o1,h1⟩;have y1:=(h1.cell (p:=⟨w.heap.size,6,none⟩) l1).trans x6_1;have fy1:=(h1.frozen (p:=⟨w.heap.size,6,none⟩) l1).trans (f1 6);have ly1:w.heap.size < v1.heap.size:=Nat.lt_of_lt_of_le l1 h1.size)
  obtain ⟨W2,hW2⟩: ∃ W,W=v1.setCell ⟨w.heap.size,6,none⟩ (.slice (some ⟨b1,0,none⟩) p.select.L.length k1):=⟨_,rfl⟩
  rw [← hW2]
  have K1:Kept (fun b=>b=w.heap.size) v1 W2:=by rw [hW2];exact (Kept.refl (fun b=>b=w.heap.size) v1).setCell (p:=⟨w.heap.size,6,none⟩) (fun _=>rfl) _
  have B2:W2.heap[w.heap.size]? =some (.cells #[.string p.name,.int .i64 p.n0,.int .i64 p.n1,.int .i64 p.n2,.int .i64 p.port,.slice (some ⟨b0,0,none⟩) p.labels.L.length k0,.slice (some ⟨b1,0,none⟩) p.select.L.length k1,.slice p.bears.a p.bears.L.length p.bears.cap,.slice p.near.a p.near.L.length p.near.cap,.slice p.apart.a p.apart.L.length p.apart.cap] 77 (0,0)):=by
    rw [hW2]
    have:=qs ((h1.block _ l1).trans B1) (i:=6) (.slice (some ⟨b1,0,none⟩) p.select.L.length k1)
    rw [this]
    simp
  have R2:W2.heap[w.heap.size+1]? =some (.cells #[.string ⟨#[]⟩,.int .i64 0,.int .i64 0,.int .i64 0,.int .i64 0,.slice none 0 0,.slice none 0 0,.slice none 0 0,.slice none 0 0,.slice none 0 0] 77 (0,0)):=(K1.block _ (Nat.lt_of_lt_of_le r1 h1.size) (by omega)).trans ((h1.block _ r1).trans R1)
  have hb2:Below w.heap.size w W2:=hb1.trans ((h1.mono hb1.size).trans (K1.below (Nat.le_of_lt ly1) fun i hi e=>by omega))
  have z2:w.heap.size+2≤W2.heap.size:=Nat.le_trans (Nat.le_trans z1 h1.size) K1.size
  have J1:Kept (fun b=>b < w.heap.size+2) W1 W2:=((Kept.of_below (F:=fun b=>b < w.heap.size+2) h1)).trans K1 fun i hi e=>by omega
  have O1_2:qaz (fun b=>w.heap.size+2≤b∧b < W2.heap.size) W2 (.slice (some ⟨b1,0,none⟩) p.select.L.length k1) p.select.L:=by
    refine qaz.since (w:=v1) ((o1).more fun b e=> ?_) (K1.mono fun i hi e=>by omega)
    obtain ⟨b',cap,cur,e1,e2,e3,_⟩:=o1
    have:=qo e3
    subst e2
    subst e
    exact ⟨by omega,this⟩
  have O0_2:=O0_1.since J1
  clear x5_1 x6_1 x7_1 x8_1 x9_1 f1 y1 fy1 ly1 K1 J1 o1 h1 B1 R1 hb1 z1 g1 l1 r1 hW2 O0_1
  obtain ⟨_,_,_,_,_,x5_2,x6_2,x7_2,x8_2,x9_2,f2⟩:=podC B2
  have l2:=qo B2
  have r2:=qo R2
  go_upto_region 4 with (go_at_call 41;refine (c2 W2 hb2).mono ?_;rintro e v2 ⟨b2,k2,rfl,g2,o2,h2⟩;have y2:=(h2.cell (p:=⟨w.heap.size,7,none⟩) l2).trans x7_2;have fy2:=(h2.frozen (p:=⟨w.heap.size,7,none⟩) l2).trans (f2 7);have ly2:w.heap.size < v2.heap.size:=Nat.lt_of_lt_of_le l2 h2.size)
  obtain ⟨W3,hW3⟩: ∃ W,W=v2.setCell ⟨w.heap.size,7,none⟩ (.slice (some ⟨b2,0,none⟩) p.bears.L.length k2):=⟨_,rfl⟩
  rw [← hW3]
  have K2:Kept (fun b=>b=w.heap.size) v2 W3:=by rw [hW3];exact (Kept.refl (fun b=>b=w.heap.size) v2).setCell (p:=⟨w.heap.size,7,none⟩) (fun _=>rfl) _
  have B3:W3.heap[w.heap.size]? =some (.cells #[.string p.name,.int .i64 p.n0,.int .i64 p.n1,.int .i64 p.n2,.int .i64 p.port,.slice (some ⟨b0,0,none⟩) p.labels.L.length k0,.slice (some ⟨b1,0,none⟩) p.select.L.length k1,.slice (some ⟨b2,0,none⟩) p.bears.L.length k2,.slice p.near.a p.near.L.length p.near.cap,.slice p.apart.a p.apart.L.length p.apart.cap] 77 (0,0)):=by
    rw [hW3]
    have:=qs ((h2.block _ l2).trans B2) (i:=7) (.slice (some ⟨b2,0,none⟩) p.bears.L.length k2)
    rw [this]
    simp
  have R3:W3.heap[w.heap.size+1]? =some (.cells #[.string ⟨#[]⟩,.int .i64 0,.int .i64 0,.int .i64 0,.int .i64 0,.slice none 0 0,.slice none 0 0,.slice none 0 0,.slice none 0 0,.slice none 0 0] 77 (0,0)):=(K2.block _ (Nat.lt_of_lt_of_le r2 h2.size) (by omega)).trans ((h2.block _ r2).trans R2)
  have hb3:Below w.heap.size w W3:=hb2.trans ((h2.mono hb2.size).trans (K2.below (Nat.le_of_lt ly2) fun i hi e=>by omega))
  have z3:w.heap.size+2≤W3.heap.size:=Nat.le_trans (Nat.le_trans z2 h2.size) K2.size
  have J2:Kept (fun b=>b < w.heap.size+2) W2 W3:=((Kept.of_below (F:=fun b=>b < w.heap.size+2) h2)).trans K2 fun i hi e=>by omega
  have O2_3:qaz (fun b=>w.heap.size+2≤b∧b < W3.heap.size) W3 (.slice (some ⟨b2,0,none⟩) p.bears.L.length k2) p.bears.L:=by
    refine qaz.since (w:=v2) ((o2).more fun b e=> ?_) (K2.mono fun i hi e=>by omega)
    obtain ⟨b',cap,cur,e1,e2,e3,_⟩:=o2
    have:=qo e3
    subst e2
    subst e
    exact ⟨by omega,this⟩
  have O0_3:=O0_2.since J2
  have O1_3:=O1_2.since J2
  clear x5_2 x6_2 x7_2 x8_2 x9_2 f2 y2 fy2 ly2 K2 J2 o2 h2 B2 R2 hb2 z2 g2 l2 r2 hW3 O0_2 O1_2
  obtain ⟨_,_,_,_,_,x5_3,x6_3,x7_3,x8_3,x9_3,f3⟩:=podC B3
  have l3:=qo B3
  have r3:=qo R3
  go_upto_region 5 with (go_at_call 41;refine (c3 W3 hb3).mono ?_;rintro e v3 ⟨b3,k3,rfl,g3,o3,h3⟩;have y3:=(h3.cell (p:=⟨w.heap.size,8,none⟩) l3).trans x8_3;have fy3:=(h3.frozen (p:=⟨w.heap.size,8,none⟩) l3).trans (f3 8);have ly3:w.heap.size < v3.heap.size:=Nat.lt_of_lt_of_le l3 h3.size)
  obtain ⟨W4,hW4⟩: ∃ W,W=v3.setCell ⟨w.heap.size,8,none⟩ (.slice (some ⟨b3,0,none⟩) p.near.L.length k3):=⟨_,rfl⟩
  rw [← hW4]
  have K3:Kept (fun b=>b=w.heap.size) v3 W4:=by rw [hW4];exact (Kept.refl (fun b=>b=w.heap.size) v3).setCell (p:=⟨w.heap.size,8,none⟩) (fun _=>rfl) _
  have B4:W4.heap[w.heap.size]? =some (.cells #[.string p.name,.int .i64 p.n0,.int .i64 p.n1,.int .i64 p.n2,.int .i64 p.port,.slice (some ⟨b0,0,none⟩) p.labels.L.length k0,.slice (some ⟨b1,0,none⟩) p.select.L.length k1,.slice (some ⟨b2,0,none⟩) p.bears.L.length k2,.slice (some ⟨b3,0,none⟩) p.near.L.length k3,.slice p.apart.a p.apart.L.length p.apart.cap] 77 (0,0)):=by
    rw [hW4]
    have:=qs ((h3.block _ l3).trans B3) (i:=8) (.slice (some ⟨b3,0,none⟩) p.near.L.length k3)
    rw [this]
    simp
  have R4:W4.heap[w.heap.size+1]? =some (.cells #[.string ⟨#[]⟩,.int .i64 0,.int .i64 0,.int .i64 0,.int .i64 0,.slice none 0 0,.slice none 0 0,.slice none 0 0,.slice none 0 0,.slice none 0 0] 77 (0,0)):=(K3.block _ (Nat.lt_of_lt_of_le r3 h3.size) (by omega)).trans ((h3.block _ r3).trans R3)
  have hb4:Below w.heap.size w W4:=hb3.trans ((h3.mono hb3.size).trans (K3.below (Nat.le_of_lt ly3) fun i hi e=>by omega))
  have z4:w.heap.size+2≤W4.heap.size:=Nat.le_trans (Nat.le_trans z3 h3.size) K3.size
  have J3:Kept (fun b=>b < w.heap.size+2) W3 W4:=((Kept.of_below (F:=fun b=>b < w.heap.size+2) h3)).trans K3 fun i hi e=>by omega
  have O3_4:qaz (fun b=>w.heap.size+2≤b∧b < W4.heap.size) W4 (.slice (some ⟨b3,0,none⟩) p.near.L.length k3) p.near.L:=by
    refine qaz.since (w:=v3) ((o3).more fun b e=> ?_) (K3.mono fun i hi e=>by omega)
    obtain ⟨b',cap,cur,e1,e2,e3,_⟩:=o3
    have:=qo e3
    subst e2
    subst e
    exact ⟨by omega,this⟩
  have O0_4:=O0_3.since J3
  have O1_4:=O1_3.since J3
  have O2_4:=O2_3.since J3
  clear x5_3 x6_3 x7_3 x8_3 x9_3 f3 y3 fy3 ly3 K3 J3 o3 h3 B3 R3 hb3 z3 g3 l3 r3 hW4 O0_3 O1_3 O2_3
  obtain ⟨_,_,_,_,_,x5_4,x6_4,x7_4,x8_4,x9_4,f4⟩:=podC B4
  have l4:=qo B4
  have r4:=qo R4
  go_upto_region 6 with (go_at_call 41;refine (c4 W4 hb4).mono ?_;rintro e v4 ⟨b4,k4,rfl,g4,o4,h4⟩;have y4:=(h4.cell (p:=⟨w.heap.size,9,none⟩) l4).trans x9_4;have fy4:=(h4.frozen (p:=⟨w.heap.size,9,none⟩) l4).trans (f4 9);have ly4:w.heap.size < v4.heap.size:=Nat.lt_of_lt_of_le l4 h4.size)
  obtain ⟨W5,hW5⟩: ∃ W,W=v4.setCell ⟨w.heap.size,9,none⟩ (.slice (some ⟨b4,0,none⟩) p.apart.L.length k4):=⟨_,rfl⟩
  rw [← hW5]
  have K4:Kept (fun b=>b=w.heap.size) v4 W5:=by rw [hW5];exact (Kept.refl (fun b=>b=w.heap.size) v4).setCell (p:=⟨w.heap.size,9,none⟩) (fun _=>rfl) _
  have B5:W5.heap[w.heap.size]? =some (.cells #[.string p.name,.int .i64 p.n0,.int .i64 p.n1,.int .i64 p.n2,.int .i64 p.port,.slice (some ⟨b0,0,none⟩) p.labels.L.length k0,.slice (some ⟨b1,0,none⟩) p.select.L.length k1,.slice (some ⟨b2,0,none⟩) p.bears.L.length k2,.slice (some ⟨b3,0,none⟩) p.near.L.length k3,.slice (some ⟨b4,0,none⟩) p.apart.L.length k4] 77 (0,0)):=by
    rw [hW5]
    have:=qs ((h4.block _ l4).trans B4) (i:=9) (.slice (some ⟨b4,0,none⟩) p.apart.L.length k4)
    rw [this]
    simp
  have R5:W5.heap[w.heap.size+1]? =some (.cells #[.string ⟨#[]⟩,.int .i64 0,.int .i64 0,.int .i64 0,.int .i64 0,.slice none 0 0,.slice none 0 0,.slice none 0 0,.slice none 0 0,.slice none 0 0] 77 (0,0)):=(K4.block _ (Nat.lt_of_lt_of_le r4 h4.size) (by omega)).trans ((h4.block _ r4).trans R4)
  have hb5:Below w.heap.size w W5:=hb4.trans ((h4.mono hb4.size).trans (K4.below (Nat.le_of_lt ly4) fun i hi e=>by omega))
  have z5:w.heap.size+2≤W5.heap.size:=Nat.le_trans (Nat.le_trans z4 h4.size) K4.size
  have J4:Kept (fun b=>b < w.heap.size+2) W4 W5:=((Kept.of_below (F:=fun b=>b < w.heap.size+2) h4)).trans K4 fun i hi e=>by omega
  have O4_5:qaz (fun b=>w.heap.size+2≤b∧b < W5.heap.size) W5 (.slice (some ⟨b4,0,none⟩) p.apart.L.length k4) p.apart.L:=by
    refine qaz.since (w:=v4) ((o4).more fun b e=> ?_) (K4.mono fun i hi e=>by omega)
    obtain ⟨b',cap,cur,e1,e2,e3,_⟩:=o4
    have:=qo e3
    subst e2
    subst e
    exact ⟨by omega,this⟩
  have O0_5:=O0_4.since J4
  have O1_5:=O1_4.since J4
  have O2_5:=O2_4.since J4
  have O3_5:=O3_4.since J4
  clear x5_4 x6_4 x7_4 x8_4 x9_4 f4 y4 fy4 ly4 K4 J4 o4 h4 B4 R4 hb4 z4 g4 l4 r4 hW5 O0_4 O1_4 O2_4 O3_4
  obtain ⟨x0,x1,x2,x3,x4,x5,x6,x7,x8,x9,f⟩:=podC B5
  obtain ⟨u0,u1,u2,u3,u4,u5,u6,u7,u8,u9,fr⟩:=podC R5
  have l:=qo B5
  have r:=qo R5
  go_wp2
  have hblk:=ten_cells R5 (.string p.name) (.int .i64 p.n0) (.int .i64 p.n1) (.int .i64 p.n2) (.int .i64 p.port) (.slice (some ⟨b0,0,none⟩) p.labels.L.length k0) (.slice (some ⟨b1,0,none⟩) p.select.L.length k1) (.slice (some ⟨b2,0,none⟩) p.bears.L.length k2) (.slice (some ⟨b3,0,none⟩) p.near.L.length k3) (.slice (some ⟨b4,0,none⟩) p.apart.L.length k4)
  refine bodyPost_ret (v:= .agg #[.string p.name,.int .i64 p.n0,.int .i64 p.n1,.int .i64 p.n2,.int .i64 p.port,.slice (some ⟨b0,0,none⟩) p.labels.L.length k0,.slice (some ⟨b1,0,none⟩) p.select.L.length k1,.slice (some ⟨b2,0,none⟩) p.bears.L.length k2,.slice (some ⟨b3,0,none⟩) p.near.L.length k3,.slice (some ⟨b4,0,none⟩) p.apart.L.length k4]) (results_box rfl rfl (run_loadVar_row _ _ _ _ _ _ _ hblk Tryz.underlying77 rfl sizeAP)) rfl ?_
  have K:=((((((((((Kept.refl (fun b=>b=w.heap.size+1) W5).setCell (p:=⟨w.heap.size+1,0,none⟩) (fun _=>rfl) (.string p.name)).setCell (p:=⟨w.heap.size+1,1,none⟩) (fun _=>rfl) (.int .i64 p.n0)).setCell (p:=⟨w.heap.size+1,2,none⟩) (fun _=>rfl) (.int .i64 p.n1)).setCell (p:=⟨w.heap.size+1,3,none⟩) (fun _=>rfl) (.int .i64 p.n2)).setCell (p:=⟨w.heap.size+1,4,none⟩) (fun _=>rfl) (.int .i64 p.port)).setCell (p:=⟨w.heap.size+1,5,none⟩) (fun _=>rfl) (.slice (some ⟨b0,0,none⟩) p.labels.L.length k0)).setCell (p:=⟨w.heap.size+1,6,none⟩) (fun _=>rfl) (.slice (some ⟨b1,0,none⟩) p.select.L.length k1)).setCell (p:=⟨w.heap.size+1,7,none⟩) (fun _=>rfl) (.slice (some ⟨b2,0,none⟩) p.bears.L.length k2)).setCell (p:=⟨w.heap.size+1,8,none⟩) (fun _=>rfl) (.slice (some ⟨b3,0,none⟩) p.near.L.length k3)).setCell (p:=⟨w.heap.size+1,9,none⟩) (fun _=>rfl) (.slice (some ⟨b4,0,none⟩) p.apart.L.length k4)
  have J:=K.mono (G:=fun b=>b < w.heap.size+2) fun i hi e=>by omega
  refine ⟨⟨p.name,p.n0,p.n1,p.n2,p.port,⟨some ⟨b0,0,none⟩,p.labels.L,k0⟩,⟨some ⟨b1,0,none⟩,p.select.L,k1⟩,⟨some ⟨b2,0,none⟩,p.bears.L,k2⟩,⟨some ⟨b3,0,none⟩,p.near.L,k3⟩,⟨some ⟨b4,0,none⟩,p.apart.L,k4⟩⟩,rfl,rfl,rfl,rfl,rfl,rfl,rfl,rfl,rfl,rfl,rfl,fun x hx=> ?_,hb5.trans (K.below (by omega) fun i hi e=>by omega)⟩
  simp only [PodD.lists,List.mem_cons,List.not_mem_nil,or_false] at hx
  rcases hx with rfl| rfl| rfl| rfl| rfl
  · exact (O0_5.since J).more fun b h=>⟨by omega,h.2⟩
  · exact (O1_5.since J).more fun b h=>⟨by omega,h.2⟩
  · exact (O2_5.since J).more fun b h=>⟨by omega,h.2⟩
  · exact (O3_5.since J).more fun b h=>⟨by omega,h.2⟩
  · exact (O4_5.since J).more fun b h=>⟨by omega,h.2⟩
end
section
open Go.RowKit Go.Maps Go.Conc
section
variable {F F':Nat→Prop} {w w':World} {Y:Nat} {hd:Head} {g:Gh}
theorem Off.chan {b:Nat} (t:TypeId) {cap:Nat} {buf:Array Value} {cl:Bool} {s r:Nat} {tm:Bool} (h:w.heap[b]? =some (.chan cap buf cl s r tm)):Off t (fun x=>x=b) w:=by
  rintro x c rfl e
  rw [h] at e
  cases e
theorem BMem.chan (H:BMem F w Y hd g) (hk:Kept (fun x=>x=g.bc) w w') (hF: ∀ b,F b→F' b) (hlt: ∀ b,F' b→b < w'.heap.size) {W':List PodD} (hc:ChanAt F' w' g.bc W'):BMem F' w' Y hd { g with WW:=W' }:=by
  obtain ⟨s,r,ho⟩:=H.ch.ob
  have off: ∀ t,Off t (fun x=>x=g.bc) w:=fun t=>Off.chan t ho
  have hm: ∀ b∈g.maps,¬ b=g.bc:=fun b hb e=>H.ch.nmap (H.isMap hb) e.symm
  exact ⟨hlt,hF _ H.fy,fun b hb=>hF _ (H.fm b hb),by rw [hk.block Y (qo H.box) (Ne.symm (H.ch.ncells H.box))];exact H.box,
    H.nd.kept hk (hm _ (by simp [Gh.maps])),H.pd.kept hk (hm _ (by simp [Gh.maps])),H.fr.kept hk (hm _ (by simp [Gh.maps])),H.vw.kept hk (hm _ (by simp [Gh.maps])),H.an.kept hk (hm _ (by simp [Gh.maps])),
    fun p hp=>(H.nn p hp).kept hk (off _) hF,fun p hp=>(H.pp p hp).kept hk (off _) ((H.pp p hp).off (off _)) hF,fun p hp=>(H.vv p hp).kept hk (off _) hF,fun p hp=>(H.aa p hp).kept hk (hm _ (H.inA hp)),H.dist,H.ppd,hc⟩
theorem Kept.setChan {G:Nat→Prop} {a:World} {c:Nat} (h:Kept G a w) (hc:c < a.heap.size→G c) (cap:Nat) (buf:Array Value) (cl:Bool) (s r:Nat) (tm:Bool):Kept G a (w.setChan c cap buf cl s r tm):=
  h.trans (F:=G) (G:=fun b=>b=c) ⟨rfl,rfl,rfl,by simp [World.setChan],fun i hi hne=>by simp only [World.setChan];rw [Array.getElem?_setIfInBounds_ne (Ne.symm hne)]⟩ fun i hi e=>by subst e;exact hc hi
end
end
section
open Go.RowKit Go.Maps Go.Conc
section
variable {F:Nat→Prop} {w:World} {Y:Nat} {hd:Head} {g:Gh}
theorem queue_bad (p:PodD) (hok:p.ok w) (h0:p.err≠0):
    Calls Tryz.prog 31 #[.pointer (some ⟨Y,0,none⟩),.agg p.cells] w fun e w'=>e= .returned (.int .i64 p.err)∧Below w.heap.size w w':=by
  have hW0:Below w.heap.size w (w.alloc (.cells p.cells 77)):=qi _ _
  have c1:=qee p (w.alloc (.cells p.cells 77)) (hok.below hW0)
  have h0':(p.err==0)=false:=by simpa using h0
  have h0'':(p.err != 0)=true:=by simpa using h0
  clear h0
  unfold PodD.cells Lst.val at c1 hW0
  unfold PodD.cells Lst.val
  go_enter Tryz.func31,Tryz.ntmps31
  go_wp2_with (first
    | (go_at_call 47;refine c1.mono ?_;rintro e w1 ⟨rfl,hb1⟩;have hW1:=qj hW0 hb1))
  go_ret
  exact ⟨rfl,hW1⟩
theorem queue_try (H:BMem F w Y hd g) (p:PodD) (hok:p.ok w) (h0:p.err=0):
    Calls Tryz.prog 31 #[.pointer (some ⟨Y,0,none⟩),.agg p.cells] w fun e w'=>(128≤g.WW.length∧e= .returned (.int .i64 6)∧Below w.heap.size w w')∨(g.WW.length < 128∧e= .returned (.int .i64 0)∧ ∃ q:PodD,q.name=p.name∧q.n0=p.n0∧q.n1=p.n1∧q.n2=p.n2∧q.port=p.port∧q.labels.L=p.labels.L∧q.select.L=p.select.L∧q.bears.L=p.bears.L∧q.near.L=p.near.L∧q.apart.L=p.apart.L∧BMem (grow F w w') w' Y hd { g with WW:=g.WW++ [q] }∧Kept F w w'):=by
  have hgf:=p.good_facts h0
  have hY:=H.lt Y H.fy
  have hW0:Below w.heap.size w (w.alloc (.cells p.cells 77)):=qi _ _
  have c1:=qee p (w.alloc (.cells p.cells 77)) (hok.below hW0)
  have c2:=fun W (hb:Below w.heap.size w W)=>copiedPod_any p W (hok.below hb) (fun x hx=>by have:=hgf.2 x hx;omega)
  rw [h0] at c1
  have hz0:w.heap.size < (w.alloc (.cells p.cells 77)).heap.size:=by simp
  have hzY:Y < (w.alloc (.cells p.cells 77)).heap.size:=by simp;omega
  have hBX:(w.alloc (.cells p.cells 77)).heap[w.heap.size]? =some (.cells p.cells 77 (0,0)):=qm _ _
  unfold PodD.cells Lst.val at c1 c2 hW0 hz0 hzY hBX
  unfold PodD.cells Lst.val
  go_enter Tryz.func31,Tryz.ntmps31
  go_upto_region 4 with (first
    | (go_at_call 47;refine c1.mono ?_;rintro e w1 ⟨rfl,hb1⟩;have hW1:=qj hW0 hb1))
  have BX1:=(hb1.block _ hz0).trans hBX
  have H1:=H.below hW1
  have hc9:w1.cell? ⟨Y,9,none⟩=some (.chan (some g.bc)):=by rw [ql H1.box];rfl
  have C2:=c2 w1 hW1
  obtain ⟨x0,x1,x2,x3,x4,x5,x6,x7,x8,x9,f⟩:=podC BX1
  have l1:=qo BX1
  have lY1:=H1.lt Y H1.fy
  have HH1:Hid (BMem F w1 Y hd g):=H1
  clear c1 c2 H1 hBX BX1 hz0 hzY hgf
  go_upto_region 6 with (go_at_call 60;refine C2.mono ?_;rintro e w2 ⟨q,rfl,q0,q1,q2,q3,q4,q5,q6,q7,q8,q9,ho,hb2⟩;have HQ:Hid (q.name=p.name∧q.n0=p.n0∧q.n1=p.n1∧q.n2=p.n2∧q.port=p.port∧q.labels.L=p.labels.L∧q.select.L=p.select.L∧q.bears.L=p.bears.L∧q.near.L=p.near.L∧q.apart.L=p.apart.L):=⟨q0,q1,q2,q3,q4,q5,q6,q7,q8,q9⟩;clear q0 q1 q2 q3 q4 q5 q6 q7 q8 q9;have HO:Hid _:=ho;clear ho)
  have H2:=HH1.out.below hb2
  obtain ⟨s,r,ob⟩:=H2.ch.ob
  have hle:=H2.ch.le
  have HH2:Hid (BMem F w2 Y hd g):=H2
  have hW2:=qj hW1 hb2
  clear H2 C2 x0 x1 x2 x3 x4 x5 x6 x7 x8 x9 f hc9 HH1
  by_cases hfull:g.WW.length < 128
  · refine wp_sel_send (c:=g.bc) (v:= .agg #[.string q.name,.int .i64 q.n0,.int .i64 q.n1,.int .i64 q.n2,.int .i64 q.port,.slice q.labels.a q.labels.L.length q.labels.cap,.slice q.select.a q.select.L.length q.select.cap,.slice q.bears.a q.bears.L.length q.bears.cap,.slice q.near.a q.near.L.length q.near.cap,.slice q.apart.a q.apart.L.length q.apart.cap]) (z':= .agg #[.string ⟨#[]⟩,.int .i64 0,.int .i64 0,.int .i64 0,.int .i64 0,.slice none 0 0,.slice none 0 0,.slice none 0 0,.slice none 0 0,.slice none 0 0]) rfl rfl ?_ ob (by simpa using hfull) ?_
    · simp [go_sem,execOp,scase,Act.eval]
    · go_wp2
      go_ret
      refine .inr ⟨hfull,rfl,q,HQ.out.1,HQ.out.2.1,HQ.out.2.2.1,HQ.out.2.2.2.1,HQ.out.2.2.2.2.1,HQ.out.2.2.2.2.2.1,HQ.out.2.2.2.2.2.2.1,HQ.out.2.2.2.2.2.2.2.1,HQ.out.2.2.2.2.2.2.2.2.1,HQ.out.2.2.2.2.2.2.2.2.2,?_,?_⟩
      · have K:Kept (fun x=>x=g.bc) w2 _:=(Kept.refl (fun x=>x=g.bc) w2).setChan (fun _=>rfl) 128 ((g.WW.map fun (p:PodD)=>Value.agg p.cells)++ [Value.agg q.cells]).toArray false (s+1) r false
        have hs2:=hW2.size
        have hs3:=K.size
        have off:Off 85 (fun x=>x=g.bc) w2:=Off.chan _ ob
        refine HH2.out.chan (F':=grow F w _) K (fun b h=> .inl h) (fun b h=> ?_) ⟨.inl H.ch.fb,⟨s+1,r,?_⟩,?_,fun x hx=> ?_⟩
        · rcases h with h| h
          · exact Nat.lt_of_lt_of_le (H.lt b h) (Nat.le_trans hs2 hs3)
          · exact h.2
        · rw [List.map_append,List.map_cons,List.map_nil]
          exact heap_setChan w2 g.bc 128 _ false (s+1) r false (qo ob)
        · rw [List.length_append,List.length_singleton]
          omega
        · rcases List.mem_append.1 hx with hx| hx
          · obtain ⟨h1,h2,h3⟩:=HH2.out.ch.ps x hx
            exact ⟨h1,h2,fun y hy=>(h3 y hy).kept K off fun b h=> .inl h⟩
          · rw [List.mem_singleton] at hx
            subst hx
            have hg:x.good=true:=by
              rw [← (PodD.err_good (p:=p)).1 h0]
              obtain ⟨e0,e1,e2,e3,e4,e5,e6,e7,e8,e9⟩:=HQ.out
              unfold PodD.good PodD.lists
              simp only [List.all_cons,List.all_nil]
              rw [e0,e1,e2,e3,e4,e5,e6,e7,e8,e9]
            refine ⟨hg,by rw [HQ.out.1];exact hok.1,fun y hy=>((HO.out y hy).kept K off fun b h=> .inr ⟨?_,Nat.lt_of_lt_of_le h.2 hs3⟩)⟩
            exact Nat.le_trans hW1.size h.1
      · exact (Kept.of_below hW2).setChan (fun _=>H.ch.fb) _ _ _ _ _ _
  · refine wp_sel_full (c:=g.bc) (v:= .agg #[.string q.name,.int .i64 q.n0,.int .i64 q.n1,.int .i64 q.n2,.int .i64 q.port,.slice q.labels.a q.labels.L.length q.labels.cap,.slice q.select.a q.select.L.length q.select.cap,.slice q.bears.a q.bears.L.length q.bears.cap,.slice q.near.a q.near.L.length q.near.cap,.slice q.apart.a q.apart.L.length q.apart.cap]) (z':= .agg #[.string ⟨#[]⟩,.int .i64 0,.int .i64 0,.int .i64 0,.int .i64 0,.slice none 0 0,.slice none 0 0,.slice none 0 0,.slice none 0 0,.slice none 0 0]) rfl rfl ?_ ob (by simpa using hfull) ?_
    · simp [go_sem,execOp,scase,Act.eval]
    · go_wp2
      go_ret
      exact .inl ⟨by omega,rfl,hW2⟩
def Gh.queueErr (g:Gh) (p:PodD):Int:=if p.err≠0 then p.err else if 128≤g.WW.length then 6 else 0
end
end
end Go.Proofs.YtchddaafibjmgaaGreat
