import Derived.Test.YtchddaafibjmgaaGreatMA12
import Derived.StillTailTactics
set_option maxRecDepth 100000
set_option maxHeartbeats 20000000
namespace Go.Proofs.YtchddaafibjmgaaGreat
section
open Go.RowKit Go.Maps
section
variable {F:Nat→Prop} {w w':World} {Y:Nat} {hd:Head} {g:Gh}
theorem BMem.setA (H:BMem F w Y hd g) (hk:Kept (fun x=>x=g.ba) w w') {AA:List (qn×(Nat×List (qn×(Int×Int))))} (hm:qai Tryz.prog w' 158 g.ba (mapV (fun x=>Value.map (some x.1)) AA)) (hv: ∀ p∈AA,F p.2.1∧qai Tryz.prog w' 9 p.2.1 (mapV ansV p.2.2)) (hd':({ g with AA:=AA }:Gh).maps.Nodup):BMem F w' Y hd { g with AA:=AA }:=by
  have n:=H.ne5
  obtain ⟨t1,t2,t3,t4,t5,t6,t7⟩:=H.turn (by simp [Gh.maps]) hk
  refine ⟨t1,H.fy,fun b hb=> ?_,t2,t6 _ n.2.2.2.1 _ _ H.nd,t6 _ n.2.2.2.2.2.2.1 _ _ H.pd,t6 _ n.2.2.2.2.2.2.2.2.1 _ _ H.fr,t6 _ n.2.2.2.2.2.2.2.2.2 _ _ H.vw,hm,t3,t4,t5,fun p hp=>(hv p hp).2,hd',H.ppd,t7⟩
  unfold Gh.maps at hb
  rcases List.mem_append.1 hb with hb| hb
  · exact H.fm b (List.mem_append_left _ hb)
  · obtain ⟨p,hp,rfl⟩:=List.mem_map.1 hb
    exact (hv p hp).1
theorem BMem.clearA (H:BMem F w Y hd g) (hk:Kept (fun x=>x=g.ba) w w') (hm:qai Tryz.prog w' 158 g.ba []):BMem F w' Y hd { g with AA:= [] }:=
  H.setA hk hm (by simp) (by
    have d:=H.dist
    unfold Gh.maps at d ⊢
    rw [List.nodup_append] at d
    simpa using d.1)
theorem BMem.putA (H:BMem F w Y hd g) (hk:Kept (fun x=>x=g.ba) w w') {k:qn} {b:Nat} (hm:qai Tryz.prog w' 158 g.ba (mapV (fun x=>Value.map (some x.1)) (putL g.AA k (b,[])))) (hb:F b) (hn:b∉g.maps) (hM:qai Tryz.prog w' 9 b []):BMem F w' Y hd { g with AA:=putL g.AA k (b,[]) }:=by
  have hin: ∀ p∈putL g.AA k (b,[]),p=(k,(b,[]))∨p∈g.AA:=fun p hp=>(qfp.1 hp).imp id And.left
  refine H.setA hk hm (fun p hp=> ?_) ?_
  · rcases hin p hp with rfl| h
    · exact ⟨hb,hM⟩
    · exact ⟨H.fm _ (H.inA h),(H.aa p h).kept hk (H.neA h).2.2.2.2⟩
  · have d:=H.dist
    unfold Gh.maps at d hn ⊢
    rw [List.mem_append,not_or] at hn
    rw [List.nodup_append] at d ⊢
    refine ⟨d.1,?_,fun x hx y hy e=> ?_⟩
    · exact nodup_putL (f:=fun p:qn×(Nat×List (qn×(Int×Int)))=>p.2.1) d.2.1 fun p hp e=>hn.2 (List.mem_map.2 ⟨p,hp,e⟩)
    · obtain ⟨p,hp,rfl⟩:=List.mem_map.1 hy
      rcases hin p hp with rfl| h
      · subst e;exact hn.1 hx
      · exact d.2.2 x hx _ (List.mem_map.2 ⟨p,h,rfl⟩) e
end
section
variable {P:Program} {ops:Array Oper} {C:World→Prop} {Q:Act→Prop} {rest:List Oper} {o:Oper} {a:Act}
theorem qfh (hg:o.guard=none) (t:TypeId) (x:Operand) (hop:o.op=Op.load t x) (v:Value) (hx:a.eval x=v) (r:Value) (hrun: ∀ w,C w→(Instr.loadAt t v).run P w= .ok r w) (hK:wpQuiet P ops C Q rest (a.put o.dst r)):wpQuiet P ops C Q (o::rest) a:=by
  unfold wpQuiet
  rw [if_pos (by simp [Region.wanted,hg])]
  refine ⟨r,fun w hw=> ?_,hK⟩
  unfold Oper.quietAt
  simp [execOp,hop,hx,hrun w hw,Result.andThen,Oper.quietUpon]
theorem qfv (hg:o.guard=none) (t:TypeId) (m x:Operand) (hop:o.op=Op.lookup t m x true) (mv v:Value) (hm:a.eval m=mv) (hx:a.eval x=v) (r:Value) (hrun: ∀ w,C w→(Instr.lookup t mv v true).run P w= .ok r w) (hK:wpQuiet P ops C Q rest (a.put o.dst r)):wpQuiet P ops C Q (o::rest) a:=by
  unfold wpQuiet
  rw [if_pos (by simp [Region.wanted,hg])]
  refine ⟨r,fun w hw=> ?_,hK⟩
  unfold Oper.quietAt
  simp [execOp,hop,hm,hx,hrun w hw,Result.andThen,Oper.quietUpon]
end
theorem zeroInner (w:World):(zeroValue 159).run Tryz.prog w= .ok (.map none) w:=by kernel_rfl
theorem known_no {F:Nat→Prop} {w:World} {Y:Nat} {hd:Head} {g:Gh} (H:BMem F w Y hd g) (hr:hd.rem=false) (p:PodD):
    Calls Tryz.prog 85 #[.pointer (some ⟨Y,0,none⟩),.agg p.cells] w fun e w'=> ∃ b,e= .returned (.map (some b))∧w.heap.size≤b∧qai Tryz.prog w' 9 b []∧Below w.heap.size w w':=by
  have hmm:= @run_makeMap Tryz.prog
  have hx1:=H.cells.2.1
  rw [hr] at hx1
  have hY:=H.lt Y H.fy
  have man:=qai.made Tryz.prog (w.alloc (.cells p.cells 77)) 9
  rw [World.size_alloc] at man
  clear H
  go_enter Tryz.func85,Tryz.ntmps85
  go_wp2
  go_ret
  exact ⟨_,rfl,Nat.le_succ _,man,qj (qi _ _) (qi _ _)⟩
theorem known_there {F:Nat→Prop} {w:World} {Y:Nat} {hd:Head} {g:Gh} (H:BMem F w Y hd g) (hr:hd.rem=true) (p:PodD) (hok:p.ok w) (hf:p.val.Fine) {x:Nat×List (qn×(Int×Int))} (hx:getL g.AA (qd8 p.val)=some x):
    Calls Tryz.prog 85 #[.pointer (some ⟨Y,0,none⟩),.agg p.cells] w fun e w'=>e= .returned (.map (some x.1))∧Below w.heap.size w w':=by
  have hmm:= @run_makeMap Tryz.prog
  have hx1:=H.cells.2.1
  rw [hr] at hx1
  have hY:=H.lt Y H.fy
  have HH:Hid (BMem F w Y hd g):=H
  have hok':=hok
  have hW0:Below w.heap.size w (w.alloc (.cells p.cells 77)):=qi _ _
  have cK:=kind_any (w:=w.alloc (.cells p.cells 77)) p ⟨hok.1,fun y hy=>(hok.2 y hy).below hW0⟩ (fun y hy=>hf.len y.L (by simp only [PodD.lists,List.mem_cons,List.not_mem_nil,or_false] at hy;simp only [PodV.lists,PodD.val,List.mem_cons,List.not_mem_nil,or_false];rcases hy with rfl| rfl| rfl| rfl| rfl<;>simp))
  have hkey:=key_kind (qet p.val hf)
  have hKs:=qfe p.val
  have hK1:(qcl p.val).all (·.oneCell')=true:=kindTo_one (kind0_one _ _ _ _) _ _
  rw [show qeb (kind0 p.n0 p.n1 p.n2 p.port) p.val.lists 5=qcl p.val from rfl] at cK
  rw [show kindKey (qcl p.val)=qd8 p.val from rfl] at hkey
  generalize qd8 p.val=kv at *
  generalize qcl p.val=K at *
  have hz84:Tryz.zeroCells158.size=84:=by kernel_rfl
  have hi84:(Tryz.prog.info? 158).map (·.size)=some 84:=by kernel_rfl
  have HS:Hid (∀ W:World,(Instr.storeAt 158 (.pointer (some ⟨W.heap.size,0,none⟩)) (.agg K)).run Tryz.prog (W.alloc (.cells Tryz.zeroCells158 158))= .ok () (W.alloc (.cells K 158))):=fun W=>run_storeAt_new W 158 _ _ (by rw [hKs];exact hi84) (by rw [hKs];exact hz84) hK1
  have HL:Hid (∀ (W:World) (n:Nat),(Instr.loadAt 158 (.pointer (some ⟨W.heap.size,0,none⟩))).run Tryz.prog ((W.alloc (.cells K 158)).drewN n)= .ok (.agg K) ((W.alloc (.cells K 158)).drewN n)):=fun W n=>by
    simp only [Instr.loadAt,Instr.sureAddr,Sem.run_bind,Sem.run_pure,Result.andThen]
    exact run_loadVar_row _ _ _ _ _ _ _ (qm W _) Tryz.underlying158 rfl (by rw [hKs];exact hi84)
  have hLK: ∀ (n:Nat) (W:World),Below w.heap.size w W→(Instr.lookup 116 (.map (some g.ba)) (.agg K) true).run Tryz.prog (W.drewN n)= .ok (.tuple #[.map (some x.1),.bool true]) (W.drewN n):=fun n W hW=>by
    have h:=(HH.out.below (below_drewN hW n)).an.look_ok kindK Tryz.underlying116 (zeroInner _) hkey
    rw [qz,hx] at h
    exact h
  clear H hz84 hi84 hKs hK1 hok hok'
  have hpc:p.cells= #[.string p.name,.int .i64 p.n0,.int .i64 p.n1,.int .i64 p.n2,.int .i64 p.port,.slice p.labels.a p.labels.L.length p.labels.cap,.slice p.select.a p.select.L.length p.select.cap,.slice p.bears.a p.bears.L.length p.bears.cap,.slice p.near.a p.near.L.length p.near.cap,.slice p.apart.a p.apart.L.length p.apart.cap]:=rfl
  rw [hpc] at cK hW0 ⊢
  go_enter Tryz.func85,Tryz.ntmps85
  go_wp2_with (first
    | (go_at_call 96;refine cK.mono ?_;rintro e wk ⟨rfl,hbk⟩;have hst:=HS.out wk;have hbW:Below w.heap.size w (wk.alloc (.cells K 158)):=qj (qj hW0 hbk) (qi _ _);have x8:=(HH.out.below hbW).cA;have hld:=HL.out wk;have hlk:=fun n=>hLK n _ hbW)
    | (refine qeg rfl rfl 158 _ _ rfl _ _ rfl rfl hst ?_)
)
  refine wp_region_quiet_lit (by kernel_rfl) (by kernel_rfl) ?_
  iterate 5 (go_big_quiet_step (fail))
  refine qfh rfl 158 _ rfl _ rfl (.agg K) (fun W hW=>by obtain ⟨n,rfl⟩:=hW;exact hld n) ?_
  go_simp
  refine qfv rfl 116 _ _ rfl (.map (some g.ba)) (.agg K) rfl rfl (.tuple #[.map (some x.1),.bool true]) (fun W hW=>by obtain ⟨n,rfl⟩:=hW;exact hlk n) ?_
  go_simp
  repeat (go_big_quiet_step (fail))
  refine wpQuiet_nil ?_
  intro nq
  go_wp2
  go_ret
  exact ⟨rfl,below_drewN hbW _⟩
end
section
open Go.RowKit Go.Maps
section
variable {P:Program} {ops:Array Oper} {w:World} {Q:Act→Prop} {rest:List Oper} {o:Oper} {a:Act}
theorem wpStill_load_big (hg:o.guard=none) (t:TypeId) (x:Operand) (hop:o.op=Op.load t x) (v:Value) (hx:a.eval x=v) (r:Value) (hrun:(Instr.loadAt t v).run P w= .ok r w) (hK:wpStill P ops w Q rest (a.put o.dst r)):wpStill P ops w Q (o::rest) a:=by
  unfold wpStill
  rw [if_pos (by simp [Region.wanted,hg])]
  unfold Oper.still
  simp [execOp,hop,hx,hrun,Result.andThen,Oper.stillUpon]
  exact hK
end
theorem region_tail {P:Program} {id:Nat} {Q:Exit→Act→World→Prop} {a:Act} {w:World} {l:List Oper} (n:Nat) (hm:P.follows .mixedOrders=true) (hB:Region.lexTailB .any l.toArray n=true)
    (h:wpStill P l.toArray w.drew (fun a'=>wpList P l.toArray Q (l.drop n) a' w.drew) (l.take n) a):(Code.region id l.toArray true).wp P Q a w:=wp_region_still_tail n hm hB h
theorem known_new {F:Nat→Prop} {w:World} {Y:Nat} {hd:Head} {g:Gh} (H:BMem F w Y hd g) (hr:hd.rem=true) (p:PodD) (hok:p.ok w) (hf:p.val.Fine) (hx:getL g.AA (qd8 p.val)=none) (hA:g.AA.length < 128):
    Calls Tryz.prog 85 #[.pointer (some ⟨Y,0,none⟩),.agg p.cells] w fun e w'=> ∃ b,e= .returned (.map (some b))∧w.heap.size≤b∧BMem (grow F w w') w' Y hd { g with AA:=putL g.AA (qd8 p.val) (b,[]) }∧Kept (fun z=>z=g.ba) w w':=by
  have hmm:= @run_makeMap Tryz.prog
  have hx1:=H.cells.2.1
  rw [hr] at hx1
  have hY:=H.lt Y H.fy
  have HH:Hid (BMem F w Y hd g):=H
  have hok':=hok
  have hW0:Below w.heap.size w (w.alloc (.cells p.cells 77)):=qi _ _
  have cK:=kind_any (w:=w.alloc (.cells p.cells 77)) p ⟨hok.1,fun y hy=>(hok.2 y hy).below hW0⟩ (fun y hy=>hf.len y.L (by simp only [PodD.lists,List.mem_cons,List.not_mem_nil,or_false] at hy;simp only [PodV.lists,PodD.val,List.mem_cons,List.not_mem_nil,or_false];rcases hy with rfl| rfl| rfl| rfl| rfl<;>simp))
  have hkey:=key_kind (qet p.val hf)
  have hKs:=qfe p.val
  have hK1:(qcl p.val).all (·.oneCell')=true:=kindTo_one (kind0_one _ _ _ _) _ _
  rw [show qeb (kind0 p.n0 p.n1 p.n2 p.port) p.val.lists 5=qcl p.val from rfl] at cK
  rw [show kindKey (qcl p.val)=qd8 p.val from rfl] at hkey
  generalize qd8 p.val=kv at *
  generalize qcl p.val=K at *
  have hz84:Tryz.zeroCells158.size=84:=by kernel_rfl
  have hi84:(Tryz.prog.info? 158).map (·.size)=some 84:=by kernel_rfl
  have HS:Hid (∀ W:World,(Instr.storeAt 158 (.pointer (some ⟨W.heap.size,0,none⟩)) (.agg K)).run Tryz.prog (W.alloc (.cells Tryz.zeroCells158 158))= .ok () (W.alloc (.cells K 158))):=fun W=>run_storeAt_new W 158 _ _ (by rw [hKs];exact hi84) (by rw [hKs];exact hz84) hK1
  have HL:Hid (∀ (W:World) (n:Nat),(Instr.loadAt 158 (.pointer (some ⟨W.heap.size,0,none⟩))).run Tryz.prog ((W.alloc (.cells K 158)).drewN n)= .ok (.agg K) ((W.alloc (.cells K 158)).drewN n)):=fun W n=>by
    simp only [Instr.loadAt,Instr.sureAddr,Sem.run_bind,Sem.run_pure,Result.andThen]
    exact run_loadVar_row _ _ _ _ _ _ _ (qm W _) Tryz.underlying158 rfl (by rw [hKs];exact hi84)
  have hLK: ∀ (n:Nat) (W:World),Below w.heap.size w W→(Instr.lookup 116 (.map (some g.ba)) (.agg K) true).run Tryz.prog (W.drewN n)= .ok (.tuple #[.map none,.bool false]) (W.drewN n):=fun n W hW=>by
    have h:=(HH.out.below (below_drewN hW n)).an.look_ok kindK Tryz.underlying116 (zeroInner _) hkey
    rw [qz,hx] at h
    exact h
  have HKs:Hid (K.size=84):=hKs
  clear H hz84 hi84 hKs hK1 hok hok'
  have hpc:p.cells= #[.string p.name,.int .i64 p.n0,.int .i64 p.n1,.int .i64 p.n2,.int .i64 p.port,.slice p.labels.a p.labels.L.length p.labels.cap,.slice p.select.a p.select.L.length p.select.cap,.slice p.bears.a p.bears.L.length p.bears.cap,.slice p.near.a p.near.L.length p.near.cap,.slice p.apart.a p.apart.L.length p.apart.cap]:=rfl
  rw [hpc] at cK hW0 ⊢
  go_enter Tryz.func85,Tryz.ntmps85
  go_wp2_with (first
    | (go_at_call 96;refine cK.mono ?_;rintro e wk ⟨rfl,hbk⟩;have hst:=HS.out wk;have hbW:Below w.heap.size w (wk.alloc (.cells K 158)):=qj (qj hW0 hbk) (qi _ _);have x8:=(HH.out.below hbW).cA;have hld:=HL.out wk;have hlk:=fun n=>hLK n _ hbW)
    | (refine qeg rfl rfl 158 _ _ rfl _ _ rfl rfl hst ?_)
)
  refine wp_region_quiet_lit (by kernel_rfl) (by kernel_rfl) ?_
  iterate 5 (go_big_quiet_step (fail))
  refine qfh rfl 158 _ rfl _ rfl (.agg K) (fun W hW=>by obtain ⟨n,rfl⟩:=hW;exact hld n) ?_
  go_simp
  refine qfv rfl 116 _ _ rfl (.map (some g.ba)) (.agg K) rfl rfl (.tuple #[.map none,.bool false]) (fun W hW=>by obtain ⟨n,rfl⟩:=hW;exact hlk n) ?_
  go_simp
  repeat (go_big_quiet_step (fail))
  refine wpQuiet_nil ?_
  intro nq
  have HW:=HH.out.below (below_drewN hbW nq)
  have hln:=fun ty=>HW.an.len Tryz.underlying116 ty
  rw [qw] at hln
  have hlc:decide ((128:Int)≤(g.AA.length:Int))=false:=decide_eq_false (by omega)
  go_wp2
  have hb5:Below w.heap.size w (((wk.alloc (.cells K 158)).drewN nq).alloc (.map #[] 0)).drew:=(qj (below_drewN hbW nq) (qi _ _)).drew
  have hblk5:(((wk.alloc (.cells K 158)).drewN nq).alloc (.map #[] 0)).drew.heap[wk.heap.size]? =some (.cells K 158 (0,0)):=((qi ((wk.alloc (.cells K 158)).drewN nq) (.map #[] 0)).drew.block wk.heap.size (by simp)).trans (qm wk _)
  have hld5:(Instr.loadAt 158 (.pointer (some ⟨wk.heap.size,0,none⟩))).run Tryz.prog (((wk.alloc (.cells K 158)).drewN nq).alloc (.map #[] 0)).drew= .ok (.agg K) (((wk.alloc (.cells K 158)).drewN nq).alloc (.map #[] 0)).drew:=by
    simp only [Instr.loadAt,Instr.sureAddr,Sem.run_bind,Sem.run_pure,Result.andThen]
    exact run_loadVar_row _ _ _ _ _ _ _ hblk5 Tryz.underlying158 rfl (by rw [HKs.out];kernel_rfl)
  have man5:qai Tryz.prog (((wk.alloc (.cells K 158)).drewN nq).alloc (.map #[] 0)).drew 9 (wk.heap.size+1) []:=by
    have h:=qai.made Tryz.prog ((wk.alloc (.cells K 158)).drewN nq) 9
    rw [show ((wk.alloc (.cells K 158)).drewN nq).heap.size=wk.heap.size+1 by simp] at h
    exact h.kept (Kept.refl qq _).drew id
  have hsz5:wk.heap.size+1 < (((wk.alloc (.cells K 158)).drewN nq).alloc (.map #[] 0)).drew.heap.size:=by simp
  have hwk:w.heap.size≤wk.heap.size:=Nat.le_trans hW0.size hbk.size
  refine region_tail 7 (by kernel_rfl) (by kernel_rfl) ?_
  simp only [List.take_succ_cons,List.take_zero,List.drop_succ_cons,List.drop_zero]
  generalize (((wk.alloc (.cells K 158)).drewN nq).alloc (.map #[] 0)).drew=W5 at *
  have H5:=HH.out.below hb5
  have x85:=H5.cA
  have H5':=H5.more (F':=grow F w W5) (fun b h=> .inl h) (fun b h=>h.elim (fun h=>H5.lt b h) (fun h=>h.2))
  obtain ⟨W6,hs6,hm6,ht6⟩:=H5.an.store (val:= .map (some (wk.heap.size+1))) kindK Tryz.underlying116 (by rw [qw];unfold maxLen;omega) hkey
  have hk6:=Kept.turned ht6
  iterate 5 still_step
  refine wpStill_load_big rfl 158 _ rfl _ rfl (.agg K) (by exact hld5) ?_
  go_simp
  still_step
  refine wpStill_nil ?_
  go_wp2
  go_ret
  have hltm: ∀ b∈g.maps,b < w.heap.size:=fun b hb=>HH.out.lt b (HH.out.fm b hb)
  have hba:g.ba < w.heap.size:=hltm g.ba (by simp [Gh.maps])
  rw [qds (fun x:Nat×List (qn×(Int×Int))=>Value.map (some x.1)) g.AA kv (wk.heap.size+1,[])] at hm6
  have H6:=H5'.putA (k:=kv) (b:=wk.heap.size+1) hk6 hm6 (.inr ⟨by omega,hsz5⟩) (fun h=>by have:=hltm _ h;omega) (man5.kept hk6 (by omega))
  exact ⟨wk.heap.size+1,rfl,by omega,H6.more (fun b h=>h.imp id fun h=>⟨h.1,Nat.lt_of_lt_of_le h.2 hk6.size⟩) (fun b h=>h.elim (fun h=>Nat.lt_of_lt_of_le (H5.lt b h) hk6.size) (fun h=>h.2)),(Kept.of_below hb5).trans hk6 fun _ _ h=>h⟩
end
section
open Go.RowKit Go.Maps
theorem known_full {F:Nat→Prop} {w:World} {Y:Nat} {hd:Head} {g:Gh} (H:BMem F w Y hd g) (hr:hd.rem=true) (p:PodD) (hok:p.ok w) (hf:p.val.Fine) (hx:getL g.AA (qd8 p.val)=none) (hA:128≤g.AA.length):
    Calls Tryz.prog 85 #[.pointer (some ⟨Y,0,none⟩),.agg p.cells] w fun e w'=> ∃ b,e= .returned (.map (some b))∧w.heap.size≤b∧BMem (grow F w w') w' Y hd { g with AA:=putL [] (qd8 p.val) (b,[]) }∧Kept (fun z=>z=g.ba) w w':=by
  have hmm:= @run_makeMap Tryz.prog
  have hx1:=H.cells.2.1
  rw [hr] at hx1
  have hY:=H.lt Y H.fy
  have HH:Hid (BMem F w Y hd g):=H
  have hok':=hok
  have hW0:Below w.heap.size w (w.alloc (.cells p.cells 77)):=qi _ _
  have cK:=kind_any (w:=w.alloc (.cells p.cells 77)) p ⟨hok.1,fun y hy=>(hok.2 y hy).below hW0⟩ (fun y hy=>hf.len y.L (by simp only [PodD.lists,List.mem_cons,List.not_mem_nil,or_false] at hy;simp only [PodV.lists,PodD.val,List.mem_cons,List.not_mem_nil,or_false];rcases hy with rfl| rfl| rfl| rfl| rfl<;>simp))
  have hkey:=key_kind (qet p.val hf)
  have hKs:=qfe p.val
  have hK1:(qcl p.val).all (·.oneCell')=true:=kindTo_one (kind0_one _ _ _ _) _ _
  rw [show qeb (kind0 p.n0 p.n1 p.n2 p.port) p.val.lists 5=qcl p.val from rfl] at cK
  rw [show kindKey (qcl p.val)=qd8 p.val from rfl] at hkey
  generalize qd8 p.val=kv at *
  generalize qcl p.val=K at *
  have hz84:Tryz.zeroCells158.size=84:=by kernel_rfl
  have hi84:(Tryz.prog.info? 158).map (·.size)=some 84:=by kernel_rfl
  have HS:Hid (∀ W:World,(Instr.storeAt 158 (.pointer (some ⟨W.heap.size,0,none⟩)) (.agg K)).run Tryz.prog (W.alloc (.cells Tryz.zeroCells158 158))= .ok () (W.alloc (.cells K 158))):=fun W=>run_storeAt_new W 158 _ _ (by rw [hKs];exact hi84) (by rw [hKs];exact hz84) hK1
  have HL:Hid (∀ (W:World) (n:Nat),(Instr.loadAt 158 (.pointer (some ⟨W.heap.size,0,none⟩))).run Tryz.prog ((W.alloc (.cells K 158)).drewN n)= .ok (.agg K) ((W.alloc (.cells K 158)).drewN n)):=fun W n=>by
    simp only [Instr.loadAt,Instr.sureAddr,Sem.run_bind,Sem.run_pure,Result.andThen]
    exact run_loadVar_row _ _ _ _ _ _ _ (qm W _) Tryz.underlying158 rfl (by rw [hKs];exact hi84)
  have hLK: ∀ (n:Nat) (W:World),Below w.heap.size w W→(Instr.lookup 116 (.map (some g.ba)) (.agg K) true).run Tryz.prog (W.drewN n)= .ok (.tuple #[.map none,.bool false]) (W.drewN n):=fun n W hW=>by
    have h:=(HH.out.below (below_drewN hW n)).an.look_ok kindK Tryz.underlying116 (zeroInner _) hkey
    rw [qz,hx] at h
    exact h
  have HKs:Hid (K.size=84):=hKs
  clear H hz84 hi84 hKs hK1 hok hok'
  have hpc:p.cells= #[.string p.name,.int .i64 p.n0,.int .i64 p.n1,.int .i64 p.n2,.int .i64 p.port,.slice p.labels.a p.labels.L.length p.labels.cap,.slice p.select.a p.select.L.length p.select.cap,.slice p.bears.a p.bears.L.length p.bears.cap,.slice p.near.a p.near.L.length p.near.cap,.slice p.apart.a p.apart.L.length p.apart.cap]:=rfl
  rw [hpc] at cK hW0 ⊢
  go_enter Tryz.func85,Tryz.ntmps85
  go_wp2_with (first
    | (go_at_call 96;refine cK.mono ?_;rintro e wk ⟨rfl,hbk⟩;have hst:=HS.out wk;have hbW:Below w.heap.size w (wk.alloc (.cells K 158)):=qj (qj hW0 hbk) (qi _ _);have x8:=(HH.out.below hbW).cA;have hld:=HL.out wk;have hlk:=fun n=>hLK n _ hbW)
    | (refine qeg rfl rfl 158 _ _ rfl _ _ rfl rfl hst ?_)
)
  refine wp_region_quiet_lit (by kernel_rfl) (by kernel_rfl) ?_
  iterate 5 (go_big_quiet_step (fail))
  refine qfh rfl 158 _ rfl _ rfl (.agg K) (fun W hW=>by obtain ⟨n,rfl⟩:=hW;exact hld n) ?_
  go_simp
  refine qfv rfl 116 _ _ rfl (.map (some g.ba)) (.agg K) rfl rfl (.tuple #[.map none,.bool false]) (fun W hW=>by obtain ⟨n,rfl⟩:=hW;exact hlk n) ?_
  go_simp
  repeat (go_big_quiet_step (fail))
  refine wpQuiet_nil ?_
  intro nq
  have HW:=HH.out.below (below_drewN hbW nq)
  have hln:=fun ty=>HW.an.len Tryz.underlying116 ty
  rw [qw] at hln
  have hlc:decide ((128:Int)≤(g.AA.length:Int))=true:=decide_eq_true (by omega)
  obtain ⟨Wc,hcl,hmc,htc⟩:=HW.an.clearAll Tryz.underlying116
  have hkc:=Kept.turned htc
  have hKc:=hkc
  have Hc:=HW.clearA hkc hmc
  have x8c:=Hc.cA
  have hbc:w.heap.size≤Wc.heap.size:=Nat.le_trans (below_drewN hbW nq).size hkc.size
  go_wp2
  have hltm: ∀ b∈g.maps,b < w.heap.size:=fun b hb=>HH.out.lt b (HH.out.fm b hb)
  have hba:g.ba < w.heap.size:=hltm g.ba (by simp [Gh.maps])
  have hwk:w.heap.size≤wk.heap.size:=Nat.le_trans hW0.size hbk.size
  have hwc:wk.heap.size+1≤Wc.heap.size:=by
    have:=hKc.size
    simpa using this
  have hblk5:(Wc.alloc (.map #[] 0)).drew.heap[wk.heap.size]? =some (.cells K 158 (0,0)):=by
    rw [(qi Wc (.map #[] 0)).drew.block wk.heap.size (by omega),hKc.block wk.heap.size (by simp) (by omega)]
    exact qm wk _
  have hld5:(Instr.loadAt 158 (.pointer (some ⟨wk.heap.size,0,none⟩))).run Tryz.prog (Wc.alloc (.map #[] 0)).drew= .ok (.agg K) (Wc.alloc (.map #[] 0)).drew:=by
    simp only [Instr.loadAt,Instr.sureAddr,Sem.run_bind,Sem.run_pure,Result.andThen]
    exact run_loadVar_row _ _ _ _ _ _ _ hblk5 Tryz.underlying158 rfl (by rw [HKs.out];kernel_rfl)
  have man5:qai Tryz.prog (Wc.alloc (.map #[] 0)).drew 9 Wc.heap.size []:=(qai.made Tryz.prog Wc 9).kept (Kept.refl qq _).drew id
  have hsz5:Wc.heap.size < (Wc.alloc (.map #[] 0)).drew.heap.size:=by simp
  have H5:=Hc.below (qi Wc (.map #[] 0)).drew
  have hk5:Kept (fun z=>z=g.ba) w (Wc.alloc (.map #[] 0)).drew:=((Kept.of_below (below_drewN hbW nq)).trans hKc fun _ _ h=>h).trans (Kept.of_below (F:=fun z=>z=g.ba) (qi Wc (.map #[] 0)).drew) fun _ _ h=>h
  refine region_tail 7 (by kernel_rfl) (by kernel_rfl) ?_
  simp only [List.take_succ_cons,List.take_zero,List.drop_succ_cons,List.drop_zero]
  generalize (Wc.alloc (.map #[] 0)).drew=W5 at *
  have x85:=H5.cA
  have H5':=H5.more (F':=grow F w W5) (fun b h=> .inl h) (fun b h=>h.elim (fun h=>H5.lt b h) (fun h=>h.2))
  obtain ⟨W6,hs6,hm6,ht6⟩:=H5.an.store (val:= .map (some Wc.heap.size)) kindK Tryz.underlying116 (by rw [qw];unfold maxLen;simp) hkey
  have hk6:=Kept.turned ht6
  iterate 5 still_step
  refine wpStill_load_big rfl 158 _ rfl _ rfl (.agg K) (by exact hld5) ?_
  go_simp
  still_step
  refine wpStill_nil ?_
  go_wp2
  go_ret
  rw [qds (fun x:Nat×List (qn×(Int×Int))=>Value.map (some x.1)) [] kv (Wc.heap.size,[])] at hm6
  have H6:=H5'.putA (k:=kv) (b:=Wc.heap.size) hk6 hm6 (.inr ⟨by omega,hsz5⟩) (fun h=>by
    have:Wc.heap.size∈g.maps:=by
      unfold Gh.maps at h ⊢
      rw [List.map_nil,List.append_nil] at h
      exact List.mem_append_left _ h
    have:=hltm _ this
    omega) (man5.kept hk6 (by omega))
  exact ⟨Wc.heap.size,rfl,by omega,H6.more (fun b h=>h.imp id fun h=>⟨h.1,Nat.lt_of_lt_of_le h.2 hk6.size⟩) (fun b h=>h.elim (fun h=>Nat.lt_of_lt_of_le (H5.lt b h) hk6.size) (fun h=>h.2)),hk5.trans hk6 fun _ _ h=>h⟩
end
end Go.Proofs.YtchddaafibjmgaaGreat
