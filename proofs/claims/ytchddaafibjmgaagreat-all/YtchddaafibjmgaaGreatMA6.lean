import Derived.Test.YtchddaafibjmgaaGreatMB2
import Derived.Deep.QuietTactic
import Derived.BigQuiet
set_option maxRecDepth 100000
set_option maxHeartbeats 20000000
namespace Go.Proofs.YtchddaafibjmgaaGreat
section
open Go.RowKit Go.Maps
def Gh.unlay (g:Gh) (k:qn):Gh:= { g with PP:=delL g.PP k }
def Gh.confirm (g:Gh) (k:qn):Gh:= { g with PP:=g.PP.map fun p=>(p.1,(p.2.1,if p.1==k then { p.2.2 with bound:=true } else p.2.2)) }
section
variable {F:Nat→Prop} {w w':World} {Y:Nat} {hd:Head} {g:Gh}
theorem qgx.cells {q:Nat} {x:qag} (h:qgx F w q x):w.cell? ⟨q,0,none⟩=some (.int .i64 x.n0)∧w.cell? ⟨q,1,none⟩=some (.int .i64 x.n1)∧w.cell? ⟨q,2,none⟩=some (.int .i64 x.n2)∧w.cell? ⟨q,3,none⟩=some (.int .i64 x.port)∧
    w.cell? ⟨q,6,none⟩=some (.string (bs x.node))∧w.cell? ⟨q,7,none⟩=some (.int .i64 (boolI x.bound))∧w.cell? ⟨q,8,none⟩=some (.int .i64 x.since)∧ ∀ o,w.frozen? ⟨q,o,none⟩=false:=by
  obtain ⟨lv,av,h1,_⟩:=h
  refine ⟨?_,?_,?_,?_,?_,?_,?_,fun o=>qp h1⟩<;>(rw [ql h1];rfl)
theorem BMem.unlay (H:BMem F w Y hd g) (k:qn) (hk:Kept (fun x=>x=g.bp) w w') (hm:qai Tryz.prog w' 9 g.bp (mapV (fun x=>ptrV x.1) (delL g.PP k))):BMem F w' Y hd (g.unlay k):=
  H.setP hk hm (fun p hp=>((H.pp p (qd7.1 hp).1).kept hk (H.off (by simp [Gh.maps]) _) ((H.pp p (qd7.1 hp).1).off (H.off (by simp [Gh.maps]) _)) (fun _ h=>h))) (nodup_delL k H.ppd)
theorem lift_any (H:BMem F w Y hd g) (s:ByteArray) (hs:s.size≤maxLen) (hF:g.FF.length < 100000) (x:Nat×qag) (hx:getL g.PP (ky s)=some x) (hn:x.2.node.length≤maxLen):
    Calls Tryz.prog 58 #[.pointer (some ⟨Y,0,none⟩),.string s] w fun e w'=>e= .returned (.tuple #[])∧BMem F w' Y hd ((g.unlay (ky s)).changed x.2.node)∧Kept (fun b=>b=g.bp∨b=g.bf∨g.lore b) w w'∧qf5 w w' g.bp:=by
  have hx5:=H.cP
  have hY:=H.lt Y H.fy
  obtain ⟨h1,h2⟩:=H.getP hx
  obtain ⟨-,-,-,-,hc6,-,-,-⟩:=h2.cells
  have hq:x.1 < w.heap.size:=by obtain ⟨_,_,h,_⟩:=h2;exact qo h
  have c1:=fun W (H1:BMem F W Y hd (g.unlay (ky s)))=>qhk H1 (bs x.2.node) (by rw [qe1];exact hn) hF
  rw [qga] at c1
  have Hne:Hid (g.bf≠g.bp∧ ¬ g.lore g.bp):=⟨Ne.symm H.ne5.2.2.2.2.1,fun h=>h.elim (fun h=>H.ne5.2.2.2.2.2.1 h) fun h=>by
    obtain ⟨p,hp,e⟩:=List.mem_map.1 h
    exact (H.neA hp).2.1 e⟩
  clear h2 hx
  go_enter Tryz.func58,Tryz.ntmps58
  go_wp2_with (first
    | (at_lookup;refine qdp _ rfl _ _ 113 rfl 9 129 strK Tryz.underlying113 (qei _) g.bp _ rfl H.pd _ (ky s) rfl (keyS s hs) _ h1 ?_)
    | (at_delete;refine wpL_drop _ rfl _ _ 113 9 rfl 129 strK Tryz.underlying113 g.bp _ rfl H.pd _ (ky s) rfl (keyS s hs) ?_;intro w1 hm1 ht1 hs1;rw [qeu] at hm1;have hk1:=Kept.turned ht1;have H1:=H.unlay (ky s) hk1 hm1)
    | (go_at_call 42;refine (c1 w1 H1).mono ?_;rintro e w2 ⟨rfl,H2,hk2⟩))
  go_end0
  refine ⟨rfl,H2,(hk1.mono fun i _ e=> .inl e).trans hk2 fun i _ h=> .inr h,hs1.kept (hk2.block _ (Nat.lt_of_lt_of_le (H.lt _ (H.fm _ (by simp [Gh.maps]))) hk1.size) fun h=> ?_)⟩
  exact h.elim (fun h=>Hne.out.1 h.symm) fun h=>Hne.out.2 h
def Gh.DropTo (g:Gh) (k:qn) (e:Int) (g':Gh):Prop:=(getL g.PP k=none∧e=4∧g'=g)∨ ∃ x,getL g.PP k=some x∧e=0∧g'=(g.unlay k).changed x.2.node
theorem BMem.dropFoot (H:BMem F w Y hd g) {i:Nat} (h:i=g.bp∨i=g.bf∨g.lore i):F i:=by
  rcases h with h| h| h
  · rw [h];exact H.fm _ (by simp [Gh.maps])
  · rw [h];exact H.fm _ (by simp [Gh.maps])
  · exact H.loreF h
theorem pDrop_any (H:BMem F w Y hd g) (s:ByteArray) (hs:s.size≤maxLen) (hF:g.FF.length < 100000) (hn: ∀ x,getL g.PP (ky s)=some x→x.2.node.length≤maxLen):
    Calls Tryz.prog 27 #[.pointer (some ⟨Y,0,none⟩),.string s] w fun e w'=> ∃ r g',e= .returned (.int .i64 r)∧BMem F w' Y hd g'∧Kept F w w'∧g.DropTo (ky s) r g':=by
  have hx5:=H.cP
  cases hx:getL g.PP (ky s) with
  | none=>
    have h1:getL (mapV (fun x=>ptrV x.1) g.PP) (ky s)=none:=by rw [qz,hx];rfl
    have HX:Hid (getL g.PP (ky s)=none):=hx
    clear hx
    go_enter Tryz.func27,Tryz.ntmps27
    go_wp2_with (at_lookup;refine qbx _ rfl _ _ 113 rfl 9 129 strK Tryz.underlying113 (qei _) g.bp _ rfl H.pd _ (ky s) rfl (keyS s hs) h1 ?_)
    go_ret
    exact ⟨_,_,rfl,H,Kept.refl _ _,.inl ⟨HX.out,rfl,rfl⟩⟩
  | some x=>
    obtain ⟨h1,-⟩:=H.getP hx
    have c1:=lift_any H s hs hF x hx (hn x hx)
    have HX:Hid (getL g.PP (ky s)=some x):=hx
    clear hx
    go_enter Tryz.func27,Tryz.ntmps27
    go_wp2_with (first
      | (at_lookup;refine qbw _ rfl _ _ 113 rfl 9 129 strK Tryz.underlying113 (qei _) g.bp _ rfl H.pd _ (ky s) rfl (keyS s hs) _ h1 ?_)
      | (go_at_call 58;refine c1.mono ?_;rintro e w2 ⟨rfl,H2,hk2,_⟩))
    go_ret
    exact ⟨_,_,rfl,H2,hk2.mono fun i _ h=>H.dropFoot h,.inr ⟨x,HX.out,rfl,rfl⟩⟩
theorem BMem.setBound (H:BMem F w Y hd g) {k:qn} {x:Nat×qag} (hx:getL g.PP k=some x):BMem F (w.setCell ⟨x.1,7,none⟩ (.int .i64 1)) Y hd (g.confirm k):=by
  have hmem:=qar hx
  obtain ⟨lv,av,h1,h2,h3,h4⟩:=H.pp _ hmem
  dsimp only at h1 h2
  have hk:Kept (fun b=>b=x.1) w (w.setCell ⟨x.1,7,none⟩ (.int .i64 1)):=(Kept.refl (fun b=>b=x.1) w).setCell (p:=⟨x.1,7,none⟩) (fun _=>rfl) _
  have oL:Off 85 (fun b=>b=x.1) w:=Off.cells h1 (by decide)
  have oR:Off 129 (fun b=>b=x.1) w:=Off.cells h1 (by decide)
  have nm: ∀ {b:Nat},b∈g.maps→b≠x.1:=fun {b} hb e=>by
    obtain ⟨es,c,hm⟩:=H.isMap hb
    rw [e,h1] at hm
    cases hm
  have nY:Y≠x.1:=fun e=>by
    have hb:=H.box
    rw [e,h1] at hb
    simp only [Option.some.injEq,Obj.cells.injEq] at hb
    exact absurd hb.2.1 (by decide)
  have hraw:mapV (fun x=>ptrV x.1) (g.confirm k).PP=mapV (fun x=>ptrV x.1) g.PP:=by simp [Gh.confirm,mapV]
  refine ⟨fun b hb=>Nat.lt_of_lt_of_le (H.lt b hb) hk.size,H.fy,H.fm,by rw [hk.block Y (qo H.box) nY];exact H.box,H.nd.kept hk (nm (by simp [Gh.maps])),by rw [hraw];exact H.pd.kept hk (nm (by simp [Gh.maps])),H.fr.kept hk (nm (by simp [Gh.maps])),
    H.vw.kept hk (nm (by simp [Gh.maps])),H.an.kept hk (nm (by simp [Gh.maps])),fun p hp=>(H.nn p hp).kept hk oL (fun _ h=>h),fun p hp=> ?_,fun p hp=>(H.vv p hp).kept hk oR (fun _ h=>h),fun p hp=>(H.aa p hp).kept hk (nm (H.inA hp)),H.dist,?_,H.ch.kept hk (H.ch.ncells h1) oL (fun _ h=>h)⟩
  · obtain ⟨q,hq,rfl⟩:=List.mem_map.1 hp
    dsimp only
    by_cases e:q.1=k
    · have hqx:q.2=x:=by
        have e1:=qac H.sortP.distinct (k:=q.1) (v:=q.2) hq
        rw [e,hx] at e1
        exact (Option.some.inj e1).symm
      rw [if_pos (by simpa using e),hqx]
      refine ⟨lv,av,?_,h2,h3.kept hk oL (fun _ h=>h),h4.kept hk oL (fun _ h=>h)⟩
      rw [qs h1]
      simp [qdz,boolI]
    · rw [if_neg (by simpa using e)]
      refine (H.pp q hq).kept hk oL (fun eb=>e ?_) (fun _ h=>h)
      have:=nodup_inj H.ppd hq hmem eb
      rw [this]
  · have:(g.confirm k).PP.map (·.2.1)=g.PP.map (·.2.1):=by simp [Gh.confirm]
    rw [this]
    exact H.ppd
def Gh.ConfirmTo (g:Gh) (k:qn) (e:Int) (g':Gh):Prop:=(getL g.PP k=none∧e=4∧g'=g)∨ ∃ x,getL g.PP k=some x∧((x.2.bound=true∧e=7∧g'=g)∨(x.2.bound=false∧e=0∧g'=g.confirm k))
theorem pConfirm_any (H:BMem F w Y hd g) (s:ByteArray) (hs:s.size≤maxLen):
    Calls Tryz.prog 25 #[.pointer (some ⟨Y,0,none⟩),.string s] w fun e w'=> ∃ r g',e= .returned (.int .i64 r)∧BMem F w' Y hd g'∧Kept F w w'∧g.ConfirmTo (ky s) r g':=by
  have hx5:=H.cP
  cases hx:getL g.PP (ky s) with
  | none=>
    have h1:getL (mapV (fun x=>ptrV x.1) g.PP) (ky s)=none:=by rw [qz,hx];rfl
    have HX:Hid (getL g.PP (ky s)=none):=hx
    clear hx
    go_enter Tryz.func25,Tryz.ntmps25
    go_wp2_with (at_lookup;refine qbx _ rfl _ _ 113 rfl 9 129 strK Tryz.underlying113 (qei _) g.bp _ rfl H.pd _ (ky s) rfl (keyS s hs) h1 ?_)
    go_ret
    exact ⟨_,_,rfl,H,Kept.refl _ _,.inl ⟨HX.out,rfl,rfl⟩⟩
  | some x=>
    obtain ⟨h1,h2⟩:=H.getP hx
    obtain ⟨-,-,-,-,-,hc7,-,hfz⟩:=h2.cells
    have HS:Hid (BMem F (w.setCell ⟨x.1,7,none⟩ (.int .i64 1)) Y hd (g.confirm (ky s))):=H.setBound hx
    have HX:Hid (getL g.PP (ky s)=some x):=hx
    have Hq:Hid (F x.1):=by obtain ⟨_,_,_,h,_⟩:=h2;exact h
    have hf7:=hfz 7
    clear hx h2 hfz
    cases hb:x.2.bound
    · rw [hb,show boolI false=0 from rfl] at hc7
      have HB:Hid (x.2.bound=false):=hb
      clear hb
      go_enter Tryz.func25,Tryz.ntmps25
      go_wp2_with (at_lookup;refine qbw _ rfl _ _ 113 rfl 9 129 strK Tryz.underlying113 (qei _) g.bp _ rfl H.pd _ (ky s) rfl (keyS s hs) _ h1 ?_)
      go_ret
      exact ⟨_,_,rfl,HS.out,(Kept.refl _ w).setCell (p:=⟨x.1,7,none⟩) (fun _=>Hq.out) _,.inr ⟨x,HX.out,.inr ⟨HB.out,rfl,rfl⟩⟩⟩
    · rw [hb,show boolI true=1 from rfl] at hc7
      have HB:Hid (x.2.bound=true):=hb
      clear hb
      go_enter Tryz.func25,Tryz.ntmps25
      go_wp2_with (at_lookup;refine qbw _ rfl _ _ 113 rfl 9 129 strK Tryz.underlying113 (qei _) g.bp _ rfl H.pd _ (ky s) rfl (keyS s hs) _ h1 ?_)
      go_ret
      exact ⟨_,_,rfl,H,Kept.refl _ _,.inr ⟨x,HX.out,.inl ⟨HB.out,rfl,rfl⟩⟩⟩
end
end
section
open Go.RowKit Go.Maps
def Gh.bindErr (g:Gh) (p:PodD) (node:qn):Int:=if p.err≠0 then p.err else if (getL g.NN node).isNone then 4 else g.admits (ky p.name)
def Gh.BindTo (g:Gh) (p:PodD) (node:qn) (g':Gh):Prop:=(g.bindErr p node≠0∧g'=g)∨(g.bindErr p node=0∧ ∃ q,g'=(g.layRaw (ky p.name) q (p.lies node true 0)).changed node)
section
variable {F:Nat→Prop} {w:World} {Y:Nat} {hd:Head} {g:Gh}
theorem bind_bad (H:BMem F w Y hd g) (p:PodD) (node:ByteArray) (hok:p.ok w) (h0:p.err≠0):
    Calls Tryz.prog 21 #[.pointer (some ⟨Y,0,none⟩),.agg p.cells,.string node] w fun e w'=>e= .returned (.int .i64 p.err)∧Below w.heap.size w w':=by
  have hY:=H.lt Y H.fy
  have hW0:Below w.heap.size w (w.alloc (.cells #[.string p.name,.int .i64 p.n0,.int .i64 p.n1,.int .i64 p.n2,.int .i64 p.port,.slice p.labels.a p.labels.L.length p.labels.cap,.slice p.select.a p.select.L.length p.select.cap,.slice p.bears.a p.bears.L.length p.bears.cap,.slice p.near.a p.near.L.length p.near.cap,.slice p.apart.a p.apart.L.length p.apart.cap] 77)):=qi _ _
  have hz0:w.heap.size < (w.alloc (.cells #[.string p.name,.int .i64 p.n0,.int .i64 p.n1,.int .i64 p.n2,.int .i64 p.port,.slice p.labels.a p.labels.L.length p.labels.cap,.slice p.select.a p.select.L.length p.select.cap,.slice p.bears.a p.bears.L.length p.bears.cap,.slice p.near.a p.near.L.length p.near.cap,.slice p.apart.a p.apart.L.length p.apart.cap] 77)).heap.size:=by simp
  have hzY:Y < (w.alloc (.cells #[.string p.name,.int .i64 p.n0,.int .i64 p.n1,.int .i64 p.n2,.int .i64 p.port,.slice p.labels.a p.labels.L.length p.labels.cap,.slice p.select.a p.select.L.length p.select.cap,.slice p.bears.a p.bears.L.length p.bears.cap,.slice p.near.a p.near.L.length p.near.cap,.slice p.apart.a p.apart.L.length p.apart.cap] 77)).heap.size:=by simp;omega
  have c1:=qee p (w.alloc (.cells #[.string p.name,.int .i64 p.n0,.int .i64 p.n1,.int .i64 p.n2,.int .i64 p.port,.slice p.labels.a p.labels.L.length p.labels.cap,.slice p.select.a p.select.L.length p.select.cap,.slice p.bears.a p.bears.L.length p.bears.cap,.slice p.near.a p.near.L.length p.near.cap,.slice p.apart.a p.apart.L.length p.apart.cap] 77)) (hok.below hW0)
  have h0':(p.err==0)=false:=by simpa using h0
  have h0'':(p.err != 0)=true:=by simpa using h0
  clear h0
  unfold PodD.cells Lst.val at c1
  unfold PodD.cells Lst.val
  go_enter Tryz.func21,Tryz.ntmps21
  go_wp2_with (first
    | (go_at_call 47;refine c1.mono ?_;rintro e w1 ⟨rfl,hb1⟩;have s1:=fun o=>hb1.cell (p:=⟨w.heap.size,o,none⟩) hz0;have y1:=fun o=>hb1.cell (p:=⟨Y,o,none⟩) hzY;have hW1:=qj hW0 hb1;have z1:w.heap.size < w1.heap.size:=Nat.lt_of_lt_of_le hz0 hb1.size;have zY1:Y < w1.heap.size:=Nat.lt_of_lt_of_le hzY hb1.size))
  go_ret
  exact ⟨rfl,hW1⟩
theorem bind_none (H:BMem F w Y hd g) (p:PodD) (node:ByteArray) (hok:p.ok w) (h0:p.err=0) (hnode:node.size≤maxLen) (h1:getL g.NN (ky node)=none):
    Calls Tryz.prog 21 #[.pointer (some ⟨Y,0,none⟩),.agg p.cells,.string node] w fun e w'=>e= .returned (.int .i64 4)∧Below w.heap.size w w':=by
  have hY:=H.lt Y H.fy
  have hW0:Below w.heap.size w (w.alloc (.cells #[.string p.name,.int .i64 p.n0,.int .i64 p.n1,.int .i64 p.n2,.int .i64 p.port,.slice p.labels.a p.labels.L.length p.labels.cap,.slice p.select.a p.select.L.length p.select.cap,.slice p.bears.a p.bears.L.length p.bears.cap,.slice p.near.a p.near.L.length p.near.cap,.slice p.apart.a p.apart.L.length p.apart.cap] 77)):=qi _ _
  have hz0:w.heap.size < (w.alloc (.cells #[.string p.name,.int .i64 p.n0,.int .i64 p.n1,.int .i64 p.n2,.int .i64 p.port,.slice p.labels.a p.labels.L.length p.labels.cap,.slice p.select.a p.select.L.length p.select.cap,.slice p.bears.a p.bears.L.length p.bears.cap,.slice p.near.a p.near.L.length p.near.cap,.slice p.apart.a p.apart.L.length p.apart.cap] 77)).heap.size:=by simp
  have hzY:Y < (w.alloc (.cells #[.string p.name,.int .i64 p.n0,.int .i64 p.n1,.int .i64 p.n2,.int .i64 p.port,.slice p.labels.a p.labels.L.length p.labels.cap,.slice p.select.a p.select.L.length p.select.cap,.slice p.bears.a p.bears.L.length p.bears.cap,.slice p.near.a p.near.L.length p.near.cap,.slice p.apart.a p.apart.L.length p.apart.cap] 77)).heap.size:=by simp;omega
  have c1:=qee p (w.alloc (.cells #[.string p.name,.int .i64 p.n0,.int .i64 p.n1,.int .i64 p.n2,.int .i64 p.port,.slice p.labels.a p.labels.L.length p.labels.cap,.slice p.select.a p.select.L.length p.select.cap,.slice p.bears.a p.bears.L.length p.bears.cap,.slice p.near.a p.near.L.length p.near.cap,.slice p.apart.a p.apart.L.length p.apart.cap] 77)) (hok.below hW0)
  have c2:=fun W (hb:Below w.heap.size w W)=>qdv (H.below hb) node hnode
  rw [h0] at c1
  rw [h1] at c2
  unfold PodD.cells Lst.val at c1
  unfold PodD.cells Lst.val
  go_enter Tryz.func21,Tryz.ntmps21
  go_wp2_with (first
    | (go_at_call 47;refine c1.mono ?_;rintro e w1 ⟨rfl,hb1⟩;have s1:=fun o=>hb1.cell (p:=⟨w.heap.size,o,none⟩) hz0;have y1:=fun o=>hb1.cell (p:=⟨Y,o,none⟩) hzY;have hW1:=qj hW0 hb1;have z1:w.heap.size < w1.heap.size:=Nat.lt_of_lt_of_le hz0 hb1.size;have zY1:Y < w1.heap.size:=Nat.lt_of_lt_of_le hzY hb1.size)
    | (go_at_call 39;refine (c2 w1 hW1).mono ?_;rintro e w2 ⟨rfl,hb2⟩;have s2:=fun o=>hb2.cell (p:=⟨w.heap.size,o,none⟩) z1;have y2:=fun o=>hb2.cell (p:=⟨Y,o,none⟩) zY1;have hW2:=qj hW1 hb2))
  go_ret
  exact ⟨rfl,hW2⟩
theorem bind_adm (H:BMem F w Y hd g) (p:PodD) (node:ByteArray) (hok:p.ok w) (h0:p.err=0) (hnode:node.size≤maxLen) (h1:(getL g.NN (ky node)).isSome=true) (h2:g.admits (ky p.name)≠0):
    Calls Tryz.prog 21 #[.pointer (some ⟨Y,0,none⟩),.agg p.cells,.string node] w fun e w'=>e= .returned (.int .i64 (g.admits (ky p.name)))∧Below w.heap.size w w':=by
  have hnm:p.name.size≤maxLen:=by have:=(p.good_facts h0).1;unfold maxLen;omega
  have hY:=H.lt Y H.fy
  have hW0:Below w.heap.size w (w.alloc (.cells #[.string p.name,.int .i64 p.n0,.int .i64 p.n1,.int .i64 p.n2,.int .i64 p.port,.slice p.labels.a p.labels.L.length p.labels.cap,.slice p.select.a p.select.L.length p.select.cap,.slice p.bears.a p.bears.L.length p.bears.cap,.slice p.near.a p.near.L.length p.near.cap,.slice p.apart.a p.apart.L.length p.apart.cap] 77)):=qi _ _
  have hz0:w.heap.size < (w.alloc (.cells #[.string p.name,.int .i64 p.n0,.int .i64 p.n1,.int .i64 p.n2,.int .i64 p.port,.slice p.labels.a p.labels.L.length p.labels.cap,.slice p.select.a p.select.L.length p.select.cap,.slice p.bears.a p.bears.L.length p.bears.cap,.slice p.near.a p.near.L.length p.near.cap,.slice p.apart.a p.apart.L.length p.apart.cap] 77)).heap.size:=by simp
  have hzY:Y < (w.alloc (.cells #[.string p.name,.int .i64 p.n0,.int .i64 p.n1,.int .i64 p.n2,.int .i64 p.port,.slice p.labels.a p.labels.L.length p.labels.cap,.slice p.select.a p.select.L.length p.select.cap,.slice p.bears.a p.bears.L.length p.bears.cap,.slice p.near.a p.near.L.length p.near.cap,.slice p.apart.a p.apart.L.length p.apart.cap] 77)).heap.size:=by simp;omega
  have c1:=qee p (w.alloc (.cells #[.string p.name,.int .i64 p.n0,.int .i64 p.n1,.int .i64 p.n2,.int .i64 p.port,.slice p.labels.a p.labels.L.length p.labels.cap,.slice p.select.a p.select.L.length p.select.cap,.slice p.bears.a p.bears.L.length p.bears.cap,.slice p.near.a p.near.L.length p.near.cap,.slice p.apart.a p.apart.L.length p.apart.cap] 77)) (hok.below hW0)
  have c2:=fun W (hb:Below w.heap.size w W)=>qdv (H.below hb) node hnode
  have c3:=fun W (hb:Below w.heap.size w W)=>qfz (H.below hb) p.name hnm
  rw [h0] at c1
  rw [h1] at c2
  have h0':(g.admits (ky p.name)==0)=false:=by simpa using h2
  have h0'':(g.admits (ky p.name) != 0)=true:=by simpa using h2
  clear h2
  unfold PodD.cells Lst.val at c1
  unfold PodD.cells Lst.val
  go_enter Tryz.func21,Tryz.ntmps21
  go_wp2_with (first
    | (go_at_call 47;refine c1.mono ?_;rintro e w1 ⟨rfl,hb1⟩;have s1:=fun o=>hb1.cell (p:=⟨w.heap.size,o,none⟩) hz0;have y1:=fun o=>hb1.cell (p:=⟨Y,o,none⟩) hzY;have hW1:=qj hW0 hb1;have z1:w.heap.size < w1.heap.size:=Nat.lt_of_lt_of_le hz0 hb1.size;have zY1:Y < w1.heap.size:=Nat.lt_of_lt_of_le hzY hb1.size)
    | (go_at_call 39;refine (c2 w1 hW1).mono ?_;rintro e w2 ⟨rfl,hb2⟩;have s2:=fun o=>hb2.cell (p:=⟨w.heap.size,o,none⟩) z1;have y2:=fun o=>hb2.cell (p:=⟨Y,o,none⟩) zY1;have hW2:=qj hW1 hb2)
    | (go_at_call 48;refine (c3 w2 hW2).mono ?_;rintro e w3 ⟨rfl,rfl⟩))
  go_ret
  exact ⟨rfl,hW2⟩
theorem bind_good (H:BMem F w Y hd g) (p:PodD) (node:ByteArray) (hok:p.ok w) (h0:p.err=0) (hnode:node.size≤maxLen) (h1:(getL g.NN (ky node)).isSome=true) (h2:g.admits (ky p.name)=0) (hP:g.PP.length < 100000) (hF:g.FF.length < 100000):
    Calls Tryz.prog 21 #[.pointer (some ⟨Y,0,none⟩),.agg p.cells,.string node] w fun e w'=>e= .returned (.int .i64 0)∧ ∃ q,w.heap.size≤q∧BMem (grow F w w') w' Y hd ((g.layRaw (ky p.name) q (p.lies (ky node) true 0)).changed (ky node))∧Kept F w w':=by
  have hgf:=p.good_facts h0
  have hnm:p.name.size≤maxLen:=by have:=hgf.1;unfold maxLen;omega
  have hY:=H.lt Y H.fy
  have hW0:Below w.heap.size w (w.alloc (.cells #[.string p.name,.int .i64 p.n0,.int .i64 p.n1,.int .i64 p.n2,.int .i64 p.port,.slice p.labels.a p.labels.L.length p.labels.cap,.slice p.select.a p.select.L.length p.select.cap,.slice p.bears.a p.bears.L.length p.bears.cap,.slice p.near.a p.near.L.length p.near.cap,.slice p.apart.a p.apart.L.length p.apart.cap] 77)):=qi _ _
  have hz0:w.heap.size < (w.alloc (.cells #[.string p.name,.int .i64 p.n0,.int .i64 p.n1,.int .i64 p.n2,.int .i64 p.port,.slice p.labels.a p.labels.L.length p.labels.cap,.slice p.select.a p.select.L.length p.select.cap,.slice p.bears.a p.bears.L.length p.bears.cap,.slice p.near.a p.near.L.length p.near.cap,.slice p.apart.a p.apart.L.length p.apart.cap] 77)).heap.size:=by simp
  have hzY:Y < (w.alloc (.cells #[.string p.name,.int .i64 p.n0,.int .i64 p.n1,.int .i64 p.n2,.int .i64 p.port,.slice p.labels.a p.labels.L.length p.labels.cap,.slice p.select.a p.select.L.length p.select.cap,.slice p.bears.a p.bears.L.length p.bears.cap,.slice p.near.a p.near.L.length p.near.cap,.slice p.apart.a p.apart.L.length p.apart.cap] 77)).heap.size:=by simp;omega
  have c1:=qee p (w.alloc (.cells #[.string p.name,.int .i64 p.n0,.int .i64 p.n1,.int .i64 p.n2,.int .i64 p.port,.slice p.labels.a p.labels.L.length p.labels.cap,.slice p.select.a p.select.L.length p.select.cap,.slice p.bears.a p.bears.L.length p.bears.cap,.slice p.near.a p.near.L.length p.near.cap,.slice p.apart.a p.apart.L.length p.apart.cap] 77)) (hok.below hW0)
  have c2:=fun W (hb:Below w.heap.size w W)=>qdv (H.below hb) node hnode
  have c3:=fun W (hb:Below w.heap.size w W)=>qfz (H.below hb) p.name hnm
  have c4:=fun W (hb:Below w.heap.size w W)=>play_any (H.below hb) p node 1 0 true rfl (hok.below hb) hnm hnode (fun x hx=>by have:=hgf.2 x hx;omega) hP hF
  rw [h0] at c1
  rw [h1] at c2
  rw [h2] at c3
  clear hgf
  unfold PodD.cells Lst.val at c1 c4
  unfold PodD.cells Lst.val
  go_enter Tryz.func21,Tryz.ntmps21
  go_wp2_with (first
    | (go_at_call 47;refine c1.mono ?_;rintro e w1 ⟨rfl,hb1⟩;have s1:=fun o=>hb1.cell (p:=⟨w.heap.size,o,none⟩) hz0;have y1:=fun o=>hb1.cell (p:=⟨Y,o,none⟩) hzY;have hW1:=qj hW0 hb1;have z1:w.heap.size < w1.heap.size:=Nat.lt_of_lt_of_le hz0 hb1.size;have zY1:Y < w1.heap.size:=Nat.lt_of_lt_of_le hzY hb1.size)
    | (go_at_call 39;refine (c2 w1 hW1).mono ?_;rintro e w2 ⟨rfl,hb2⟩;have s2:=fun o=>hb2.cell (p:=⟨w.heap.size,o,none⟩) z1;have y2:=fun o=>hb2.cell (p:=⟨Y,o,none⟩) zY1;have hW2:=qj hW1 hb2)
    | (go_at_call 48;refine (c3 w2 hW2).mono ?_;rintro e w3 ⟨rfl,rfl⟩)
    | (go_at_call 49;refine (c4 _ hW2).mono ?_;rintro e w4 ⟨rfl,q,hq,hB4,hK4⟩))
  go_ret
  have hs2:=hW2.size
  have hs4:=hK4.size
  exact ⟨rfl,q,by omega,hB4.more (fun b h=>h.elim .inl fun h=> .inr ⟨by omega,h.2⟩) (fun b h=>h.elim (fun h=>by have:=H.lt b h;omega) (fun h=>h.2)),(Kept.of_below hW2).trans hK4 fun i _ h=>h⟩
theorem pBind_any (H:BMem F w Y hd g) (p:PodD) (node:ByteArray) (hok:p.ok w) (hnode:node.size≤maxLen) (hP:g.PP.length < 100000) (hF:g.FF.length < 100000):
    Calls Tryz.prog 21 #[.pointer (some ⟨Y,0,none⟩),.agg p.cells,.string node] w fun e w'=> ∃ g',e= .returned (.int .i64 (g.bindErr p (ky node)))∧BMem (grow F w w') w' Y hd g'∧Kept F w w'∧g.BindTo p (ky node) g':=by
  by_cases h0:p.err=0
  · cases h1:getL g.NN (ky node) with
    | none=>
      have he:g.bindErr p (ky node)=4:=by simp [Gh.bindErr,h0,h1]
      exact (bind_none H p node hok h0 hnode h1).mono fun e w' h=>⟨g,by rw [he];exact h.1,H.grows h.2,Kept.of_below h.2,.inl ⟨by rw [he];decide,rfl⟩⟩
    | some x=>
      have he:g.bindErr p (ky node)=g.admits (ky p.name):=by simp [Gh.bindErr,h0,h1]
      by_cases h2:g.admits (ky p.name)=0
      · exact (bind_good H p node hok h0 hnode (by rw [h1];rfl) h2 hP hF).mono fun e w' ⟨h,q,_,h3,h4⟩=>⟨_,by rw [he,h2];exact h,h3,h4,.inr ⟨by rw [he];exact h2,q,rfl⟩⟩
      · exact (bind_adm H p node hok h0 hnode (by rw [h1];rfl) h2).mono fun e w' h=>⟨g,by rw [he];exact h.1,H.grows h.2,Kept.of_below h.2,.inl ⟨by rw [he];exact h2,rfl⟩⟩
  · have he:g.bindErr p (ky node)=p.err:=by simp [Gh.bindErr,h0]
    exact (bind_bad H p node hok h0).mono fun e w' h=>⟨g,by rw [he];exact h.1,H.grows h.2,Kept.of_below h.2,.inl ⟨by rw [he];exact h0,rfl⟩⟩
end
end
section
open Go.RowKit Go.Maps
def due (hd:Head) (x:qag):Bool:= !x.bound&&decide (hd.hold≤hd.now - x.since)
def Lifts (hd:Head) (g g':Gh):Prop:= ∀ R:Gh→Prop,R g→(∀ (g1:Gh) (k:qn) (x:Nat×qag),R g1→getL g1.PP k=some x→due hd x.2=true→R ((g1.unlay k).changed x.2.node))→R g'
theorem Lifts.refl {hd:Head} {g:Gh}:Lifts hd g g:=fun _ h _=>h
theorem Lifts.step {hd:Head} {g g1:Gh} {k:qn} {x:Nat×qag} (h:Lifts hd g g1) (hx:getL g1.PP k=some x) (hdue:due hd x.2=true):Lifts hd g ((g1.unlay k).changed x.2.node):=fun R h0 hs=>hs g1 k x (h R h0 hs) hx hdue
def tickErr (hd:Head) (n:Int):Int:=if n < 0∨100000 < n∨1099511627776 - hd.now < n then 8 else 0
def Head.later (hd:Head) (n:Int):Head:= { hd with now:=hd.now+n }
section
variable {F:Nat→Prop} {w:World} {Y:Nat} {hd:Head} {g:Gh}
theorem BMem.cells (H:BMem F w Y hd g):w.cell? ⟨Y,0,none⟩=some (.int .i64 hd.hold)∧w.cell? ⟨Y,1,none⟩=some (.bool hd.rem)∧w.cell? ⟨Y,2,none⟩=some (.bool hd.whole)∧w.cell? ⟨Y,3,none⟩=some (.int .i64 hd.now)∧ ∀ o,w.frozen? ⟨Y,o,none⟩=false:=by
  refine ⟨?_,?_,?_,?_,fun o=>qp H.box⟩<;>(rw [ql H.box];rfl)
theorem BMem.setNow (H:BMem F w Y hd g) (n:Int):BMem F (w.setCell ⟨Y,3,none⟩ (.int .i64 (hd.now+n))) Y (hd.later n) g:=by
  have hk:Kept (fun b=>b=Y) w (w.setCell ⟨Y,3,none⟩ (.int .i64 (hd.now+n))):=(Kept.refl (fun b=>b=Y) w).setCell (p:=⟨Y,3,none⟩) (fun _=>rfl) _
  have oL:Off 85 (fun b=>b=Y) w:=Off.cells H.box (by decide)
  have oP:Off 132 (fun b=>b=Y) w:=Off.cells H.box (by decide)
  have oR:Off 129 (fun b=>b=Y) w:=Off.cells H.box (by decide)
  have nm: ∀ {b:Nat},b∈g.maps→b≠Y:=fun {b} hb=>Ne.symm (H.ny hb)
  refine ⟨fun b hb=>Nat.lt_of_lt_of_le (H.lt b hb) hk.size,H.fy,H.fm,?_,H.nd.kept hk (nm (by simp [Gh.maps])),H.pd.kept hk (nm (by simp [Gh.maps])),H.fr.kept hk (nm (by simp [Gh.maps])),
    H.vw.kept hk (nm (by simp [Gh.maps])),H.an.kept hk (nm (by simp [Gh.maps])),fun p hp=>(H.nn p hp).kept hk oL (fun _ h=>h),fun p hp=>(H.pp p hp).kept hk oL ((H.pp p hp).off oP) (fun _ h=>h),fun p hp=>(H.vv p hp).kept hk oR (fun _ h=>h),fun p hp=>(H.aa p hp).kept hk (nm (H.inA hp)),H.dist,H.ppd,H.ch.kept hk (H.ch.ncells H.box) oL (fun _ h=>h)⟩
  rw [qs H.box]
  simp [boxCells,Head.later]
theorem ptrInv {L:List (qn×(Nat×qag))} {kb:qn} {v:Value} (h:getL (mapV (fun x=>ptrV x.1) L) kb=some v): ∃ c,v=Value.pointer (some ⟨c,0,none⟩):=by
  rw [qz] at h
  cases hg:getL L kb with
  | none=>rw [hg] at h;cases h
  | some x=>rw [hg] at h;exact ⟨x.1,(Option.some.inj h).symm⟩
theorem qdj {α:Type} (L:List (qn×α)) (k:qn) (v:α):(putL L k v).length≤L.length+1:=by
  unfold putL
  rw [length_insL]
  have:=qgu L k
  omega
structure TickTo (hd:Head) (g:Gh) (todo:qn→Bool) (g':Gh):Prop where
  lifts:Lifts hd g g'
  sub: ∀ p∈g'.PP,p∈g.PP
  left: ∀ p∈g'.PP,due hd p.2.2=true→todo p.1=true
  len:g'.FF.length+g'.PP.length≤g.FF.length+g.PP.length
  bp:g'.bp=g.bp
theorem tick_late (H:BMem F w Y hd g) (n:Int) (h:tickErr hd n=8) (hn0:0≤hd.now) (hn1:hd.now≤1099511627776):
    Calls Tryz.prog 29 #[.pointer (some ⟨Y,0,none⟩),.int .i64 n] w fun e w'=>e= .returned (.int .i64 8)∧w'=w:=by
  obtain ⟨h0,-,-,h3,-⟩:=H.cells
  unfold tickErr at h
  by_cases h1:n < 0
  · go_enter Tryz.func29,Tryz.ntmps29
    go_wp2
    go_ret
    exact ⟨rfl,rfl⟩
  · by_cases h2:100000 < n
    · clear h
      go_enter Tryz.func29,Tryz.ntmps29
      go_wp2
      go_ret
      exact ⟨rfl,rfl⟩
    · have h4:1099511627776 - hd.now < n:=by
        rcases Decidable.em (n < 0∨100000 < n∨1099511627776 - hd.now < n) with hh| hh
        · omega
        · rw [if_neg hh] at h;omega
      clear h
      go_enter Tryz.func29,Tryz.ntmps29
      go_wp2
      go_ret
      exact ⟨rfl,rfl⟩
theorem tick_on (H:BMem F w Y hd g) (n:Int) (h:tickErr hd n=0) (hn0:0≤hd.now) (hn1:hd.now≤1099511627776) (hh:0≤hd.hold∧hd.hold≤1000) (hpk: ∀ p∈g.PP,p.1.length≤maxLen∧p.2.2.node.length≤maxLen∧0≤p.2.2.since∧p.2.2.since≤1099511627776)
    (hl:g.FF.length+g.PP.length < 100000):
    Calls Tryz.prog 29 #[.pointer (some ⟨Y,0,none⟩),.int .i64 n] w fun e w'=>e= .returned (.int .i64 0)∧ ∃ g',BMem F w' Y (hd.later n) g'∧Kept F w w'∧Lifts (hd.later n) g g'∧ ∀ p∈g'.PP,due (hd.later n) p.2.2=false:=by
  obtain ⟨h0,-,-,h3,hfz⟩:=H.cells
  have hr:0≤n∧n≤100000∧n≤1099511627776 - hd.now:=by
    unfold tickErr at h
    rcases Decidable.em (n < 0∨100000 < n∨1099511627776 - hd.now < n) with hh| hh
    · rw [if_pos hh] at h;omega
    · omega
  obtain ⟨q1,q2,q3⟩:=hr
  clear h
  have hf3:=hfz 3
  have hY:=H.lt Y H.fy
  have hx5:=H.cP
  have HN:Hid (BMem F (w.setCell ⟨Y,3,none⟩ (.int .i64 (hd.now+n))) Y (hd.later n) g):=H.setNow n
  have HF:Hid (∀ b,F b→b < w.heap.size):=H.lt
  have Hfy:Hid (F Y):=H.fy
  have Hpk:Hid (∀ p∈g.PP,p.1.length≤maxLen∧p.2.2.node.length≤maxLen∧0≤p.2.2.since∧p.2.2.since≤1099511627776):=hpk
  have hY5:(w.setCell ⟨Y,3,none⟩ (.int .i64 (hd.now+n))).cell? ⟨Y,5,none⟩=some (.map (some g.bp)):=HN.out.cP
  have hpd:=HN.out.pd
  clear hfz hpk
  go_enter Tryz.func29,Tryz.ntmps29
  go_wp2_with (at_range;refine qgz _ rfl _ 113 rfl 9 129 strK Tryz.underlying113 g.bp _ rfl (by exact hpd) ?_;intro w2 hr2 hb2 hs2)
  have H2:=HN.out.below hb2
  have K2:Hid (Kept F w w2):=((Kept.refl F w).setCell (p:=⟨Y,3,none⟩) (fun _=>Hfy.out) _).trans (Kept.of_below (F:=qq) hb2) (fun _ _ h=>h.elim)
  have hle:(w.setCell ⟨Y,3,none⟩ (.int .i64 (hd.now+n))).heap.size=w.heap.size:=qej _ _ _
  generalize hrr:(w.setCell ⟨Y,3,none⟩ (.int .i64 (hd.now+n))).heap.size=r at hr2 hle ⊢
  have HR:Hid (r=w.heap.size):=hle
  clear hs2 hb2 hpd hY5 hx5 hrr hle hf3 h0 h3
  go_frame
  go_loopw [5] (fun _ wr=> ∃ todo g',qdx Tryz.prog wr 9 g.bp r (mapV (fun x=>ptrV x.1) g'.PP) todo∧BMem F wr Y (hd.later n) g'∧Kept F w wr∧TickTo (hd.later n) g todo g') (fun _ wr=>wr.rangeLeft g.bp r)
  case atStart=>
    refine ⟨_,g,hr2,H2,K2.out,.refl,fun p hp=>hp,fun p hp _=> ?_,Nat.le_refl _,rfl⟩
    rw [qz,qac H.sortP.distinct (k:=p.1) (v:=p.2) hp]
    rfl
  case round=>
    clear H2 K2 hr2
    obtain ⟨todo,g1,hrg,hB,hK,hT⟩:=hrel
    have HK:Hid (Kept F w wr):=hK
    have HT:Hid (TickTo (hd.later n) g todo g1):=hT
    have HB:Hid (BMem F wr Y (hd.later n) g1):=hB
    clear hK hT hB
    go_wp2_with (at_next;refine qe5 _ rfl _ rfl 9 strK Value.string (fun q:Nat=>Value.pointer (some ⟨q,0,none⟩)) g.bp r _ todo (fun _ _=>strInv) (fun _ v h=>ptrInv h) rfl hrg ?_ ?_)
    · intro hl0
      go_wp2
      go_ret
      refine ⟨rfl,g1,HB.out,HK.out,HT.out.lifts,fun p hp=> ?_⟩
      cases hdue:due (hd.later n) p.2.2
      · rfl
      · have:=HT.out.left p hp hdue
        rw [hl0] at this
        cases this
    · intro x c kb w3 hkey htd hget hrg3 hlt3 hk3 hs3 hen
      obtain ⟨e3,hkl⟩:=qgh hkey
      simp only [Value.string.injEq] at e3
      obtain ⟨y,rfl⟩: ∃ y,kb=ky y:=⟨bs kb,(qga kb).symm⟩
      rw [bs_ky] at e3
      subst e3
      have hys:x.size≤maxLen:=by rw [← qdu];exact hkl
      obtain ⟨z,hz,hzc⟩: ∃ z,getL g1.PP (ky x)=some z∧z.1=c:=by
        rw [qz] at hget
        cases hgn:getL g1.PP (ky x) with
        | none=>rw [hgn] at hget;cases hget
        | some z=>rw [hgn] at hget;simp [ptrV] at hget;exact ⟨z,rfl,hget⟩
      subst hzc
      have hB3:=HB.out.kept hk3 (fun b hb e=>by have:=HF.out b hb;have:=HR.out;omega) (fun _ h=>h) (fun b hb=>Nat.lt_of_lt_of_le (HB.out.lt b hb) hk3.size)
      have HK3:Hid (Kept F w w3):=HK.out.trans hk3 (fun i hi e=>by have:=HR.out;omega)
      have Hlt:Hid (w3.rangeLeft g.bp r < wr.rangeLeft g.bp r):=hlt3
      obtain ⟨-,-,-,-,-,pc7,pc8,-⟩:=(hB3.getP hz).2.cells
      obtain ⟨hc0,-,-,hc3,-⟩:=hB3.cells
      have hmem:=qar hz
      obtain ⟨-,pk2,pk3,pk4⟩:=Hpk.out _ (HT.out.sub _ hmem)
      dsimp only at pk2 pk3 pk4
      have Hz:Hid (getL g1.PP (ky x)=some z):=hz
      have HB3:Hid (BMem F w3 Y (hd.later n) g1):=hB3
      have Hrg3:Hid (qdx Tryz.prog w3 9 g.bp r (mapV (fun x=>ptrV x.1) g1.PP) fun k=>todo k&& !(k==ky x)):=hrg3
      have hnow:(hd.later n).now=hd.now+n:=rfl
      have hhold:(hd.later n).hold=hd.hold:=rfl
      rw [hnow] at hc3
      rw [hhold] at hc0
      have Hskip:Hid (due (hd.later n) z.2=false→TickTo (hd.later n) g (fun k=>todo k&& !(k==ky x)) g1):=fun hdue=>⟨HT.out.lifts,HT.out.sub,fun p hp hd1=>by
        have h1:=HT.out.left p hp hd1
        by_cases e:p.1=ky x
        · have h2:=qac HB3.out.sortP.distinct (k:=p.1) (v:=p.2) hp
          rw [e,hz] at h2
          rw [← Option.some.inj h2,hdue] at hd1
          cases hd1
        · simp [h1,e],HT.out.len,HT.out.bp⟩
      clear hz hmem hget htd hkey hkl hlt3 hk3 hs3 hrg hB3 hrg3 hnow hhold
      cases hbd:z.2.bound
      · by_cases hdue:hd.hold≤hd.now+n - z.2.since
        · have HD:Hid (due (hd.later n) z.2=true):=by show due _ _=true;simp [due,hbd,Head.later,hdue]
          rw [hbd,show boolI false=0 from rfl] at pc7
          clear hbd
          have c1:=fun W (HB:BMem F W Y (hd.later n) g1)=>lift_any HB x hys (by have:=HT.out.len;omega) z Hz.out pk2
          have HW:Hid (∀ m,BMem F (w3.drewN m) Y (hd.later n) g1):=fun m=>HB3.out.kept ((Kept.refl qq w3).drewN m) (fun _ _=>id) (fun _ h=>h) HB3.out.lt
          go_wp2
          go_quiet (fail)
          go_wp2_with (go_at_call 58;refine (c1 _ (HW.out _)).mono ?_;rintro e w4 ⟨rfl,H4,hk4,hs4⟩)
          have hb1:g1.bp=g.bp:=HT.out.bp
          have hrF: ¬ F r:=fun h=>by have:=HF.out _ h;have:=HR.out;omega
          have hkF:Kept F (w3.drewN nq) w4:=hk4.mono fun i _ h=>(HW.out nq).dropFoot h
          have hrg4:=(Hrg3.out.kept ((Kept.refl qq w3).drewN nq) id id).shrunk (L':=mapV (fun x=>ptrV x.1) (delL g1.PP (ky x))) (by rw [← hb1];exact hs4) (by rw [← hb1];exact H4.pd) (hkF.block r Hrg3.out.lt hrF)
          obtain ⟨hrg5,hle5⟩:=hrg4
          have HT4:Hid (TickTo (hd.later n) g (fun k=>(todo k&& !(k==ky x))&&(getL (mapV (fun x=>ptrV x.1) (delL g1.PP (ky x))) k).isSome) ((g1.unlay (ky x)).changed z.2.node)):=by
            refine ⟨.step HT.out.lifts Hz.out HD.out,fun p hp=>HT.out.sub p (qd7.1 hp).1,fun p hp hd1=> ?_,?_,HT.out.bp⟩
            · obtain ⟨m1,m2⟩:=qd7.1 (show p∈delL g1.PP (ky x) from hp)
              have h1:=HT.out.left p m1 hd1
              have h2:getL (delL g1.PP (ky x)) p.1=some p.2:=qac (HB3.out.sortP.filter _).distinct (show (p.1,p.2)∈delL g1.PP (ky x) from hp)
              simp [h1,m2,qz,h2]
            · have l1:=length_delL HB3.out.sortP.distinct (k:=ky x) (by rw [Hz.out];rfl)
              have l2:=qdj g1.FF z.2.node ()
              have l3:=HT.out.len
              show (putL g1.FF z.2.node ()).length+(delL g1.PP (ky x)).length≤_
              omega
          go_roundw
          case rel=>exact ⟨_,_,hrg5,H4,(HK3.out.drewN nq).trans hkF (fun i _ h=>h),HT4.out⟩
          case measure=>exact Nat.lt_of_le_of_lt hle5 Hlt.out
        · have HD:Hid (due (hd.later n) z.2=false):=by show due _ _=false;simp [due,hbd,Head.later,hdue]
          rw [hbd,show boolI false=0 from rfl] at pc7
          have hdec:decide (hd.hold≤hd.now+n - z.2.since)=false:=by simpa using hdue
          clear hdue hbd
          go_wp2
          go_quiet (fail)
          go_wp2
          go_roundw
          case rel=>exact ⟨_,g1,Hrg3.out.kept ((Kept.refl qq w3).drewN nq) id id,HB3.out.kept ((Kept.refl qq w3).drewN nq) (fun _ _=>id) (fun _ h=>h) HB3.out.lt,HK3.out.drewN nq,Hskip.out HD.out⟩
          case measure=>exact Hlt.out
      · have HD:Hid (due (hd.later n) z.2=false):=by show due _ _=false;simp [due,hbd]
        rw [hbd,show boolI true=1 from rfl] at pc7
        clear hbd
        go_wp2
        go_quiet (fail)
        go_wp2
        go_roundw
        case rel=>exact ⟨_,g1,Hrg3.out.kept ((Kept.refl qq w3).drewN nq) id id,HB3.out.kept ((Kept.refl qq w3).drewN nq) (fun _ _=>id) (fun _ h=>h) HB3.out.lt,HK3.out.drewN nq,Hskip.out HD.out⟩
        case measure=>exact Hlt.out
def Gh.TickTo (g:Gh) (hd:Head) (n:Int) (hd':Head) (g':Gh):Prop:=(tickErr hd n≠0∧hd'=hd∧g'=g)∨(tickErr hd n=0∧hd'=hd.later n∧Lifts hd' g g'∧ ∀ p∈g'.PP,due hd' p.2.2=false)
theorem pTick_any (H:BMem F w Y hd g) (n:Int) (hn0:0≤hd.now) (hn1:hd.now≤1099511627776) (hh:0≤hd.hold∧hd.hold≤1000) (hpk: ∀ p∈g.PP,p.1.length≤maxLen∧p.2.2.node.length≤maxLen∧0≤p.2.2.since∧p.2.2.since≤1099511627776)
    (hl:g.FF.length+g.PP.length < 100000):
    Calls Tryz.prog 29 #[.pointer (some ⟨Y,0,none⟩),.int .i64 n] w fun e w'=> ∃ hd' g',e= .returned (.int .i64 (tickErr hd n))∧BMem F w' Y hd' g'∧Kept F w w'∧g.TickTo hd n hd' g':=by
  by_cases h:tickErr hd n=0
  · exact (tick_on H n h hn0 hn1 hh hpk hl).mono fun e w' ⟨h1,g',h2,h3,h4,h5⟩=>⟨_,g',by rw [h];exact h1,h2,h3,.inr ⟨h,rfl,h4,h5⟩⟩
  · have h8:tickErr hd n=8:=by unfold tickErr at h ⊢;split<;>simp_all
    refine (tick_late H n h8 hn0 hn1).mono fun e w' h'=> ?_
    obtain ⟨h1,rfl⟩:=h'
    exact ⟨hd,g,by rw [h8];exact h1,H,Kept.refl _ _,.inl ⟨h,rfl,rfl⟩⟩
end
end
section
open Go.RowKit Go.Maps
def Gh.shed (g:Gh) (k:qn) (todo:qn→Bool):Gh:= { g with PP:=g.PP.filter fun p=> !(p.2.2.node==k&& !todo p.1) }
def Gh.dropN (g:Gh) (k:qn):Gh:=
  let g1:=({ g with PP:=g.PP.filter fun p=> !(p.2.2.node==k) }:Gh).forget k
  { g1 with FF:=delL g1.FF k,NN:=delL g1.NN k }
section
variable {F:Nat→Prop} {w w':World} {Y:Nat} {hd:Head} {g:Gh}
theorem BMem.setShed (H:BMem F w Y hd g) {PP:List (qn×(Nat×qag))} (hsub:PP.Sublist g.PP) (hk:Kept (fun x=>x=g.bp) w w') (hm:qai Tryz.prog w' 9 g.bp (mapV (fun x=>ptrV x.1) PP)):BMem F w' Y hd { g with PP:=PP }:=
  H.setP hk hm (fun p hp=>((H.pp p (hsub.subset hp)).kept hk (H.off (by simp [Gh.maps]) _) ((H.pp p (hsub.subset hp)).off (H.off (by simp [Gh.maps]) _)) (fun _ h=>h))) (List.Nodup.sublist (hsub.map _) H.ppd)
theorem shed_start (H:BMem F w Y hd g) (k:qn):g.shed k (fun x=>(getL (mapV (fun x=>ptrV x.1) g.PP) x).isSome)=g:=by
  unfold Gh.shed
  have:(g.PP.filter fun p=> !(p.2.2.node==k&& !(getL (mapV (fun x=>ptrV x.1) g.PP) p.1).isSome))=g.PP:=by
    rw [List.filter_eq_self]
    intro p hp
    rw [qz,qac H.sortP.distinct (k:=p.1) (v:=p.2) hp]
    simp
  rw [this]
theorem shed_end {k:qn} {todo:qn→Bool} (h: ∀ x,todo x=false):g.shed k todo= { g with PP:=g.PP.filter fun p=> !(p.2.2.node==k) }:=by
  unfold Gh.shed
  simp [h]
theorem shed_skip {k o:qn} {todo:qn→Bool} {x:Nat×qag} (hs:g.PP.Pairwise fun p q=>p.1≠q.1) (hx:getL g.PP o=some x) (hn:(x.2.node==k)=false):g.shed k (fun z=>todo z&& !(z==o))=g.shed k todo:=by
  unfold Gh.shed
  have:(g.PP.filter fun p=> !(p.2.2.node==k&& !(todo p.1&& !(p.1==o))))=g.PP.filter fun p=> !(p.2.2.node==k&& !todo p.1):=by
    apply List.filter_congr
    intro p hp
    by_cases e:p.1=o
    · have h1:=qac hs (k:=p.1) (v:=p.2) hp
      rw [e,hx] at h1
      rw [← Option.some.inj h1,hn]
      rfl
    · have:(p.1==o)=false:=by simpa using e
      rw [this]
      simp
  rw [this]
theorem shed_step {k o:qn} {todo:qn→Bool} {x:Nat×qag} (hs:g.PP.Pairwise fun p q=>p.1≠q.1) (hx:getL g.PP o=some x) (hn:(x.2.node==k)=true):delL (g.shed k todo).PP o=(g.shed k (fun z=>todo z&& !(z==o))).PP:=by
  unfold Gh.shed delL
  dsimp only
  rw [List.filter_filter]
  apply List.filter_congr
  intro p hp
  by_cases e:p.1=o
  · have h1:=qac hs (k:=p.1) (v:=p.2) hp
    rw [e,hx] at h1
    rw [← Option.some.inj h1,hn,e]
    simp
  · have:(p.1==o)=false:=by simpa using e
    rw [this]
    simp
theorem shed_get {k o:qn} {todo:qn→Bool} {x:Nat×qag} (hs:g.PP.Pairwise fun p q=>p.1≠q.1) (h:getL (g.shed k todo).PP o=some x):getL g.PP o=some x:=qac hs ((List.mem_filter.1 (qar h)).1)
def Gh.DropNTo (g:Gh) (k:qn) (e:Int) (g':Gh):Prop:=(getL g.NN k=none∧e=4∧g'=g)∨((getL g.NN k).isSome=true∧e=0∧g'=g.dropN k)
theorem dropN_some (H:BMem F w Y hd g) (s:ByteArray) (hs:s.size≤maxLen) (h0:(getL g.NN (ky s)).isSome=true):
    Calls Tryz.prog 19 #[.pointer (some ⟨Y,0,none⟩),.string s] w fun e w'=>e= .returned (.int .i64 0)∧BMem F w' Y hd (g.dropN (ky s))∧Kept F w w':=by
  have hY:=H.lt Y H.fy
  have c1:=qdv H s hs
  rw [h0] at c1
  have HF:Hid (∀ b,F b→b < w.heap.size):=H.lt
  have HdP:Hid (g.PP.Pairwise fun p q=>p.1≠q.1):=H.sortP.distinct
  have c2:=fun W g1 (H1:BMem F W Y hd g1)=>forget_any H1 s hs
  have Hfp:Hid (F g.bp):=H.fm _ (by simp [Gh.maps])
  have Hff:Hid (F g.bf):=H.fm _ (by simp [Gh.maps])
  have Hfn:Hid (F g.bn):=H.fm _ (by simp [Gh.maps])
  have Hfl:Hid (∀ b,g.lore b→F b):=fun b h=>H.loreF h
  have HH:Hid (BMem F w Y hd g):=H
  go_enter Tryz.func19,Tryz.ntmps19
  go_wp2_with (first
    | (go_at_call 39;refine c1.mono ?_;rintro e w1 ⟨rfl,hb1⟩;have H1:=H.below hb1;have hx1:=H1.cP)
    | (at_range;refine qgz _ rfl _ 113 rfl 9 129 strK Tryz.underlying113 g.bp _ rfl H1.pd ?_;intro w2 hr2 hb2 hs2))
  have H2:=H1.below hb2
  rw [← shed_start H (ky s)] at H2
  have hr2':qdx Tryz.prog w2 9 g.bp w1.heap.size (mapV (fun x=>ptrV x.1) (g.shed (ky s) (fun x=>(getL (mapV (fun x=>ptrV x.1) g.PP) x).isSome)).PP) (fun x=>(getL (mapV (fun x=>ptrV x.1) g.PP) x).isSome):=by rw [shed_start H];exact hr2
  have K2:Hid (Kept F w w2):=Kept.of_below (qj hb1 hb2)
  have hle:w.heap.size≤w1.heap.size:=hb1.size
  generalize hrr:w1.heap.size=r at hr2' hle ⊢
  clear hr2 hs2 hb2 hx1 H1 hrr hb1 c1
  go_frame
  go_loopw [5] (fun _ wr=> ∃ todo,qdx Tryz.prog wr 9 g.bp r (mapV (fun x=>ptrV x.1) (g.shed (ky s) todo).PP) todo∧BMem F wr Y hd (g.shed (ky s) todo)∧Kept F w wr) (fun _ wr=>wr.rangeLeft g.bp r)
  case atStart=>exact ⟨_,hr2',H2,K2.out⟩
  case round=>
    clear H2 K2 hr2' H
    obtain ⟨todo,hrg,hB,hK⟩:=hrel
    have HK:Hid (Kept F w wr):=hK
    have HB:Hid (BMem F wr Y hd (g.shed (ky s) todo)):=hB
    clear hK hB
    go_wp2_with (at_next;refine qe5 _ rfl _ rfl 9 strK Value.string (fun q:Nat=>Value.pointer (some ⟨q,0,none⟩)) g.bp r _ todo (fun _ _=>strInv) (fun _ v h=>ptrInv h) rfl hrg ?_ ?_)
    · intro hl0
      have hB:=HB.out
      rw [shed_end hl0] at hB
      go_wp2_with (first
        | (go_at_call 40;refine (c2 _ _ hB).mono ?_;rintro e w5 ⟨rfl,H5,hk5⟩;have hx5:=H5.cF;have m5:=H5.fr)
        | (at_delete;refine wpL_drop _ rfl _ _ 114 9 rfl 160 strK Tryz.underlying114 g.bf _ rfl m5 _ (ky s) rfl (keyS s hs) ?_;intro w6 hm6 ht6 _;rw [qeu] at hm6;have hk6:=Kept.turned ht6;have H6:=H5.setF hk6 hm6;have hx6:=H6.cN;have m6:=H6.nd)
        | (at_delete;refine wpL_drop _ rfl _ _ 112 9 rfl 127 strK Tryz.underlying112 g.bn _ rfl m6 _ (ky s) rfl (keyS s hs) ?_;intro w7 hm7 ht7 _;rw [qeu] at hm7;have hk7:=Kept.turned ht7;have H7:=H6.setN hk7 hm7 (fun p hp=>((H6.nn p (qd7.1 hp).1).kept hk7 (H6.off (by simp [Gh.maps,Gh.forget]) _) (fun _ h=>h)))))
      go_ret
      exact ⟨rfl,H7,((HK.out.trans hk5 fun i _ h=>Hfl.out i h).trans hk6 fun i _ e=>by rw [e];exact Hff.out).trans hk7 fun i _ e=>by rw [e];exact Hfn.out⟩
    · intro x c kb w3 hkey htd hget hrg3 hlt3 hk3 hs3 hen
      obtain ⟨e3,hkl⟩:=qgh hkey
      simp only [Value.string.injEq] at e3
      obtain ⟨y,rfl⟩: ∃ y,kb=ky y:=⟨bs kb,(qga kb).symm⟩
      rw [bs_ky] at e3
      subst e3
      have hys:x.size≤maxLen:=by rw [← qdu];exact hkl
      obtain ⟨z,hz,hzc⟩: ∃ z,getL (g.shed (ky s) todo).PP (ky x)=some z∧z.1=c:=by
        rw [qz] at hget
        cases hgn:getL (g.shed (ky s) todo).PP (ky x) with
        | none=>rw [hgn] at hget;cases hget
        | some z=>rw [hgn] at hget;simp [ptrV] at hget;exact ⟨z,rfl,hget⟩
      subst hzc
      have hrF: ¬ F r:=fun h=>by have:=HF.out _ h;omega
      have hB3:=HB.out.kept hk3 (fun b hb e=>hrF (by rw [← e];exact hb)) (fun _ h=>h) (fun b hb=>Nat.lt_of_lt_of_le (HB.out.lt b hb) hk3.size)
      have HK3:Hid (Kept F w w3):=HK.out.trans hk3 (fun i hi e=>by omega)
      have Hlt:Hid (w3.rangeLeft g.bp r < wr.rangeLeft g.bp r):=hlt3
      obtain ⟨-,-,-,-,pc6,-,-,-⟩:=(hB3.getP hz).2.cells
      have Hz:Hid (getL g.PP (ky x)=some z):=shed_get HdP.out hz
      have HB3:Hid (BMem F w3 Y hd (g.shed (ky s) todo)):=hB3
      have Hrg3:Hid (qdx Tryz.prog w3 9 g.bp r (mapV (fun x=>ptrV x.1) (g.shed (ky s) todo).PP) fun k=>todo k&& !(k==ky x)):=hrg3
      have hx3:=hB3.cP
      have m3:=hB3.pd
      have htl:(bs z.2.node).toList=z.2.node:=toList_bs _
      have hsl:s.toList=ky s:=qfx s
      clear hz hget htd hkey hkl hlt3 hk3 hs3 hrg hB3 hrg3 HB
      cases hE:(z.2.node==ky s)
      · have HS:Hid (g.shed (ky s) (fun k=>todo k&& !(k==ky x))=g.shed (ky s) todo):=shed_skip HdP.out Hz.out hE
        have hE':((bs z.2.node).toList==s.toList)=false:=by rw [htl,hsl];exact hE
        clear hE htl hsl
        go_wp2
        go_roundw
        case rel=>exact ⟨_,by rw [HS.out];exact Hrg3.out,by rw [HS.out];exact HB3.out,HK3.out⟩
        case measure=>exact Hlt.out
      · have HS:Hid (delL (g.shed (ky s) todo).PP (ky x)=(g.shed (ky s) (fun k=>todo k&& !(k==ky x))).PP):=shed_step HdP.out Hz.out hE
        have hE':((bs z.2.node).toList==s.toList)=true:=by rw [htl,hsl];exact hE
        clear hE htl hsl
        go_wp2_with (at_delete;refine wpL_drop _ rfl _ _ 113 9 rfl 129 strK Tryz.underlying113 g.bp _ rfl m3 _ (ky x) rfl (keyS x hys) ?_;intro w4 hm4 ht4 hs4;rw [qeu,HS.out] at hm4;have hk4:=Kept.turned ht4;go_frame)
        have hB4:=HB3.out.setShed (by rw [← HS.out];exact List.filter_sublist) hk4 hm4
        obtain ⟨hrg4,hle4⟩:=Hrg3.out.shrunk hs4 hm4 (hk4.block r Hrg3.out.lt (fun e=>hrF (by rw [e];exact Hfp.out)))
        have hfun:(fun k=>(todo k&& !(k==ky x))&&(getL (mapV (fun x=>ptrV x.1) (g.shed (ky s) (fun k=>todo k&& !(k==ky x))).PP) k).isSome)=fun k=>todo k&& !(k==ky x):=by
          funext k
          cases hk:(todo k&& !(k==ky x))
          · rfl
          · have h1:=Hrg3.out.there (x:=k) hk
            have hne:k≠ky x:=by intro e;simp [e] at hk
            rw [← HS.out,qz,qb0 _ hne,← qz,h1]
            rfl
        rw [hfun] at hrg4
        go_roundw
        case rel=>exact ⟨_,hrg4,hB4,HK3.out.trans hk4 fun i _ e=>by rw [e];exact Hfp.out⟩
        case measure=>exact Nat.lt_of_le_of_lt hle4 Hlt.out
theorem dropN_none (H:BMem F w Y hd g) (s:ByteArray) (hs:s.size≤maxLen) (h0:getL g.NN (ky s)=none):
    Calls Tryz.prog 19 #[.pointer (some ⟨Y,0,none⟩),.string s] w fun e w'=>e= .returned (.int .i64 4)∧Below w.heap.size w w':=by
  have c1:=qdv H s hs
  rw [h0] at c1
  go_enter Tryz.func19,Tryz.ntmps19
  go_wp2_with (go_at_call 39;refine c1.mono ?_;rintro e w1 ⟨rfl,hb1⟩)
  go_ret
  exact ⟨rfl,hb1⟩
theorem pDropNode_any (H:BMem F w Y hd g) (s:ByteArray) (hs:s.size≤maxLen):
    Calls Tryz.prog 19 #[.pointer (some ⟨Y,0,none⟩),.string s] w fun e w'=> ∃ r g',e= .returned (.int .i64 r)∧BMem F w' Y hd g'∧Kept F w w'∧g.DropNTo (ky s) r g':=by
  cases h0:getL g.NN (ky s) with
  | none=>exact (dropN_none H s hs h0).mono fun e w' h=>⟨4,g,h.1,H.below h.2,Kept.of_below h.2,.inl ⟨h0,rfl,rfl⟩⟩
  | some x=>exact (dropN_some H s hs (by rw [h0];rfl)).mono fun e w' h=>⟨0,_,h.1,h.2.1,h.2.2,.inr ⟨by rw [h0];rfl,rfl,rfl⟩⟩
end
end
section
open Go.RowKit Go.Maps
theorem qgl {w:World} {o:Obj} {k:Nat} (h:k=w.heap.size):(w.alloc o).heap[k]? =some o:=by rw [h];exact qm _ _
theorem at_old {w:World} {o x:Obj} {k:Nat} (hx:w.heap[k]? =some x):(w.alloc o).heap[k]? =some x:=by rw [Below.heap_alloc _ _ _ (qo hx)];exact hx
theorem at_call {w w':World} {x:Obj} {k:Nat} (hb:Below w.heap.size w w') (hx:w.heap[k]? =some x):w'.heap[k]? =some x:=by rw [hb.block k (qo hx)];exact hx
end
end Go.Proofs.YtchddaafibjmgaaGreat
