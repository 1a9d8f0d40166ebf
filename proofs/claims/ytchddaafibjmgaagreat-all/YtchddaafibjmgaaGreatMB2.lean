import Derived.Test.YtchddaafibjmgaaGreatMA4
import Derived.Deep.RegionHeld3
import Derived.Deep.DrawnRows
set_option maxRecDepth 100000
set_option maxHeartbeats 20000000
namespace Go.Proofs.YtchddaafibjmgaaGreat
section
open Go.RowKit Go.Maps
def PodD.lies (p:PodD) (node:qn) (bound:Bool) (since:Int):qag:=⟨p.n0,p.n1,p.n2,p.port,p.labels.L,p.apart.L,node,bound,since⟩
def Gh.layRaw (g:Gh) (k:qn) (q:Nat) (x:qag):Gh:= { g with PP:=putL g.PP k (q,x) }
section
variable {F:Nat→Prop} {w:World} {Y:Nat} {hd:Head} {g:Gh}
theorem qaz.mono {F F':Nat→Prop} {w:World} {v:Value} {l:List Lab} (h:qaz F w v l) (hF: ∀ b,F b→F' b):qaz F' w v l:=by
  obtain ⟨b,cap,cur,e,h1,h2⟩:=h
  exact ⟨b,cap,cur,e,hF _ h1,h2⟩
theorem qaz.below {F:Nat→Prop} {w w':World} {v:Value} {l:List Lab} (h:qaz F w v l) (hb:Below w.heap.size w w'):qaz F w' v l:=h.kept (Kept.of_below (F:=qq) hb) (fun _ _ h=>h.elim) (fun _ h=>h)
theorem BMem.layTo (H:BMem F w Y hd g) {w2 w4:World} {x:qag} {lv av:Value} {k:qn} (hb:Below w.heap.size w w2) (hl:qaz (fun b=>w.heap.size≤b) w2 lv x.labels) (ha:qaz (fun b=>w.heap.size≤b) w2 av x.apart)
    (hm:qai Tryz.prog w4 9 g.bp (putL (mapV (fun x=>ptrV x.1) g.PP) k (.pointer (some ⟨w2.heap.size,0,none⟩)))) (ht:(w2.alloc (.cells (qdz x lv av) 132)).mapTurned w4 g.bp):
    BMem (grow F w w4) w4 Y hd (g.layRaw k w2.heap.size x)∧Kept (fun b=>b=g.bp) w w4:=by
  have hb3:Below w.heap.size w (w2.alloc (.cells (qdz x lv av) 132)):=qj hb (qi _ _)
  have hk:=Kept.turned ht
  have hz:w2.heap.size+1≤w4.heap.size:=by have:=hk.size;simp at this;omega
  have hz2:=hb.size
  have H3:BMem (grow F w w4) (w2.alloc (.cells (qdz x lv av) 132)) Y hd g:=by
    refine H.kept (Kept.of_below (F:=qq) hb3) (fun _ _=>id) (fun _ h=> .inl h) fun b hf=>hf.elim (fun h=>Nat.lt_of_lt_of_le (H.lt b h) hb3.size) (fun h=> ?_)
    have e1:(w2.alloc (.cells (qdz x lv av) 132)).heap.size=w4.heap.size:=by
      obtain ⟨es,c,es',c',_,rfl⟩:=ht
      simp [ChangeMaps.setBlock]
    rw [e1]
    exact h.2
  have hnew:(w2.alloc (.cells (qdz x lv av) 132)).heap[w2.heap.size]? =some (.cells (qdz x lv av) 132 (0,0)):=qm _ _
  have hP3:qgx (grow F w w4) (w2.alloc (.cells (qdz x lv av) 132)) w2.heap.size x:=by
    refine ⟨lv,av,hnew,.inr ⟨hz2,by omega⟩,?_,?_⟩
    · obtain ⟨b,cap,cur,e,h1,h2,h3⟩:=hl.below (qi _ (.cells (qdz x lv av) 132))
      exact ⟨b,cap,cur,e,.inr ⟨h1,by have:=qo h2;have:=hk.size;omega⟩,h2,h3⟩
    · obtain ⟨b,cap,cur,e,h1,h2,h3⟩:=ha.below (qi _ (.cells (qdz x lv av) 132))
      exact ⟨b,cap,cur,e,.inr ⟨h1,by have:=qo h2;have:=hk.size;omega⟩,h2,h3⟩
  have hin:g.bp∈g.maps:=by simp [Gh.maps]
  refine ⟨H3.setP hk (PP:=putL g.PP k (w2.heap.size,x)) ?_ ?_ ?_,?_⟩
  · rw [← qds]
    exact hm
  · intro p hp
    rcases qfp.1 hp with rfl| ⟨hp,_⟩
    · exact hP3.kept hk (H3.off hin _) (hP3.off (H3.off hin _)) (fun _ h=>h)
    · exact (H3.pp p hp).kept hk (H3.off hin _) ((H3.pp p hp).off (H3.off hin _)) (fun _ h=>h)
  · refine nodup_putL H.ppd fun p hp e=> ?_
    obtain ⟨_,_,h1,h2,_⟩:=H.pp p hp
    have:=H.lt _ h2
    dsimp only at e
    omega
  · exact (Kept.of_below hb3).trans hk (fun i _ e=>e)
theorem play_any (H:BMem F w Y hd g) (p:PodD) (node:ByteArray) (st since:Int) (bound:Bool) (hst:st=boolI bound) (hok:p.ok w) (hname:p.name.size≤maxLen) (hnode:node.size≤maxLen) (hl: ∀ x∈p.lists,x.L.length≤1000) (hP:g.PP.length < 100000) (hF:g.FF.length < 100000):
    Calls Tryz.prog 49 #[.pointer (some ⟨Y,0,none⟩),.agg p.cells,.string node,.int .i64 st,.int .i64 since] w fun e w'=>e= .returned (.tuple #[])∧ ∃ q,w.heap.size≤q∧BMem (grow F w w') w' Y hd ((g.layRaw (ky p.name) q (p.lies (ky node) bound since)).changed (ky node))∧Kept F w w':=by
  have hY:=H.lt Y H.fy
  have hYp:Y≠g.bp:=H.ny (by simp [Gh.maps])
  have hbp:g.bp < w.heap.size:=H.lt _ (H.fm _ (by simp [Gh.maps]))
  have hW0:Below w.heap.size w (w.alloc (.cells #[.string p.name,.int .i64 p.n0,.int .i64 p.n1,.int .i64 p.n2,.int .i64 p.port,.slice p.labels.a p.labels.L.length p.labels.cap,.slice p.select.a p.select.L.length p.select.cap,.slice p.bears.a p.bears.L.length p.bears.cap,.slice p.near.a p.near.L.length p.near.cap,.slice p.apart.a p.apart.L.length p.apart.cap] 77)).drew:=(qi _ _).drew
  have hz0:w.heap.size < (w.alloc (.cells #[.string p.name,.int .i64 p.n0,.int .i64 p.n1,.int .i64 p.n2,.int .i64 p.port,.slice p.labels.a p.labels.L.length p.labels.cap,.slice p.select.a p.select.L.length p.select.cap,.slice p.bears.a p.bears.L.length p.bears.cap,.slice p.near.a p.near.L.length p.near.cap,.slice p.apart.a p.apart.L.length p.apart.cap] 77)).drew.heap.size:=by simp
  have hzY:Y < (w.alloc (.cells #[.string p.name,.int .i64 p.n0,.int .i64 p.n1,.int .i64 p.n2,.int .i64 p.port,.slice p.labels.a p.labels.L.length p.labels.cap,.slice p.select.a p.select.L.length p.select.cap,.slice p.bears.a p.bears.L.length p.bears.cap,.slice p.near.a p.near.L.length p.near.cap,.slice p.apart.a p.apart.L.length p.apart.cap] 77)).drew.heap.size:=by simp;omega
  have k1:=fun W (hb:Below w.heap.size w W)=>qc7 p.labels W ((hok.2 p.labels (by simp [PodD.lists])).below hb) (hl _ (by simp [PodD.lists]))
  have k2:=fun W (hb:Below w.heap.size w W)=>qc7 p.apart W ((hok.2 p.apart (by simp [PodD.lists])).below hb) (hl _ (by simp [PodD.lists]))
  have k3:=fun (F':Nat→Prop) W g' (hB:BMem F' W Y hd g') hF'=>qhk hB node hnode hF'
  have hm:=fun W (hb:Below w.heap.size w W) q=>(H.below hb).pd.store (val:= .pointer (some ⟨q,0,none⟩)) strK Tryz.underlying113 (by rw [qw];unfold maxLen;omega) (keyS p.name hname)
  subst hst
  unfold PodD.cells Lst.val
  unfold Lst.val at k1 k2
  have hxw:=H.cP
  have Hl:Hid (∀ x∈p.lists,x.L.length≤1000):=hl
  have Hk:Hid (p.ok w):=hok
  clear hok hl
  go_enter Tryz.func49,Tryz.ntmps49
  go_wp2
  go_region_held3 (fun w'=>w'.cell? ⟨w.heap.size,0,none⟩=some (.string p.name)∧w'.cell? ⟨w.heap.size,1,none⟩=some (.int .i64 p.n0)∧w'.cell? ⟨w.heap.size,2,none⟩=some (.int .i64 p.n1)∧w'.cell? ⟨w.heap.size,3,none⟩=some (.int .i64 p.n2)∧w'.cell? ⟨w.heap.size,4,none⟩=some (.int .i64 p.port)∧w'.cell? ⟨w.heap.size,5,none⟩=some (.slice p.labels.a p.labels.L.length p.labels.cap)∧w'.cell? ⟨w.heap.size,9,none⟩=some (.slice p.apart.a p.apart.L.length p.apart.cap)∧w'.cell? ⟨Y,5,none⟩=some (.map (some g.bp))) (go_keep)
    (first
      | (go_at_call_of 41 (Value.slice p.labels.a p.labels.L.length p.labels.cap);refine (k1 _ hW0).mono ?_;rintro e w1 ⟨b1,cp1,rfl,hl1,ho1,hb1⟩;have s1:=fun o=>hb1.cell (p:=⟨w.heap.size,o,none⟩) hz0;have y1:=fun o=>hb1.cell (p:=⟨Y,o,none⟩) hzY;have hW1:=qj hW0 hb1;have z1:w.heap.size < w1.heap.size:=Nat.lt_of_lt_of_le hz0 hb1.size;have zY1:Y < w1.heap.size:=Nat.lt_of_lt_of_le hzY hb1.size)
      | (go_at_call_of 41 (Value.slice p.apart.a p.apart.L.length p.apart.cap);refine (k2 w1 hW1).mono ?_;rintro e w2 ⟨b2,cp2,rfl,hl2,ho2,hb2⟩;have s2:=fun o=>hb2.cell (p:=⟨w.heap.size,o,none⟩) z1;have y2:=fun o=>hb2.cell (p:=⟨Y,o,none⟩) zY1;have hW2:=qj hW1 hb2;have z2:w.heap.size < w2.heap.size:=Nat.lt_of_lt_of_le z1 hb2.size;have zY2:Y < w2.heap.size:=Nat.lt_of_lt_of_le zY1 hb2.size;obtain ⟨w3,hst3,hm3,ht3⟩:=hm (w2.alloc (.cells #[.int .i64 p.n0,.int .i64 p.n1,.int .i64 p.n2,.int .i64 p.port,.slice (some ⟨b1,0,none⟩) p.labels.L.length cp1,.slice (some ⟨b2,0,none⟩) p.apart.L.length cp2,.string node,.int .i64 (boolI bound),.int .i64 since] 132)) (qj hW2 (qi _ _)) w2.heap.size;have hk3:=Kept.turned ht3;have s3:=fun o=>hk3.cell (p:=⟨w.heap.size,o,none⟩) (Nat.lt_of_lt_of_le z2 (by simp)) (by dsimp only;omega);have y3:=fun o=>hk3.cell (p:=⟨Y,o,none⟩) (Nat.lt_of_lt_of_le zY2 (by simp)) hYp))
  have hpc:qdz (p.lies (ky node) bound since) (.slice (some ⟨b1,0,none⟩) p.labels.L.length cp1) (.slice (some ⟨b2,0,none⟩) p.apart.L.length cp2)= #[.int .i64 p.n0,.int .i64 p.n1,.int .i64 p.n2,.int .i64 p.port,.slice (some ⟨b1,0,none⟩) p.labels.L.length cp1,.slice (some ⟨b2,0,none⟩) p.apart.L.length cp2,.string node,.int .i64 (boolI bound),.int .i64 since]:=by simp [qdz,PodD.lies,bs_ky]
  rw [← hpc] at ht3
  obtain ⟨hB3,hK3⟩:=H.layTo (x:=p.lies (ky node) bound since) (k:=ky p.name) hW2 ((ho1.below hb2).mono fun b e=>by rw [e];omega) (ho2.mono fun b e=>by rw [e];omega) hm3 ht3
  have HB3:Hid (BMem (grow F w w3) w3 Y hd (g.layRaw (ky p.name) w2.heap.size (p.lies (ky node) bound since))):=hB3
  have HK3:Hid (Kept (fun b=>b=g.bp) w w3):=hK3
  have hz2:w.heap.size≤w2.heap.size:=by omega
  clear hB3 hK3 hpc ht3 hk3 hm3 hst3 s3 y3 s2 y2 s1 y1 ho1 ho2 hb1 hb2 k1 k2 hm
  go_wp2_with (go_at_call 42;refine (k3 _ _ _ HB3.out hF).mono ?_;rintro e w4 ⟨rfl,hB4,hK4⟩)
  go_end0
  have hs4:=hK4.size
  have hs3:=HK3.out.size
  refine ⟨rfl,w2.heap.size,hz2,hB4.more (fun b h=>h.elim .inl fun h=> .inr ⟨h.1,by omega⟩) (fun b h=>h.elim (fun h=>by have:=H.lt b h;omega) (fun h=>h.2)),(HK3.out.mono fun i _ e=>by rw [e];exact H.fm _ (by simp [Gh.maps])).trans hK4 fun i _ h=> ?_⟩
  rcases h with h| h
  · rw [h];exact H.fm _ (by simp [Gh.maps,Gh.layRaw])
  · exact H.loreF h
end
end
section
open Go.RowKit Go.Maps
theorem qbd.maps {G:Nat→Prop} {w w':World} {a:Option Addr} {L:List Lab} (h:qbd w a L) (hk:Kept G w w') (hG: ∀ b,G b→ ∃ es c,w.heap[b]? =some (.map es c)):qbd w' a L:=by
  intro k hk'
  obtain ⟨b,off,e,h1,h2⟩:=h k hk'
  have hl:=World.block_lt_of_cell? w _ h1
  have hn: ¬ G b:=fun g=>by
    obtain ⟨es,c,hm⟩:=hG b g
    simp [World.cell?,hm] at h1
  refine ⟨b,off,e,?_,?_⟩
  · rw [← h1];exact hk.cell (p:=⟨b,off+k * 2,none⟩) hl hn
  · rw [← h2];exact hk.cell (p:=⟨b,off+k * 2+1,none⟩) hl hn
theorem Lst.ok.maps {G:Nat→Prop} {w w':World} {x:Lst} (h:x.ok w) (hk:Kept G w w') (hG: ∀ b,G b→ ∃ es c,w.heap[b]? =some (.map es c)):x.ok w':=⟨h.1,h.2.1,h.2.2.1.maps hk hG,h.2.2.2⟩
theorem qu.good_facts {n:qu} (h:n.err=0):n.name.size≤20∧n.labels.L.length≤8∧n.taints.L.length≤8:=by
  have hg:n.good=true:=by
    unfold qu.err at h
    split at h
    · assumption
    · omega
  simp only [qu.good,qdl,qu.lists,List.all_cons,List.all_nil,qbz,Bool.and_eq_true,decide_eq_true_eq] at hg
  exact ⟨hg.1.1.1.2,hg.2.1.1,hg.2.2.1.1⟩
theorem PodD.good_facts {p:PodD} (h:p.err=0):p.name.size≤20∧ ∀ x∈p.lists,x.L.length≤8:=by
  have hg:p.good=true:=by
    unfold PodD.err at h
    split at h
    · assumption
    · omega
  simp only [PodD.good,qdl,Bool.and_eq_true,decide_eq_true_eq,List.all_eq_true,qbz] at hg
  exact ⟨hg.1.1.1.1.1.2,fun x hx=>(hg.2 x hx).1⟩
def qu.val (n:qu):qbb:=⟨n.r0,n.r1,n.r2,n.labels.L,n.taints.L⟩
def Gh.putRaw (g:Gh) (k:qn) (v:Value) (n:qbb):Gh:= { g with NN:=putL g.NN k (v,n) }
def Gh.putErr (g:Gh) (n:qu):Int:=if n.err≠0 then n.err else if (getL g.NN (ky n.name)).isNone∧32≤g.NN.length then 6 else 0
def Gh.PutTo (g:Gh) (n:qu) (g':Gh):Prop:=(g.putErr n≠0∧g'=g)∨(g.putErr n=0∧ ∃ v,g'=(((g.forget (ky n.name)).putRaw (ky n.name) v n.val).changed (ky n.name)))
section
variable {F:Nat→Prop} {w:World} {Y:Nat} {hd:Head} {g:Gh}
theorem BMem.putTo (H:BMem F w Y hd g) {w2 w4:World} {n:qbb} {lv tv:Value} {k:qn} (hb:Below w.heap.size w w2) (hl:qaz (fun b=>w.heap.size≤b) w2 lv n.labels) (ha:qaz (fun b=>w.heap.size≤b) w2 tv n.taints)
    (hm:qai Tryz.prog w4 9 g.bn (putL (mapV (·.1) g.NN) k (.agg #[.int .i64 n.r0,.int .i64 n.r1,.int .i64 n.r2,lv,tv]))) (ht:w2.mapTurned w4 g.bn):
    BMem (grow F w w4) w4 Y hd (g.putRaw k (.agg #[.int .i64 n.r0,.int .i64 n.r1,.int .i64 n.r2,lv,tv]) n)∧Kept (fun b=>b=g.bn) w w4:=by
  have hk:=Kept.turned ht
  have hz2:=hb.size
  have e1:w2.heap.size=w4.heap.size:=by
    obtain ⟨es,c,es',c',_,rfl⟩:=ht
    simp [ChangeMaps.setBlock]
  have H3:BMem (grow F w w4) w2 Y hd g:=
    H.kept (Kept.of_below (F:=qq) hb) (fun _ _=>id) (fun _ h=> .inl h) fun b hf=>hf.elim (fun h=>Nat.lt_of_lt_of_le (H.lt b h) hb.size) (fun h=>by rw [e1];exact h.2)
  have own: ∀ {v:Value} {l:List Lab},qaz (fun b=>w.heap.size≤b) w2 v l→qaz (grow F w w4) w4 v l:=fun {v l} h=>by
    obtain ⟨b,cap,cur,e,h1,h2,h3⟩:=h
    have h':qaz (grow F w w4) w2 v l:=⟨b,cap,cur,e,.inr ⟨h1,by rw [← e1];exact qo h2⟩,h2,h3⟩
    exact h'.kept hk (H3.off (by simp [Gh.maps]) _) (fun _ h=>h)
  refine ⟨H3.setN hk (NN:=putL g.NN k (.agg #[.int .i64 n.r0,.int .i64 n.r1,.int .i64 n.r2,lv,tv],n)) ?_ ?_,?_⟩
  · rw [← qds]
    exact hm
  · intro p hp
    rcases qfp.1 hp with rfl| ⟨hp,_⟩
    · exact ⟨lv,tv,rfl,own hl,own ha⟩
    · exact (H3.nn p hp).kept hk (H3.off (by simp [Gh.maps]) _) (fun _ h=>h)
  · exact (Kept.of_below hb).trans hk (fun i _ e=>e)
theorem BMem.loreMap (H:BMem F w Y hd g) (b:Nat) (h:g.lore b): ∃ es c,w.heap[b]? =some (.map es c):=by
  rcases h with rfl| h
  · exact H.isMap (by simp [Gh.maps])
  · exact H.isMap (List.mem_append_right _ h)
theorem putNode_old (H:BMem F w Y hd g) (n:qu) (hok:n.ok w) (hN:g.NN.length < 100000) (hF:g.FF.length < 100000) (h0:n.err=0) (hN0:(getL g.NN (ky n.name)).isSome=true):
    Calls Tryz.prog 16 #[.pointer (some ⟨Y,0,none⟩),.agg n.cells] w fun e w'=> ∃ g',e= .returned (.int .i64 (g.putErr n))∧BMem (grow F w w') w' Y hd g'∧Kept F w w'∧g.PutTo n g':=by
  obtain ⟨hname,hlen1,hlen2⟩:=n.good_facts h0
  have hnm:n.name.size≤maxLen:=by unfold maxLen;omega
  have HE:Hid (g.putErr n=0):=by show g.putErr n=0;simp [Gh.putErr,h0,Option.isSome_iff_ne_none.1 hN0]
  have hY:=H.lt Y H.fy
  have hYn:Y≠g.bn:=H.ny (by simp [Gh.maps])
  have hbn:g.bn < w.heap.size:=H.lt _ (H.fm _ (by simp [Gh.maps]))
  have HnF:Hid (∀ b,g.lore b→b < w.heap.size):=fun b h=>H.lt _ (H.loreF h)
  have hW0:Below w.heap.size w (w.alloc (.cells #[.string n.name,.int .i64 n.r0,.int .i64 n.r1,.int .i64 n.r2,.slice n.labels.a n.labels.L.length n.labels.cap,.slice n.taints.a n.taints.L.length n.taints.cap] 70)):=qi _ _
  have hz0:w.heap.size < (w.alloc (.cells #[.string n.name,.int .i64 n.r0,.int .i64 n.r1,.int .i64 n.r2,.slice n.labels.a n.labels.L.length n.labels.cap,.slice n.taints.a n.taints.L.length n.taints.cap] 70)).heap.size:=by simp
  have hzY:Y < (w.alloc (.cells #[.string n.name,.int .i64 n.r0,.int .i64 n.r1,.int .i64 n.r2,.slice n.labels.a n.labels.L.length n.labels.cap,.slice n.taints.a n.taints.L.length n.taints.cap] 70)).heap.size:=by simp;omega
  have c1:=qfq n (w.alloc (.cells #[.string n.name,.int .i64 n.r0,.int .i64 n.r1,.int .i64 n.r2,.slice n.labels.a n.labels.L.length n.labels.cap,.slice n.taints.a n.taints.L.length n.taints.cap] 70)) (hok.below hW0)
  rw [h0] at c1
  have c2:=fun W (hb:Below w.heap.size w W)=>qdv (H.below hb) n.name hnm
  rw [hN0] at c2
  have c3:=fun W (hb:Below w.heap.size w W)=>forget_any (H.below hb) n.name hnm
  have k1:=fun W hok1=>qc7 n.labels W hok1 (by omega)
  have k2:=fun W hok1=>qc7 n.taints W hok1 (by omega)
  have k3:=fun (F':Nat→Prop) W g' (hB:BMem F' W Y hd g') hF'=>qhk hB n.name hnm hF'
  have hst:=fun W (hM:qai Tryz.prog W 9 g.bn (mapV (·.1) g.NN)) v=>hM.store (val:=v) strK Tryz.underlying112 (by rw [qw];unfold maxLen;omega) (keyS n.name hnm)
  have Hok:Hid (n.ok w):=hok
  unfold qu.cells Lst.val at c1
  unfold qu.cells Lst.val
  unfold Lst.val at k1 k2
  clear hok h0
  have Hh:Hid (BMem F w Y hd g):=H
  have hxw:=H.cN
  go_enter Tryz.func16,Tryz.ntmps16
  go_wp2_with (first
    | (go_at_call 38;refine c1.mono ?_;rintro e w1 ⟨rfl,hb1⟩;have s1:=fun o=>hb1.cell (p:=⟨w.heap.size,o,none⟩) hz0;have y1:=fun o=>hb1.cell (p:=⟨Y,o,none⟩) hzY;have hW1:=qj hW0 hb1;have z1:w.heap.size < w1.heap.size:=Nat.lt_of_lt_of_le hz0 hb1.size;have zY1:Y < w1.heap.size:=Nat.lt_of_lt_of_le hzY hb1.size)
    | (go_at_call 39;refine (c2 w1 hW1).mono ?_;rintro e w2 ⟨rfl,hb2⟩;have s2:=fun o=>hb2.cell (p:=⟨w.heap.size,o,none⟩) z1;have y2:=fun o=>hb2.cell (p:=⟨Y,o,none⟩) zY1;have hW2:=qj hW1 hb2;have z2:w.heap.size < w2.heap.size:=Nat.lt_of_lt_of_le z1 hb2.size;have zY2:Y < w2.heap.size:=Nat.lt_of_lt_of_le zY1 hb2.size)
    | (go_at_call 40;refine (c3 w2 hW2).mono ?_;rintro e w3 ⟨rfl,H3,hk3⟩))
  have s3:=fun o=>hk3.cell (p:=⟨w.heap.size,o,none⟩) z2 (fun h=>by have:=HnF.out _ h;dsimp only at this;omega)
  have y3:w3.cell? ⟨Y,4,none⟩=some (.map (some g.bn)):=H3.cN
  have hok3: ∀ x∈n.lists,x.ok w3:=fun x hx=>((Hok.out.2 x hx).below hW2).maps hk3 ((Hh.out.below hW2).loreMap)
  have Ho1:Hid (∀ W,Below w3.heap.size w3 W→n.labels.ok W):=fun W hb=>(hok3 _ (by simp [qu.lists])).below hb
  have Ho2:Hid (∀ W,Below w3.heap.size w3 W→n.taints.ok W):=fun W hb=>(hok3 _ (by simp [qu.lists])).below hb
  have z3:w.heap.size < w3.drew.heap.size:=Nat.lt_of_lt_of_le z2 hk3.size
  have zY3:Y < w3.drew.heap.size:=Nat.lt_of_lt_of_le zY2 hk3.size
  have hW3:Below w3.heap.size w3 w3.drew:=(Below.refl _ _).drew
  have hg3:(g.forget (ky n.name)).bn=g.bn:=rfl
  have hgN:(g.forget (ky n.name)).NN=g.NN:=rfl
  have Hm3:Hid (∀ W,Below w3.heap.size w3 W→qai Tryz.prog W 9 g.bn (mapV (·.1) g.NN)):=fun W hb=>(H3.below hb).nd
  have HH3:Hid (BMem F w3 Y hd (g.forget (ky n.name))):=H3
  have HK3:Hid (Kept F w w3):=(Kept.of_below hW2).trans hk3 (fun i _ h=>Hh.out.loreF h)
  clear H3 hok3 hk3
  go_region_held3 (fun w'=>w'.cell? ⟨w.heap.size,0,none⟩=some (.string n.name)∧w'.cell? ⟨w.heap.size,1,none⟩=some (.int .i64 n.r0)∧w'.cell? ⟨w.heap.size,2,none⟩=some (.int .i64 n.r1)∧w'.cell? ⟨w.heap.size,3,none⟩=some (.int .i64 n.r2)∧w'.cell? ⟨w.heap.size,4,none⟩=some (.slice n.labels.a n.labels.L.length n.labels.cap)∧w'.cell? ⟨w.heap.size,5,none⟩=some (.slice n.taints.a n.taints.L.length n.taints.cap)∧w'.cell? ⟨Y,4,none⟩=some (.map (some g.bn))) (go_keep)
    (first
      | (go_at_call_of 41 (Value.slice n.labels.a n.labels.L.length n.labels.cap);refine (k1 _ (Ho1.out _ hW3)).mono ?_;rintro e w4 ⟨b1,cp1,rfl,hl1,ho1,hb4⟩;have s4:=fun o=>hb4.cell (p:=⟨w.heap.size,o,none⟩) z3;have y4:=fun o=>hb4.cell (p:=⟨Y,o,none⟩) zY3;have hW4:=qj hW3 hb4;have z4:w.heap.size < w4.heap.size:=Nat.lt_of_lt_of_le z3 hb4.size;have zY4:Y < w4.heap.size:=Nat.lt_of_lt_of_le zY3 hb4.size)
      | (go_at_call_of 41 (Value.slice n.taints.a n.taints.L.length n.taints.cap);refine (k2 w4 (Ho2.out _ hW4)).mono ?_;rintro e w5 ⟨b2,cp2,rfl,hl2,ho2,hb5⟩;have s5:=fun o=>hb5.cell (p:=⟨w.heap.size,o,none⟩) z4;have y5:=fun o=>hb5.cell (p:=⟨Y,o,none⟩) zY4;have hW5:=qj hW4 hb5;have z5:w.heap.size < w5.heap.size:=Nat.lt_of_lt_of_le z4 hb5.size;have zY5:Y < w5.heap.size:=Nat.lt_of_lt_of_le zY4 hb5.size;obtain ⟨w6,hst6,hm6,ht6⟩:=hst w5 (Hm3.out _ hW5) (.agg #[.int .i64 n.r0,.int .i64 n.r1,.int .i64 n.r2,.slice (some ⟨b1,0,none⟩) n.labels.L.length cp1,.slice (some ⟨b2,0,none⟩) n.taints.L.length cp2]);have hk6:=Kept.turned ht6;have s6:=fun o=>hk6.cell (p:=⟨w.heap.size,o,none⟩) z5 (by dsimp only;omega);have y6:=fun o=>hk6.cell (p:=⟨Y,o,none⟩) zY5 hYn))
  obtain ⟨hB6,hK6⟩:=HH3.out.putTo (n:=n.val) (k:=ky n.name) hW5 ((ho1.below hb5).mono fun b e=>by rw [e];exact hl1) (ho2.mono fun b e=>by rw [e];have:=hb4.size;simp at this;omega) hm6 ht6
  have HB6:Hid (BMem (grow F w3 w6) w6 Y hd ((g.forget (ky n.name)).putRaw (ky n.name) (.agg #[.int .i64 n.val.r0,.int .i64 n.val.r1,.int .i64 n.val.r2,.slice (some ⟨b1,0,none⟩) n.labels.L.length cp1,.slice (some ⟨b2,0,none⟩) n.taints.L.length cp2]) n.val)):=hB6
  have HK6:Hid (Kept (fun b=>b=g.bn) w3 w6):=hK6
  have hs6:=hK6.size
  have hs36:=HK3.out.size
  clear hB6 hK6 ht6 hm6 hst6 y6 y5 y4 ho1 ho2 hb4 hb5 k1 k2 hst
  go_wp2_with (go_at_call 42;refine (k3 _ _ _ HB6.out hF).mono ?_;rintro e w7 ⟨rfl,hB7,hK7⟩)
  go_ret
  have hs7:=hK7.size
  refine ⟨_,by rw [HE.out];rfl,hB7.more (fun b h=>h.elim .inl fun h=> .inr ⟨by omega,by omega⟩) (fun b h=>h.elim (fun h=>by have:=Hh.out.lt b h;omega) (fun h=>h.2)),(HK3.out.trans HK6.out (fun i _ e=>by rw [e];exact Hh.out.fm _ (by simp [Gh.maps]))).trans hK7 (fun i _ h=> ?_),.inr ⟨HE.out,_,rfl⟩⟩
  rcases h with h| h
  · rw [h];exact Hh.out.fm _ (by simp [Gh.maps,Gh.putRaw,Gh.forget])
  · refine Hh.out.loreF (h.imp id fun h=> ?_)
    unfold Gh.putRaw Gh.forget at h
    rw [qhb] at h
    exact h
theorem putNode_new (H:BMem F w Y hd g) (n:qu) (hok:n.ok w) (hN:g.NN.length < 100000) (hF:g.FF.length < 100000) (h0:n.err=0) (hN0:getL g.NN (ky n.name)=none) (hlt:g.NN.length < 32):
    Calls Tryz.prog 16 #[.pointer (some ⟨Y,0,none⟩),.agg n.cells] w fun e w'=> ∃ g',e= .returned (.int .i64 (g.putErr n))∧BMem (grow F w w') w' Y hd g'∧Kept F w w'∧g.PutTo n g':=by
  obtain ⟨hname,hlen1,hlen2⟩:=n.good_facts h0
  have hnm:n.name.size≤maxLen:=by unfold maxLen;omega
  have HE:Hid (g.putErr n=0):=by show g.putErr n=0;simp [Gh.putErr,h0,hN0,Nat.not_le.2 hlt]
  have hY:=H.lt Y H.fy
  have hYn:Y≠g.bn:=H.ny (by simp [Gh.maps])
  have hbn:g.bn < w.heap.size:=H.lt _ (H.fm _ (by simp [Gh.maps]))
  have HnF:Hid (∀ b,g.lore b→b < w.heap.size):=fun b h=>H.lt _ (H.loreF h)
  have hW0:Below w.heap.size w (w.alloc (.cells #[.string n.name,.int .i64 n.r0,.int .i64 n.r1,.int .i64 n.r2,.slice n.labels.a n.labels.L.length n.labels.cap,.slice n.taints.a n.taints.L.length n.taints.cap] 70)):=qi _ _
  have hz0:w.heap.size < (w.alloc (.cells #[.string n.name,.int .i64 n.r0,.int .i64 n.r1,.int .i64 n.r2,.slice n.labels.a n.labels.L.length n.labels.cap,.slice n.taints.a n.taints.L.length n.taints.cap] 70)).heap.size:=by simp
  have hzY:Y < (w.alloc (.cells #[.string n.name,.int .i64 n.r0,.int .i64 n.r1,.int .i64 n.r2,.slice n.labels.a n.labels.L.length n.labels.cap,.slice n.taints.a n.taints.L.length n.taints.cap] 70)).heap.size:=by simp;omega
  have c1:=qfq n (w.alloc (.cells #[.string n.name,.int .i64 n.r0,.int .i64 n.r1,.int .i64 n.r2,.slice n.labels.a n.labels.L.length n.labels.cap,.slice n.taints.a n.taints.L.length n.taints.cap] 70)) (hok.below hW0)
  rw [h0] at c1
  have c2:=fun W (hb:Below w.heap.size w W)=>qdv (H.below hb) n.name hnm
  rw [hN0] at c2
  have Hlen:Hid (∀ W,Below w.heap.size w W→ ∀ ty,(Builtin.len_ #[112] ty #[.map (some g.bn)]).run Tryz.prog W= .ok (.int .i64 g.NN.length) W):=fun W hb ty=>by have:=(H.below hb).nd.len Tryz.underlying112 ty;rwa [qw] at this
  have c3:=fun W (hb:Below w.heap.size w W)=>forget_any (H.below hb) n.name hnm
  have k1:=fun W hok1=>qc7 n.labels W hok1 (by omega)
  have k2:=fun W hok1=>qc7 n.taints W hok1 (by omega)
  have k3:=fun (F':Nat→Prop) W g' (hB:BMem F' W Y hd g') hF'=>qhk hB n.name hnm hF'
  have hst:=fun W (hM:qai Tryz.prog W 9 g.bn (mapV (·.1) g.NN)) v=>hM.store (val:=v) strK Tryz.underlying112 (by rw [qw];unfold maxLen;omega) (keyS n.name hnm)
  have Hok:Hid (n.ok w):=hok
  unfold qu.cells Lst.val at c1
  unfold qu.cells Lst.val
  unfold Lst.val at k1 k2
  clear hok h0
  have Hh:Hid (BMem F w Y hd g):=H
  have hxw:=H.cN
  go_enter Tryz.func16,Tryz.ntmps16
  go_wp2_with (first
    | (go_at_call 38;refine c1.mono ?_;rintro e w1 ⟨rfl,hb1⟩;have s1:=fun o=>hb1.cell (p:=⟨w.heap.size,o,none⟩) hz0;have y1:=fun o=>hb1.cell (p:=⟨Y,o,none⟩) hzY;have hW1:=qj hW0 hb1;have z1:w.heap.size < w1.heap.size:=Nat.lt_of_lt_of_le hz0 hb1.size;have zY1:Y < w1.heap.size:=Nat.lt_of_lt_of_le hzY hb1.size)
    | (go_at_call 39;refine (c2 w1 hW1).mono ?_;rintro e w2 ⟨rfl,hb2⟩;have s2:=fun o=>hb2.cell (p:=⟨w.heap.size,o,none⟩) z1;have y2:=fun o=>hb2.cell (p:=⟨Y,o,none⟩) zY1;have hW2:=qj hW1 hb2;have z2:w.heap.size < w2.heap.size:=Nat.lt_of_lt_of_le z1 hb2.size;have zY2:Y < w2.heap.size:=Nat.lt_of_lt_of_le zY1 hb2.size;have hlen:=Hlen.out w2 hW2)
    | (go_at_call 40;refine (c3 w2 hW2).mono ?_;rintro e w3 ⟨rfl,H3,hk3⟩))
  have s3:=fun o=>hk3.cell (p:=⟨w.heap.size,o,none⟩) z2 (fun h=>by have:=HnF.out _ h;dsimp only at this;omega)
  have y3:w3.cell? ⟨Y,4,none⟩=some (.map (some g.bn)):=H3.cN
  have hok3: ∀ x∈n.lists,x.ok w3:=fun x hx=>((Hok.out.2 x hx).below hW2).maps hk3 ((Hh.out.below hW2).loreMap)
  have Ho1:Hid (∀ W,Below w3.heap.size w3 W→n.labels.ok W):=fun W hb=>(hok3 _ (by simp [qu.lists])).below hb
  have Ho2:Hid (∀ W,Below w3.heap.size w3 W→n.taints.ok W):=fun W hb=>(hok3 _ (by simp [qu.lists])).below hb
  have z3:w.heap.size < w3.drew.heap.size:=Nat.lt_of_lt_of_le z2 hk3.size
  have zY3:Y < w3.drew.heap.size:=Nat.lt_of_lt_of_le zY2 hk3.size
  have hW3:Below w3.heap.size w3 w3.drew:=(Below.refl _ _).drew
  have hg3:(g.forget (ky n.name)).bn=g.bn:=rfl
  have hgN:(g.forget (ky n.name)).NN=g.NN:=rfl
  have Hm3:Hid (∀ W,Below w3.heap.size w3 W→qai Tryz.prog W 9 g.bn (mapV (·.1) g.NN)):=fun W hb=>(H3.below hb).nd
  have HH3:Hid (BMem F w3 Y hd (g.forget (ky n.name))):=H3
  have HK3:Hid (Kept F w w3):=(Kept.of_below hW2).trans hk3 (fun i _ h=>Hh.out.loreF h)
  clear H3 hok3 hk3
  go_region_held3 (fun w'=>w'.cell? ⟨w.heap.size,0,none⟩=some (.string n.name)∧w'.cell? ⟨w.heap.size,1,none⟩=some (.int .i64 n.r0)∧w'.cell? ⟨w.heap.size,2,none⟩=some (.int .i64 n.r1)∧w'.cell? ⟨w.heap.size,3,none⟩=some (.int .i64 n.r2)∧w'.cell? ⟨w.heap.size,4,none⟩=some (.slice n.labels.a n.labels.L.length n.labels.cap)∧w'.cell? ⟨w.heap.size,5,none⟩=some (.slice n.taints.a n.taints.L.length n.taints.cap)∧w'.cell? ⟨Y,4,none⟩=some (.map (some g.bn))) (go_keep)
    (first
      | (go_at_call_of 41 (Value.slice n.labels.a n.labels.L.length n.labels.cap);refine (k1 _ (Ho1.out _ hW3)).mono ?_;rintro e w4 ⟨b1,cp1,rfl,hl1,ho1,hb4⟩;have s4:=fun o=>hb4.cell (p:=⟨w.heap.size,o,none⟩) z3;have y4:=fun o=>hb4.cell (p:=⟨Y,o,none⟩) zY3;have hW4:=qj hW3 hb4;have z4:w.heap.size < w4.heap.size:=Nat.lt_of_lt_of_le z3 hb4.size;have zY4:Y < w4.heap.size:=Nat.lt_of_lt_of_le zY3 hb4.size)
      | (go_at_call_of 41 (Value.slice n.taints.a n.taints.L.length n.taints.cap);refine (k2 w4 (Ho2.out _ hW4)).mono ?_;rintro e w5 ⟨b2,cp2,rfl,hl2,ho2,hb5⟩;have s5:=fun o=>hb5.cell (p:=⟨w.heap.size,o,none⟩) z4;have y5:=fun o=>hb5.cell (p:=⟨Y,o,none⟩) zY4;have hW5:=qj hW4 hb5;have z5:w.heap.size < w5.heap.size:=Nat.lt_of_lt_of_le z4 hb5.size;have zY5:Y < w5.heap.size:=Nat.lt_of_lt_of_le zY4 hb5.size;obtain ⟨w6,hst6,hm6,ht6⟩:=hst w5 (Hm3.out _ hW5) (.agg #[.int .i64 n.r0,.int .i64 n.r1,.int .i64 n.r2,.slice (some ⟨b1,0,none⟩) n.labels.L.length cp1,.slice (some ⟨b2,0,none⟩) n.taints.L.length cp2]);have hk6:=Kept.turned ht6;have s6:=fun o=>hk6.cell (p:=⟨w.heap.size,o,none⟩) z5 (by dsimp only;omega);have y6:=fun o=>hk6.cell (p:=⟨Y,o,none⟩) zY5 hYn))
  obtain ⟨hB6,hK6⟩:=HH3.out.putTo (n:=n.val) (k:=ky n.name) hW5 ((ho1.below hb5).mono fun b e=>by rw [e];exact hl1) (ho2.mono fun b e=>by rw [e];have:=hb4.size;simp at this;omega) hm6 ht6
  have HB6:Hid (BMem (grow F w3 w6) w6 Y hd ((g.forget (ky n.name)).putRaw (ky n.name) (.agg #[.int .i64 n.val.r0,.int .i64 n.val.r1,.int .i64 n.val.r2,.slice (some ⟨b1,0,none⟩) n.labels.L.length cp1,.slice (some ⟨b2,0,none⟩) n.taints.L.length cp2]) n.val)):=hB6
  have HK6:Hid (Kept (fun b=>b=g.bn) w3 w6):=hK6
  have hs6:=hK6.size
  have hs36:=HK3.out.size
  clear hB6 hK6 ht6 hm6 hst6 y6 y5 y4 ho1 ho2 hb4 hb5 k1 k2 hst
  go_wp2_with (go_at_call 42;refine (k3 _ _ _ HB6.out hF).mono ?_;rintro e w7 ⟨rfl,hB7,hK7⟩)
  go_ret
  have hs7:=hK7.size
  refine ⟨_,by rw [HE.out];rfl,hB7.more (fun b h=>h.elim .inl fun h=> .inr ⟨by omega,by omega⟩) (fun b h=>h.elim (fun h=>by have:=Hh.out.lt b h;omega) (fun h=>h.2)),(HK3.out.trans HK6.out (fun i _ e=>by rw [e];exact Hh.out.fm _ (by simp [Gh.maps]))).trans hK7 (fun i _ h=> ?_),.inr ⟨HE.out,_,rfl⟩⟩
  rcases h with h| h
  · rw [h];exact Hh.out.fm _ (by simp [Gh.maps,Gh.putRaw,Gh.forget])
  · refine Hh.out.loreF (h.imp id fun h=> ?_)
    unfold Gh.putRaw Gh.forget at h
    rw [qhb] at h
    exact h
theorem putNode_full (H:BMem F w Y hd g) (n:qu) (hok:n.ok w) (h0:n.err=0) (hN0:getL g.NN (ky n.name)=none) (hge:32≤g.NN.length) (hN:g.NN.length < 100000):
    Calls Tryz.prog 16 #[.pointer (some ⟨Y,0,none⟩),.agg n.cells] w fun e w'=>e= .returned (.int .i64 6)∧Below w.heap.size w w':=by
  obtain ⟨hname,-,-⟩:=n.good_facts h0
  have hnm:n.name.size≤maxLen:=by unfold maxLen;omega
  have hY:=H.lt Y H.fy
  have hW0:Below w.heap.size w (w.alloc (.cells #[.string n.name,.int .i64 n.r0,.int .i64 n.r1,.int .i64 n.r2,.slice n.labels.a n.labels.L.length n.labels.cap,.slice n.taints.a n.taints.L.length n.taints.cap] 70)):=qi _ _
  have hz0:w.heap.size < (w.alloc (.cells #[.string n.name,.int .i64 n.r0,.int .i64 n.r1,.int .i64 n.r2,.slice n.labels.a n.labels.L.length n.labels.cap,.slice n.taints.a n.taints.L.length n.taints.cap] 70)).heap.size:=by simp
  have hzY:Y < (w.alloc (.cells #[.string n.name,.int .i64 n.r0,.int .i64 n.r1,.int .i64 n.r2,.slice n.labels.a n.labels.L.length n.labels.cap,.slice n.taints.a n.taints.L.length n.taints.cap] 70)).heap.size:=by simp;omega
  have c1:=qfq n (w.alloc (.cells #[.string n.name,.int .i64 n.r0,.int .i64 n.r1,.int .i64 n.r2,.slice n.labels.a n.labels.L.length n.labels.cap,.slice n.taints.a n.taints.L.length n.taints.cap] 70)) (hok.below hW0)
  rw [h0] at c1
  have c2:=fun W (hb:Below w.heap.size w W)=>qdv (H.below hb) n.name hnm
  rw [hN0] at c2
  have Hlen:Hid (∀ W,Below w.heap.size w W→ ∀ ty,(Builtin.len_ #[112] ty #[.map (some g.bn)]).run Tryz.prog W= .ok (.int .i64 g.NN.length) W):=fun W hb ty=>by have:=(H.below hb).nd.len Tryz.underlying112 ty;rwa [qw] at this
  unfold qu.cells Lst.val at c1
  unfold qu.cells Lst.val
  clear hok h0
  have hxw:=H.cN
  go_enter Tryz.func16,Tryz.ntmps16
  go_wp2_with (first
    | (go_at_call 38;refine c1.mono ?_;rintro e w1 ⟨rfl,hb1⟩;have s1:=fun o=>hb1.cell (p:=⟨w.heap.size,o,none⟩) hz0;have y1:=fun o=>hb1.cell (p:=⟨Y,o,none⟩) hzY;have hW1:=qj hW0 hb1;have z1:w.heap.size < w1.heap.size:=Nat.lt_of_lt_of_le hz0 hb1.size;have zY1:Y < w1.heap.size:=Nat.lt_of_lt_of_le hzY hb1.size)
    | (go_at_call 39;refine (c2 w1 hW1).mono ?_;rintro e w2 ⟨rfl,hb2⟩;have y2:=fun o=>hb2.cell (p:=⟨Y,o,none⟩) zY1;have hW2:=qj hW1 hb2;have hlen:=Hlen.out w2 hW2))
  go_ret
  exact ⟨rfl,hW2⟩
theorem putNode_bad (n:qu) (hok:n.ok w) (h0:n.err≠0):
    Calls Tryz.prog 16 #[.pointer (some ⟨Y,0,none⟩),.agg n.cells] w fun e w'=>e= .returned (.int .i64 n.err)∧Below w.heap.size w w':=by
  have hW0:Below w.heap.size w (w.alloc (.cells #[.string n.name,.int .i64 n.r0,.int .i64 n.r1,.int .i64 n.r2,.slice n.labels.a n.labels.L.length n.labels.cap,.slice n.taints.a n.taints.L.length n.taints.cap] 70)):=qi _ _
  have c1:=qfq n (w.alloc (.cells #[.string n.name,.int .i64 n.r0,.int .i64 n.r1,.int .i64 n.r2,.slice n.labels.a n.labels.L.length n.labels.cap,.slice n.taints.a n.taints.L.length n.taints.cap] 70)) (hok.below hW0)
  have h0':(n.err==0)=false:=by simpa using h0
  have h0'':(n.err != 0)=true:=by simpa using h0
  clear h0
  unfold qu.cells Lst.val at c1
  unfold qu.cells Lst.val
  go_enter Tryz.func16,Tryz.ntmps16
  go_wp2_with (go_at_call 38;refine c1.mono ?_;rintro e w1 ⟨rfl,hb1⟩)
  go_ret
  exact ⟨rfl,qj hW0 hb1⟩
theorem pPutNode_any (H:BMem F w Y hd g) (n:qu) (hok:n.ok w) (hN:g.NN.length < 100000) (hF:g.FF.length < 100000):
    Calls Tryz.prog 16 #[.pointer (some ⟨Y,0,none⟩),.agg n.cells] w fun e w'=> ∃ g',e= .returned (.int .i64 (g.putErr n))∧BMem (grow F w w') w' Y hd g'∧Kept F w w'∧g.PutTo n g':=by
  by_cases h0:n.err=0
  · cases hN0:getL g.NN (ky n.name) with
    | some x=>exact putNode_old H n hok hN hF h0 (by rw [hN0];rfl)
    | none=>
      by_cases hlt:g.NN.length < 32
      · exact putNode_new H n hok hN hF h0 hN0 hlt
      · have he:g.putErr n=6:=by simp [Gh.putErr,h0,hN0,Nat.le_of_not_lt hlt]
        exact (putNode_full H n hok h0 hN0 (by omega) hN).mono fun e w' h=>⟨g,by rw [he];exact h.1,H.grows h.2,Kept.of_below h.2,.inl ⟨by rw [he];decide,rfl⟩⟩
  · have he:g.putErr n=n.err:=by simp [Gh.putErr,h0]
    exact (putNode_bad n hok h0).mono fun e w' h=>⟨g,by rw [he];exact h.1,H.grows h.2,Kept.of_below h.2,.inl ⟨by rw [he];exact h0,rfl⟩⟩
end
end
end Go.Proofs.YtchddaafibjmgaaGreat
