import Derived.Test.YtchddaafibjmgaaGreatMA16
set_option maxRecDepth 100000
set_option maxHeartbeats 20000000
namespace Go.Proofs.YtchddaafibjmgaaGreat
section
open Go.RowKit Go.Maps
structure Rep where
  err:Int
  node:qn
  score:Int
  reasons:List (qn×Int)
  fresh:Int
def rep0:Rep:=⟨9,[],0,[],0⟩
def qev (N:List (qn×qbb)) (P:List (qn×qag)) (v:PodV) (st:Rep) (p:qn×qbb):Rep:=
  if (qbk N P p.1 p.2 v).1≠0 then { st with reasons:=st.reasons++ [(p.1,(qbk N P p.1 p.2 v).1)] } else if st.err≠0∨st.score < (qbk N P p.1 p.2 v).2 then { st with err:=0,node:=p.1,score:=(qbk N P p.1 p.2 v).2 } else st
def qcx (N:List (qn×qbb)) (P:List (qn×qag)) (v:PodV) (k:Nat):Rep:=(N.take k).foldl (qev N P v) rep0
def Rep.done (r:Rep):Rep:=if r.err≠0 then r else { r with reasons:= [] }
def qay (N:List (qn×qbb)) (P:List (qn×qag)) (v:PodV):Rep:=(N.foldl (qev N P v) rep0).done
theorem loopC_succ (N:List (qn×qbb)) (P:List (qn×qag)) (v:PodV) {k:Nat} (h:k < N.length):qcx N P v (k+1)=qev N P v (qcx N P v k) N[k]:=by
  unfold qcx
  rw [List.take_succ_eq_append_getElem h,List.foldl_append]
  rfl
theorem loopC_end (N:List (qn×qbb)) (P:List (qn×qag)) (v:PodV):(qcx N P v N.length).done=qay N P v:=by
  unfold qcx qay
  rw [List.take_length]
def qfb (p:qn×Int):List Value:= [.string (bs p.1),.int .i64 p.2]
theorem loopC_len (N:List (qn×qbb)) (P:List (qn×qag)) (v:PodV): ∀ k,(qcx N P v k).reasons.length≤k
  | 0=>by simp [qcx,rep0]
  | k+1=>by
    by_cases h:k < N.length
    · rw [loopC_succ N P v h]
      have ih:=loopC_len N P v k
      unfold qev
      split
      · simp;omega
      · split
        · show (qcx N P v k).reasons.length≤k+1
          omega
        · omega
    · have:qcx N P v (k+1)=qcx N P v k:=by
        unfold qcx
        rw [List.take_of_length_le (by omega),List.take_of_length_le (by omega)]
      rw [this]
      have ih:=loopC_len N P v k
      omega
def bestCells (st:Rep):Array Value:= #[.int .i64 st.err,.string (bs st.node),.int .i64 st.score,.slice none 0 0,.int .i64 0]
def qcf:Array Value:= #[.int .i64 0,.string ⟨#[]⟩,.int .i64 0,.slice none 0 0,.int .i64 0]
structure ChFix (F0:Nat→Prop) (w0:World) (F:Nat→Prop) (bk xb:Nat):Prop where
  f0lt: ∀ b,F0 b→b < w0.heap.size
  more: ∀ b,F0 b→F b
  less: ∀ b,F b→F0 b∨w0.heap.size+2≤b
  flt: ∀ b,F b→b < xb
  bklt:bk < xb
  bk:F0 bk∨w0.heap.size+2≤bk
  xge:w0.heap.size+2≤xb
structure ChMem (F0:Nat→Prop) (w0:World) (g0:Gh) (hd:Head) (Y:Nat) (p:PodD) (F:Nat→Prop) (bk xb:Nat) (nv:Value) (wr:World):Prop where
  known: ∃ G l,qgy F wr Y hd G (qd8 p.val) bk l∧G.NN=g0.NN∧G.PP=g0.PP∧G.FF=g0.FF∧G.WW=g0.WW∧qbu hd G∧Full G∧ ∀ n a,getL l n=some a→ ∃ nd,getL g0.NN n=some nd∧a=qbk g0.nodes g0.pods n nd.2 p.val
  ok:p.ok wr
  box:qew wr w0.heap.size p
  res:wr.heap[w0.heap.size+1]? =some (.cells qcf 97 (0,0))
  names:wr.ownsRow 0 9 1 nv g0.NN.length (qa9 g0.NN)
  nnew: ∀ b,nv.ownBlock=some b→xb≤b
  kept:Kept F0 w0 wr
  xlt:xb < wr.heap.size
theorem Lst.ok.keptNo {w w':World} {x:Lst} (h:x.ok w) {G:Nat→Prop} (hk:Kept G w w') (hG: ∀ b o,G b→w.cell? ⟨b,o,none⟩=none):x.ok w':=by
  refine ⟨h.1,h.2.1,fun k hk'=> ?_,h.2.2.2⟩
  obtain ⟨b,off,e,h1,h2⟩:=h.2.2.1 k hk'
  have hl:=World.block_lt_of_cell? w _ h1
  have hn: ¬ G b:=fun hg=>by rw [hG b _ hg] at h1;cases h1
  exact ⟨b,off,e,by rw [← h1];exact hk.cell (p:=⟨b,off+k * 2,none⟩) hl hn,by rw [← h2];exact hk.cell (p:=⟨b,off+k * 2+1,none⟩) hl hn⟩
theorem PodD.ok.keptNo {w w':World} {p:PodD} (h:p.ok w) {G:Nat→Prop} (hk:Kept G w w') (hG: ∀ b o,G b→w.cell? ⟨b,o,none⟩=none):p.ok w':=⟨h.1,fun x hx=>(h.2 x hx).keptNo hk hG⟩
theorem qhl {w:World} {b:Nat} (h: ∃ es c,w.heap[b]? =some (.map es c)) (o:Nat):w.cell? ⟨b,o,none⟩=none:=by
  obtain ⟨es,c,h⟩:=h
  simp [World.cell?,h]
theorem PodD.ok.keptNew {w0 w w':World} {p:PodD} (h:p.ok w) (h0:p.ok w0) {G:Nat→Prop} (hk:Kept G w w') (hG: ∀ b,G b→w0.heap.size≤b):p.ok w':=by
  refine ⟨h.1,fun x hx=>⟨(h.2 x hx).1,(h.2 x hx).2.1,fun k hk'=> ?_,(h.2 x hx).2.2.2⟩⟩
  obtain ⟨b,off,e,h1,h2⟩:=(h.2 x hx).2.2.1 k hk'
  obtain ⟨b',off',e',h1',_⟩:=(h0.2 x hx).2.2.1 k hk'
  have eb:b'=b:=by rw [e] at e';simp only [Option.some.injEq,Addr.mk.injEq] at e';exact e'.1.symm
  have hl:=World.block_lt_of_cell? w0 _ h1'
  dsimp only at hl
  have hn: ¬ G b:=fun hg=>by have:=hG b hg;omega
  have hl':=World.block_lt_of_cell? w _ h1
  exact ⟨b,off,e,by rw [← h1];exact hk.cell (p:=⟨b,off+k * 2,none⟩) hl' hn,by rw [← h2];exact hk.cell (p:=⟨b,off+k * 2+1,none⟩) hl' hn⟩
section
variable {F0:Nat→Prop} {w0:World} {g0:Gh} {hd:Head} {Y:Nat} {p:PodD} {F:Nat→Prop} {bk xb:Nat} {nv:Value} {wr w':World}
theorem ChMem.hi (C:ChMem F0 w0 g0 hd Y p F bk xb nv wr) (X:ChFix F0 w0 F bk xb) (h0:p.ok w0) {G:Nat→Prop} (hk:Kept G wr w') (hG: ∀ b,G b→xb≤b) (hn: ∀ b,nv.ownBlock=some b→ ¬ G b):ChMem F0 w0 g0 hd Y p F bk xb nv w':=by
  obtain ⟨G',l,hK,hr⟩:=C.known
  have hx:=X.xge
  have hc0: ¬ G w0.heap.size:=fun h=>by have:=hG _ h;omega
  have hc1: ¬ G (w0.heap.size+1):=fun h=>by have:=hG _ h;omega
  refine ⟨⟨G',l,⟨hK.mem.kept hk (fun b hb h=> ?_) (fun _ h=>h) (fun b hb=>Nat.lt_of_lt_of_le (hK.mem.lt b hb) hk.size),hK.map.kept hk (fun h=> ?_),hK.lies⟩,hr⟩,C.ok.keptNew h0 hk (fun b h=>by have:=hG b h;omega),?_,?_,hk.ownsRow C.names hn,C.nnew,C.kept.trans hk (fun i hi h=> ?_),Nat.lt_of_lt_of_le C.xlt hk.size⟩
  · have:=hG b h
    have:=X.flt b hb
    omega
  · have:=hG _ h
    have:=X.bklt
    omega
  · unfold qew
    rw [hk.block _ (qo C.box) hc0]
    exact C.box
  · rw [hk.block _ (qo C.res) hc1]
    exact C.res
  · have:=hG i h
    omega
theorem ChMem.below (C:ChMem F0 w0 g0 hd Y p F bk xb nv wr) (X:ChFix F0 w0 F bk xb) (h0:p.ok w0) (hb:Below wr.heap.size wr w'):ChMem F0 w0 g0 hd Y p F bk xb nv w':=
  C.hi X h0 (Kept.of_below (F:=qq) hb) (fun _ h=>h.elim) (fun _ _=>id)
theorem ChMem.note (C:ChMem F0 w0 g0 hd Y p F bk xb nv wr) (X:ChFix F0 w0 F bk xb) (hf:p.val.Fine) {nm:qn} (hnm:nm.length≤maxLen) {nd:Value×qbb} (hnd:getL g0.NN nm=some nd):
    ∃ w',(Instr.mapUpdate 159 (.map (some bk)) (.string (bs nm)) (ansV (qbk g0.nodes g0.pods nm nd.2 p.val))).run Tryz.prog wr= .ok () w'∧ChMem F0 w0 g0 hd Y p F bk xb nv w'∧Kept (fun b=>b=bk) wr w':=by
  obtain ⟨G,l,hK,e1,e2,e3,e4,hS,hFu,hr⟩:=C.known
  have keyNm:keyOf Tryz.prog 9 (.string (bs nm))=some (.string nm):=by rw [keyS _ (by rw [qe1];exact hnm),qga]
  have hld:l.Pairwise fun p q=>p.1≠q.1:=(qbq.1 (hK.map.sorted strK)).distinct
  have hll:l.length≤32:=by
    refine Nat.le_trans (qe9 l hld G.NN hK.mem.ord.n.distinct fun q hq=> ?_) hS.b.nn
    obtain ⟨nd',h1,_⟩:=hr q.1 q.2 (qac hld hq)
    rw [e1,h1]
    rfl
  obtain ⟨w',hrun,hK',hk⟩:=hK.note keyNm (by unfold maxLen;omega) (qbk g0.nodes g0.pods nm nd.2 p.val)
  have n1:G.nodes=g0.nodes:=by unfold Gh.nodes;rw [e1]
  have n2:G.pods=g0.pods:=by unfold Gh.pods;rw [e2]
  obtain ⟨q1,q2,q3,q4,_⟩:=noted_parts (g:=G) (kv:=qd8 p.val) (l:=putL l nm (qbk g0.nodes g0.pods nm nd.2 p.val)) hd.rem
  have q5:(G.noted hd.rem (qd8 p.val) (putL l nm (qbk g0.nodes g0.pods nm nd.2 p.val))).WW=G.WW:=by cases hd.rem<;>rfl
  have hS':qbu hd (G.noted hd.rem (qd8 p.val) (putL l nm (qbk g0.nodes g0.pods nm nd.2 p.val))):=by
    refine hS.noted hf (fun hrem=> ?_) (fun nd' hnd'=> ?_) ?_
    · rcases hK.lies with ⟨_,h⟩| ⟨h,_⟩
      · exact ⟨bk,h⟩
      · rw [hrem] at h;cases h
    · rw [e1,hnd] at hnd'
      rw [n1,n2,Option.some.inj hnd']
    · rw [e1,hnd];rfl
  have hFu':Full (G.noted hd.rem (qd8 p.val) (putL l nm (qbk g0.nodes g0.pods nm nd.2 p.val))):=by
    intro q hq
    rw [q1] at hq
    obtain ⟨v,h1,h2⟩:=hFu q hq
    refine ⟨v,by rw [q3];exact h1,?_⟩
    cases hd.rem<;>exact ⟨h2.ptrs,h2.used⟩
  have hmap: ∃ es c,wr.heap[bk]? =some (.map es c):=hK.map.isMap
  have hx:=X.bklt
  have hne0:w0.heap.size≠bk:=fun e=>by rcases X.bk with h| h;(have:=X.f0lt _ h;omega);omega
  have hne1:w0.heap.size+1≠bk:=fun e=>by rcases X.bk with h| h;(have:=X.f0lt _ h;omega);omega
  refine ⟨w',hrun,⟨⟨_,_,hK',by rw [q1,e1],by rw [q2,e2],by rw [q4,e3],by rw [q5,e4],hS',hFu',fun n a hn=> ?_⟩,C.ok.keptNo hk (fun b o h=>by subst h;exact qhl hmap o),?_,?_,hk.ownsRow C.names (fun b hb e=>by have:=C.nnew b hb;omega),C.nnew,C.kept.trans hk (fun i hi e=> ?_),Nat.lt_of_lt_of_le C.xlt hk.size⟩,hk⟩
  · by_cases e:n=nm
    · subst e
      rw [qap] at hn
      exact ⟨nd,hnd,(Option.some.inj hn).symm⟩
    · rw [qaj _ _ e] at hn
      exact hr n a hn
  · unfold qew
    rw [hk.block _ (qo C.box) hne0]
    exact C.box
  · rw [hk.block _ (qo C.res) hne1]
    exact C.res
  · subst e
    rcases X.bk with h| h
    · exact h
    · omega
end
end
section
open Go.RowKit Go.Maps
theorem sortedN_fresh {w:World} {b:Nat} {L:List (qn×Value)} (hown:qai Tryz.prog w 9 b L) (hl:L.length≤100000):
    Calls Tryz.prog 78 #[.func (.func 92) #[] #[.pointer (some ⟨w.heap.size,0,none⟩)]] (w.alloc (.cells #[.map (some b)] 112)) fun e w'=> ∃ ao cap,e= .returned (.slice ao L.length cap)∧w'.ownsRow 0 9 1 (.slice ao L.length cap) L.length (qa9 L)∧(∀ k,(Value.slice ao L.length cap).ownBlock=some k→w.heap.size≤k)∧Below w.heap.size w w':=by
  refine (callsIn_wide.1 (Tryz.slices_Sorted_keys_78_79 b L.length (qgw L) qct w hown (by rw [qdy];unfold maxLen;omega) (by rw [qdy];omega))).mono ?_
  rintro e w' ⟨v,ss,rfl,hp,hrow,_,hb⟩
  have hlt:=fun k hk=>(hrow.lt k hk).1
  rw [qhc] at hp
  obtain ⟨ao,cap,rfl,hr⟩:=sorted_tail (hown.sorted strK) hp hrow
  exact ⟨ao,cap,rfl,hr,fun k hk=>by have:=hlt k hk;simp at this;omega,qj (qi _ _) hb⟩
structure qck (F0:Nat→Prop) (w0:World) (g0:Gh) (hd:Head) (Y:Nat) (p:PodD) (F:Nat→Prop) (bk xb:Nat) (nv:Value) (st:Rep) (oo:Option Addr) (oc:Nat) (wr:World):Prop where
  mem:ChMem F0 w0 g0 hd Y p F bk xb nv wr
  best:wr.heap[xb]? =some (.cells (bestCells st) 97 (0,0))
  rsn:wr.ownsRow 0 88 2 (.slice oo st.reasons.length oc) st.reasons.length (st.reasons.flatMap qfb)
  rnew: ∀ b,(Value.slice oo st.reasons.length oc).ownBlock=some b→xb < b
section
variable {F0:Nat→Prop} {w0:World} {g0:Gh} {hd:Head} {Y:Nat} {p:PodD} {F:Nat→Prop} {bk xb:Nat} {nv:Value} {st:Rep} {oo:Option Addr} {oc:Nat} {wr w':World}
theorem qck.hi (C:qck F0 w0 g0 hd Y p F bk xb nv st oo oc wr) (X:ChFix F0 w0 F bk xb) (h0:p.ok w0) {G:Nat→Prop} (hk:Kept G wr w') (hG: ∀ b,G b→xb < b) (hn: ∀ b,nv.ownBlock=some b→ ¬ G b) (hr: ∀ b,(Value.slice oo st.reasons.length oc).ownBlock=some b→ ¬ G b):qck F0 w0 g0 hd Y p F bk xb nv st oo oc w':=
  ⟨C.mem.hi X h0 hk (fun b h=>Nat.le_of_lt (hG b h)) hn,by rw [hk.block _ C.mem.xlt fun h=>by have:=hG _ h;omega];exact C.best,hk.ownsRow C.rsn hr,C.rnew⟩
theorem qck.below (C:qck F0 w0 g0 hd Y p F bk xb nv st oo oc wr) (X:ChFix F0 w0 F bk xb) (h0:p.ok w0) (hb:Below wr.heap.size wr w'):qck F0 w0 g0 hd Y p F bk xb nv st oo oc w':=
  C.hi X h0 (Kept.of_below (F:=qq) hb) (fun _ h=>h.elim) (fun _ _=>id) (fun _ _=>id)
theorem qck.ansBlock (C:qck F0 w0 g0 hd Y p F bk xb nv st oo oc wr) (X:ChFix F0 w0 F bk xb) (h0:p.ok w0) {ab:Nat} {c:Array Value} (hab:wr.heap[ab]? =some (.cells c 178 (0,0))) (hx:xb < ab) (hk:Kept (fun b=>b=ab) wr w'):qck F0 w0 g0 hd Y p F bk xb nv st oo oc w':=by
  refine C.hi X h0 hk (fun b h=>by omega) (fun b hb e=> ?_) (fun b hb e=> ?_)
  · subst e
    obtain ⟨c',h⟩:=qby C.mem.names hb
    rw [hab] at h
    simp at h
  · subst e
    obtain ⟨c',h⟩:=qby C.rsn hb
    rw [hab] at h
    simp at h
theorem qck.note (C:qck F0 w0 g0 hd Y p F bk xb nv st oo oc wr) (X:ChFix F0 w0 F bk xb) (hf:p.val.Fine) {nm:qn} (hnm:nm.length≤maxLen) {nd:Value×qbb} (hnd:getL g0.NN nm=some nd):
    ∃ w',(Instr.mapUpdate 159 (.map (some bk)) (.string (bs nm)) (.agg #[.int .i64 (qbk g0.nodes g0.pods nm nd.2 p.val).1,.int .i64 (qbk g0.nodes g0.pods nm nd.2 p.val).2])).run Tryz.prog wr= .ok () w'∧qck F0 w0 g0 hd Y p F bk xb nv st oo oc w'∧Kept (fun b=>b=bk) wr w':=by
  obtain ⟨w',hr,C',hk⟩:=C.mem.note X hf hnm hnd
  have hx:=X.bklt
  exact ⟨w',hr,⟨C',by rw [hk.block _ C.mem.xlt (by omega)];exact C.best,hk.ownsRow C.rsn fun b hb e=>by have:=C.rnew b hb;omega,C.rnew⟩,hk⟩
theorem qck.better (C:qck F0 w0 g0 hd Y p F bk xb nv st oo oc wr) (X:ChFix F0 w0 F bk xb) (h0:p.ok w0) (nm:qn) (sc:Int):
    qck F0 w0 g0 hd Y p F bk xb nv { st with err:=0,node:=nm,score:=sc } oo oc (((((wr.setCell ⟨xb,0,none⟩ (.int .i64 0)).setCell ⟨xb,1,none⟩ (.string (bs nm))).setCell ⟨xb,2,none⟩ (.int .i64 sc)).setCell ⟨xb,3,none⟩ (.slice none 0 0)).setCell ⟨xb,4,none⟩ (.int .i64 0)):=by
  have hk:Kept (fun b=>b=xb) wr (((((wr.setCell ⟨xb,0,none⟩ (.int .i64 0)).setCell ⟨xb,1,none⟩ (.string (bs nm))).setCell ⟨xb,2,none⟩ (.int .i64 sc)).setCell ⟨xb,3,none⟩ (.slice none 0 0)).setCell ⟨xb,4,none⟩ (.int .i64 0)):=
    (((((Kept.refl (fun b=>b=xb) wr).setCell (p:=⟨xb,0,none⟩) (fun _=>rfl) _).setCell (p:=⟨xb,1,none⟩) (fun _=>rfl) _).setCell (p:=⟨xb,2,none⟩) (fun _=>rfl) _).setCell (p:=⟨xb,3,none⟩) (fun _=>rfl) _).setCell (p:=⟨xb,4,none⟩) (fun _=>rfl) _
  refine ⟨C.mem.hi X h0 hk (fun b h=>by omega) (fun b hb e=> ?_),?_,hk.ownsRow C.rsn fun b hb e=>by have:=C.rnew b hb;omega,C.rnew⟩
  · subst e
    obtain ⟨c',h⟩:=qby C.mem.names hb
    rw [C.best] at h
    simp at h
  · have b1:=qs C.best (i:=0) (v:= .int .i64 0)
    have b2:=qs b1 (i:=1) (v:= .string (bs nm))
    have b3:=qs b2 (i:=2) (v:= .int .i64 sc)
    have b4:=qs b3 (i:=3) (v:= .slice none 0 0)
    have b5:=qs b4 (i:=4) (v:= .int .i64 0)
    rw [b5]
    rfl
theorem qck.reason (C:qck F0 w0 g0 hd Y p F bk xb nv st oo oc wr) (X:ChFix F0 w0 F bk xb) (h0:p.ok w0) {w1:World} (hb:Below wr.heap.size wr w1) {nm:qn} {why:Int} {ao:Option Addr} {cap:Nat} (hr:w'.ownsRow 0 88 2 (.slice ao (st.reasons.length+1) cap) (st.reasons.length+1) (st.reasons.flatMap qfb++ [.string (bs nm),.int .i64 why]))
    (hg:w1.grownBy w' (Value.slice oo st.reasons.length oc).ownBlock) (hf:(Value.slice ao (st.reasons.length+1) cap).ownBlock=(Value.slice oo st.reasons.length oc).ownBlock∨ ∀ k,(Value.slice ao (st.reasons.length+1) cap).ownBlock=some k→w1.heap.size≤k):
    qck F0 w0 g0 hd Y p F bk xb nv { st with reasons:=st.reasons++ [(nm,why)] } ao cap w':=by
  have C1:=C.below X h0 hb
  have hk:Kept (fun b=>(Value.slice oo st.reasons.length oc).ownBlock=some b) w1 w':=(Kept.refl _ _).grown hg fun k hk _=>hk
  have hl:(st.reasons++ [(nm,why)]).length=st.reasons.length+1:=by simp
  refine ⟨C1.mem.hi X h0 hk (fun b h=>Nat.le_of_lt (C.rnew b h)) (fun b hb' e=>qce C1.mem.names C1.rsn (by decide) hb' e),?_,?_,fun b hb'=> ?_⟩
  · rw [hk.block _ C1.mem.xlt fun h=>by have:=C.rnew _ h;omega]
    exact C1.best
  · show w'.ownsRow 0 _ 2 (.slice ao (st.reasons++ [(nm,why)]).length cap) (st.reasons++ [(nm,why)]).length ((st.reasons++ [(nm,why)]).flatMap qfb)
    rw [hl,List.flatMap_append]
    simpa [qfb] using hr
  · have hb':(Value.slice ao (st.reasons++ [(nm,why)]).length cap).ownBlock=some b:=hb'
    rw [hl] at hb'
    rcases hf with h| h
    · exact C.rnew b (by rw [← h];exact hb')
    · have:=h b hb'
      have:=hb.size
      have:=C.mem.xlt
      omega
theorem qck.start (H:BMem F0 w0 Y hd g0) (hg:p.Good) {wL w1 w2:World} (zL:wL.heap.size=w0.heap.size+2) {VV:List (qn×qba)} (H1:BMem (grow F0 wL w1) w1 Y hd { g0 with VV:=VV }) (Fu:Full { g0 with VV:=VV }) (S1:qbu hd { g0 with VV:=VV })
    (ok1:p.ok w1) (box1:qew w1 w0.heap.size p) (res1:w1.heap[w0.heap.size+1]? =some (.cells qcf 97 (0,0))) (K1:Kept F0 w0 w1) (z1:wL.heap.size≤w1.heap.size) {l:List (qn×(Int×Int))} {AA:List (qn×(Nat×List (qn×(Int×Int))))} (T:KnownTo (grow F0 wL w1) w1 w2 Y hd { g0 with VV:=VV } (qd8 p.val) bk l F AA):
    ChFix F0 w0 F bk w2.heap.size∧ ∀ w5 nv oo oc,Below (w2.heap.size+1) (w2.alloc (.cells (bestCells rep0) 97)) w5→w5.ownsRow 0 9 1 nv g0.NN.length (qa9 g0.NN)→(∀ b,nv.ownBlock=some b→w2.heap.size≤b)→w5.ownsRow 0 88 2 (.slice oo 0 oc) 0 []→(∀ b,(Value.slice oo 0 oc).ownBlock=some b→w2.heap.size < b)→
      qck F0 w0 g0 hd Y p F bk w2.heap.size nv (qcx g0.nodes g0.pods p.val 0) oo oc w5:=by
  have hba0:F0 g0.ba:=H.fm _ (by simp [Gh.maps])
  have hba:=H.lt _ hba0
  have hmb: ∃ es c,w1.heap[g0.ba]? =some (.map es c):=H1.isMap (b:=g0.ba) (by simp [Gh.maps])
  obtain ⟨es,c,hmk⟩:=T.at_.map.isMap
  have hz12:=T.kept.size
  have X:ChFix F0 w0 F bk w2.heap.size:=by
    refine ⟨H.lt,fun b hb=>T.more b (.inl hb),fun b hb=> ?_,T.at_.mem.lt,qo hmk,?_,by omega⟩
    · rcases T.less b hb with (h| h)| h
      · exact .inl h
      · exact .inr (by omega)
      · exact .inr (by omega)
    · rcases T.new with h| ⟨x,hx,rfl⟩
      · exact .inr (by omega)
      · exact .inl (H.fm _ (List.mem_append_right _ (List.mem_map.2 ⟨_,qar hx,rfl⟩)))
  refine ⟨X,fun w5 nv oo oc hb5 hnm hnn hrs hrn=> ?_⟩
  have hz5:=hb5.size
  simp only [World.size_alloc] at hz5
  have hb25:Below w2.heap.size w2 w5:=(qi w2 _).trans (hb5.mono (by omega))
  have ok2:p.ok w2:=ok1.keptNo T.kept (fun b o h=>by subst h;exact qhl hmb o)
  have e0: ¬ w0.heap.size=g0.ba:=by omega
  have e1: ¬ w0.heap.size+1=g0.ba:=by omega
  have i0:=qo box1
  have i1:=qo res1
  refine ⟨⟨⟨{ g0 with VV:=VV,AA:=AA },l,T.at_.below hb25,rfl,rfl,rfl,rfl,S1.known T.rest,?_,fun n a hn=> ?_⟩,ok2.below hb25,?_,?_,hnm,hnn,?_,by omega⟩,?_,hrs,hrn⟩
  · intro q hq
    obtain ⟨v,h1,h2⟩:=Fu q hq
    exact ⟨v,h1,h2.ptrs,h2.used⟩
  · rcases T.from_ with rfl| ⟨x,hx,rfl⟩
    · cases hn
    · have hs:=S1.l.ak _ x hx n a hn
      cases e:getL g0.NN n with
      | none=>
        have hs':(getL g0.NN n).isSome=true:=hs
        rw [e] at hs'
        cases hs'
      | some nd=>exact ⟨nd,rfl,S1.l.ans _ x hx n a hn p.val hg.fine rfl nd e⟩
  · show w5.heap[_]? =_
    rw [hb25.block _ (by omega),T.kept.block _ i0 e0]
    exact box1
  · rw [hb25.block _ (by omega),T.kept.block _ i1 e1]
    exact res1
  · exact (K1.trans T.kept fun i _ e=>by rw [e];exact hba0).trans (Kept.of_below (F:=qq) hb25) fun _ _ h=>h.elim
  · rw [hb5.block _ (by omega)]
    exact qm _ _
end
end
section
open Go.RowKit Go.Maps
theorem len_nodes' (g:Gh):g.nodes.length=g.NN.length:=by unfold Gh.nodes;rw [qw]
theorem boxC {W:World} {b:Nat} {p:PodD} (hB:qew W b p):W.cell? ⟨b,0,none⟩=some (.string p.name)∧W.cell? ⟨b,1,none⟩=some (.int .i64 p.n0)∧W.cell? ⟨b,2,none⟩=some (.int .i64 p.n1)∧W.cell? ⟨b,3,none⟩=some (.int .i64 p.n2)∧W.cell? ⟨b,4,none⟩=some (.int .i64 p.port)∧W.cell? ⟨b,5,none⟩=some (.slice p.labels.a p.labels.L.length p.labels.cap)∧W.cell? ⟨b,6,none⟩=some (.slice p.select.a p.select.L.length p.select.cap)∧W.cell? ⟨b,7,none⟩=some (.slice p.bears.a p.bears.L.length p.bears.cap)∧W.cell? ⟨b,8,none⟩=some (.slice p.near.a p.near.L.length p.near.cap)∧W.cell? ⟨b,9,none⟩=some (.slice p.apart.a p.apart.L.length p.apart.cap):=by
  refine ⟨?_,?_,?_,?_,?_,?_,?_,?_,?_,?_⟩<;>(rw [ql hB];rfl)
theorem bestC {W:World} {b:Nat} {st:Rep} (hB:W.heap[b]? =some (.cells (bestCells st) 97 (0,0))):W.cell? ⟨b,0,none⟩=some (.int .i64 st.err)∧W.cell? ⟨b,1,none⟩=some (.string (bs st.node))∧W.cell? ⟨b,2,none⟩=some (.int .i64 st.score)∧W.cell? ⟨b,3,none⟩=some (.slice none 0 0)∧W.cell? ⟨b,4,none⟩=some (.int .i64 0)∧ ∀ o,W.frozen? ⟨b,o,none⟩=false:=by
  refine ⟨?_,?_,?_,?_,?_,fun o=>qp hB⟩<;>(rw [ql hB];rfl)
theorem ansC {W:World} {b:Nat} {a1 a2:Int} (hB:W.heap[b]? =some (.cells #[.int .i64 a1,.int .i64 a2] 178 (0,0))):W.cell? ⟨b,0,none⟩=some (.int .i64 a1)∧W.cell? ⟨b,1,none⟩=some (.int .i64 a2)∧ ∀ o,W.frozen? ⟨b,o,none⟩=false:=by
  refine ⟨?_,?_,fun o=>qp hB⟩<;>(rw [ql hB];rfl)
theorem pair_at (w:World) (a b:Value) (t:TypeId): ∀ (j:Nat) u,[a,b][j]? =some u→(w.alloc (.cells #[a,b] t)).cell? ((⟨w.heap.size,0,none⟩:Addr).add j)=some u:=by
  intro j u hu
  have ha:(⟨w.heap.size,0,none⟩:Addr).add j=⟨w.heap.size,j,none⟩:=by
    unfold Addr.add
    split
    · rename_i h;rw [h]
    · simp
  rw [ha,ql (qm w _),← hu]
  simp
theorem sizeRT:(Tryz.prog.info? 97).map (·.size)=some 5:=by kernel_rfl
theorem qft {w:World} {b:Nat} {t:TypeId} {y0 y1 y2 y3 y4:Value} (h:w.heap[b]? =some (.cells #[y0,y1,y2,y3,y4] t (0,0))) (x0 x1 x2 x3 x4:Value):
    (((((w.setCell ⟨b,0,none⟩ x0).setCell ⟨b,1,none⟩ x1).setCell ⟨b,2,none⟩ x2).setCell ⟨b,3,none⟩ x3).setCell ⟨b,4,none⟩ x4).heap[b]? =some (.cells #[x0,x1,x2,x3,x4] t (0,0)):=by
  have h0:=qs h (i:=0) x0
  have h1:=qs h0 (i:=1) x1
  have h2:=qs h1 (i:=2) x2
  have h3:=qs h2 (i:=3) x3
  have h4:=qs h3 (i:=4) x4
  rw [h4]
  simp
theorem infoRS:(Tryz.prog.info? 88).map (fun i=>(i.zero,i.size,i.bytes))=some (some (.agg #[.string ⟨#[]⟩,.int .i64 0]),2,24):=by kernel_rfl
theorem zeroAns (w:World):(zeroValue 178).run Tryz.prog w= .ok (.agg #[.int .i64 0,.int .i64 0]) w:=by kernel_rfl
def repV (r:Rep) (oo:Option Addr) (oc:Nat):Value:= .agg #[.int .i64 r.err,.string (bs r.node),.int .i64 r.score,.slice oo r.reasons.length oc,.int .i64 r.fresh]
structure ChosenTo (F0:Nat→Prop) (w0:World) (g0:Gh) (hd:Head) (Y:Nat) (p:PodD) (r:Rep) (oo:Option Addr) (oc:Nat) (F:Nat→Prop) (w':World) (G:Gh):Prop where
  mem:BMem F w' Y hd G
  more: ∀ b,F0 b→F b
  less: ∀ b,F b→grow F0 w0 w' b
  kept:Kept F0 w0 w'
  nn:G.NN=g0.NN
  pp:G.PP=g0.PP
  ff:G.FF=g0.FF
  ww:G.WW=g0.WW
  sound:qbu hd G
  rsn:w'.ownsRow 0 88 2 (.slice oo r.reasons.length oc) r.reasons.length (r.reasons.flatMap qfb)
  rnew: ∀ b,(Value.slice oo r.reasons.length oc).ownBlock=some b→w0.heap.size≤b∧ ¬ F b
  ok:p.ok w'
theorem loopC_fresh (N:List (qn×qbb)) (P:List (qn×qag)) (v:PodV): ∀ k,(qcx N P v k).fresh=0
  | 0=>rfl
  | k+1=>by
    by_cases h:k < N.length
    · rw [loopC_succ N P v h]
      have ih:=loopC_fresh N P v k
      unfold qev
      split
      · exact ih
      · split
        · exact ih
        · exact ih
    · have:qcx N P v (k+1)=qcx N P v k:=by
        unfold qcx
        rw [List.take_of_length_le (by omega),List.take_of_length_le (by omega)]
      rw [this]
      exact loopC_fresh N P v k
theorem qck.finish {F0:Nat→Prop} {w0:World} {g0:Gh} {hd:Head} {Y:Nat} {p:PodD} {F:Nat→Prop} {bk xb:Nat} {nv:Value} {st:Rep} {oo:Option Addr} {oc:Nat} {wr w':World} (C:qck F0 w0 g0 hd Y p F bk xb nv st oo oc wr) (X:ChFix F0 w0 F bk xb) (h0:p.ok w0)
    (hk:Kept (fun b=>b=xb∨b=w0.heap.size+1) wr w') {r:Rep} {ro:Option Addr} {rc:Nat} (hr:(r=st∧ro=oo∧rc=oc)∨(r.reasons= []∧ro=none∧rc=0)): ∃ G,ChosenTo F0 w0 g0 hd Y p r ro rc F w' G:=by
  obtain ⟨G,l,hK,e1,e2,e3,e4,hS,hF,_⟩:=C.mem.known
  have hx:=X.xge
  have hnf: ∀ b,F b→ ¬ (b=xb∨b=w0.heap.size+1):=fun b hb h=>by
    have h1:=X.flt b hb
    have h2:=X.less b hb
    rcases h with h| h
    · omega
    · rcases h2 with h2| h2
      · have:=X.f0lt b h2;omega
      · omega
  refine ⟨G,hK.mem.kept hk hnf (fun _ h=>h) (fun b hb=>Nat.lt_of_lt_of_le (hK.mem.lt b hb) hk.size),X.more,fun b hb=> ?_,C.mem.kept.trans hk (fun i hi h=>by omega),e1,e2,e3,e4,hS,?_,?_,C.mem.ok.keptNew h0 hk fun b h=>by omega⟩
  · rcases X.less b hb with h| h
    · exact .inl h
    · have:=hK.mem.lt b hb
      have:=hk.size
      exact .inr ⟨by omega,by omega⟩
  · rcases hr with ⟨rfl,rfl,rfl⟩| ⟨h,rfl,rfl⟩
    · exact hk.ownsRow C.rsn fun b hb h=>by have:=C.rnew b hb;omega
    · rw [h]
      exact World.ownsRow_nil _ _ _ _
  · rcases hr with ⟨rfl,rfl,rfl⟩| ⟨h,rfl,rfl⟩
    · intro b hb
      have h1:=C.rnew b hb
      exact ⟨by omega,fun h=>by have:=X.flt b h;omega⟩
    · rw [h]
      intro b hb
      simp [Value.ownBlock] at hb
theorem choose_any {F0:Nat→Prop} {w0:World} {Y:Nat} {hd:Head} {g0:Gh} (H:BMem F0 w0 Y hd g0) (S:qbu hd g0) (p:PodD) (hok:p.ok w0) (hg:p.Good):
    Calls Tryz.prog 73 #[.pointer (some ⟨Y,0,none⟩),.agg p.cells] w0 fun e w'=> ∃ oo oc F G,e= .returned (repV (qay g0.nodes g0.pods p.val) oo oc)∧ChosenTo F0 w0 g0 hd Y p (qay g0.nodes g0.pods p.val) oo oc F w' G:=by
  obtain ⟨i0,hi,hz0,hz1,hz2⟩:=info_parts infoRS
  have hY:=H.lt Y H.fy
  obtain ⟨wL,hwL⟩: ∃ W,W=(w0.alloc (.cells p.cells 77)).alloc (.cells qcf 97):=⟨_,rfl⟩
  have hbL:Below w0.heap.size w0 wL:=by rw [hwL];exact qj (qi _ _) (qi _ _)
  have zL:wL.heap.size=w0.heap.size+2:=by rw [hwL];simp
  have boxL:wL.heap[w0.heap.size]? =some (.cells p.cells 77 (0,0)):=by
    rw [hwL,Below.heap_alloc _ _ _ (by simp)]
    exact qm _ _
  have resL:wL.heap[w0.heap.size+1]? =some (.cells qcf 97 (0,0)):=by
    have:=qm (w0.alloc (.cells p.cells 77)) (.cells qcf 97)
    rw [hwL]
    simpa using this
  have HL:=H.below hbL
  have cL:=look_any HL S.b.small S.l.views S.b.nn (by have:=S.l.vv_len H.ord;have:=S.b.nn;omega) (fun q hq=>by have h1:=(S.b.pk q hq).1;have h2:=S.b.node_len (S.b.pk q hq).2.1;unfold maxLen;omega)
  have hnb:=HL.lt g0.bv (HL.fm _ (by simp [Gh.maps]))
  have hbvL: ∃ es c,wL.heap[g0.bv]? =some (.map es c):=HL.isMap (by simp [Gh.maps])
  have hb0:g0.bv < w0.heap.size:=H.lt g0.bv (H.fm _ (by simp [Gh.maps]))
  have step1:Hid (∀ w1 VV,BMem (grow F0 wL w1) w1 Y hd { g0 with VV:=VV }→ViewsOk { g0 with VV:=VV }→(∀ k v,getL VV k=some v→(getL g0.NN k).isSome=true∨(getL g0.VV k).isSome=true)→Kept (fun b=>b=g0.bv) wL w1→
      qbu hd { g0 with VV:=VV }∧p.ok w1∧qew w1 w0.heap.size p∧w1.heap[w0.heap.size+1]? =some (.cells qcf 97 (0,0))∧Kept F0 w0 w1∧wL.heap.size≤w1.heap.size):=fun w1 VV H1 hVo hVk hk1=>by
    refine ⟨S.look hVo hVk,(hok.below hbL).keptNo hk1 (fun b o h=>by subst h;exact qhl hbvL o),?_,?_,(Kept.of_below hbL).trans hk1 (fun i _ e=>by rw [e];exact H.fm _ (by simp [Gh.maps])),hk1.size⟩
    · unfold qew
      rw [hk1.block _ (qo boxL) (by omega)]
      exact boxL
    · rw [hk1.block _ (qo resL) (by omega)]
      exact resL
  have pcs: ∀ W,qew W w0.heap.size p→W.cell? ⟨w0.heap.size,0,none⟩=some (.string p.name)∧W.cell? ⟨w0.heap.size,1,none⟩=some (.int .i64 p.n0)∧W.cell? ⟨w0.heap.size,2,none⟩=some (.int .i64 p.n1)∧W.cell? ⟨w0.heap.size,3,none⟩=some (.int .i64 p.n2)∧W.cell? ⟨w0.heap.size,4,none⟩=some (.int .i64 p.port)∧W.cell? ⟨w0.heap.size,5,none⟩=some (.slice p.labels.a p.labels.L.length p.labels.cap)∧W.cell? ⟨w0.heap.size,6,none⟩=some (.slice p.select.a p.select.L.length p.select.cap)∧W.cell? ⟨w0.heap.size,7,none⟩=some (.slice p.bears.a p.bears.L.length p.bears.cap)∧W.cell? ⟨w0.heap.size,8,none⟩=some (.slice p.near.a p.near.L.length p.near.cap)∧W.cell? ⟨w0.heap.size,9,none⟩=some (.slice p.apart.a p.apart.L.length p.apart.cap):=fun W hB=>by
    refine ⟨?_,?_,?_,?_,?_,?_,?_,?_,?_,?_⟩<;>(rw [ql hB];rfl)
  have cK: ∀ w1 VV,BMem (grow F0 wL w1) w1 Y hd { g0 with VV:=VV }→p.ok w1→_:=fun w1 VV H1 ok1=>known_any H1 p ok1 hg.fine
  unfold PodD.cells Lst.val at hwL cK ⊢
  unfold qcf at hwL
  rw [hwL] at cL
  have HH:Hid (BMem F0 w0 Y hd g0):=H
  have HS:Hid (qbu hd g0):=S
  clear H S HL hbvL boxL resL
  go_enter Tryz.func73,Tryz.ntmps73
  have hlenN: ∀ F' W G',BMem F' W Y hd G'→ ∀ ty,(Builtin.len_ #[112] ty #[.map (some G'.bn)]).run Tryz.prog W= .ok (.int .i64 G'.NN.length) W:=fun F' W G' hB ty=>by
    have:=hB.nd.len Tryz.underlying112 ty
    rwa [qw] at this
  have hnn:=HS.out.b.nn
  go_wp2_with (first
    | (go_at_call 84;refine cL.mono ?_;rintro e w1 ⟨rfl,VV,H1,hFu,hVo,hVk,hk1⟩;rw [← hwL] at H1 hk1;obtain ⟨S1,ok1,box1,res1,K1,z1⟩:=step1.out w1 VV H1 hVo hVk hk1;obtain ⟨p0,p1,p2,p3,p4,p5,p6,p7,p8,p9⟩:=pcs w1 box1;have ck:=cK w1 VV H1 ok1)
    | (go_at_call 85;refine ck.mono ?_;rintro e w2 ⟨bk,l,F,AA,rfl,T⟩;have HC:=(show Hid _ from qck.start HH.out hg zL H1 hFu S1 ok1 box1 res1 K1 z1 T);have H2:=T.at_.mem;have y2:=H2.cN;have lY2:=H2.lt Y H2.fy;have b2:=qi w2 (.cells #[.int .i64 9,.string ⟨#[]⟩,.int .i64 0,.slice none 0 0,.int .i64 0] 97);have H3:=H2.below b2;have y3:=H3.cN;have len3:=hlenN _ _ _ H3;clear T H1 hFu hVo hVk hk1 S1 ok1 box1 res1 p0 p1 p2 p3 p4 p5 p6 p7 p8 p9 ck cK)
    | (at_make;refine wpList_make_own _ rfl _ _ 86 rfl 0 88 i0 _ 2 Tryz.underlying86 hi hz0 hz1 _ _ _ g0.NN.length rfl rfl rfl (by rw [hz2];omega) (by unfold maxLen;omega) (Nat.zero_le _) ?_;intro w4 hr4 hg4;have b4:Below ((w2.alloc (.cells #[.int .i64 9,.string ⟨#[]⟩,.int .i64 0,.slice none 0 0,.int .i64 0] 97))).heap.size (w2.alloc (.cells #[.int .i64 9,.string ⟨#[]⟩,.int .i64 0,.slice none 0 0,.int .i64 0] 97)) w4:=⟨hg4.os,hg4.tape,hg4.output,hg4.size,fun i hi=>hg4.block i hi (by simp)⟩;have H4:=H3.below b4;have y4:=H4.cN;have ck:=keysN_any g0.bn w4;have cs:=sortedN_fresh H4.nd (by rw [qw];show g0.NN.length≤_;omega);rw [qw,qeq] at cs)
    | (go_at_call 79;refine ck.mono ?_;rintro e w5 ⟨rfl,rfl⟩)
    | (go_at_call 78;refine cs.mono ?_;rintro e w6 ⟨ao,cap,rfl,hrow,hnew,hb6⟩))
  obtain ⟨X,hstart⟩:=HC.out
  have hr4':w4.ownsRow 0 88 2 (.slice (some ⟨w2.heap.size+1,0,none⟩) 0 g0.NN.length) 0 []:=by simpa using hr4
  have zb4:=b4.size
  simp only [World.size_alloc] at zb4
  have C0:=hstart w6 (.slice ao g0.NN.length cap) (some ⟨w2.heap.size+1,0,none⟩) g0.NN.length ((b4.mono (by simp)).trans (hb6.mono zb4)) hrow (fun b hb=>by have:=hnew b hb;omega) ((Kept.of_below (F:=qq) hb6).ownsRow hr4' fun _ _=>id) (fun b hb=>by simp [Value.ownBlock] at hb;omega)
  have HX:Hid (ChFix F0 w0 F bk w2.heap.size):=X
  have HC0:Hid _:=C0
  obtain ⟨xb,hxb⟩: ∃ x,x=w2.heap.size:=⟨_,rfl⟩
  obtain ⟨n,hn⟩: ∃ x,x=g0.NN.length:=⟨_,rfl⟩
  clear C0 HC hstart X hr4 hr4' hg4 b4 H4 y4 ck cs hrow hnew hb6 H3 y3 len3 b2 H2 y2 hlenN hwL step1 pcs cL K1 z1 hb0 zL hbL hnb lY2 zb4
  rw [← hxb] at HX HC0 ⊢
  rw [← hn] at HC0 hnn ⊢
  have HNN:Hid (n=g0.NN.length):=hn
  clear hxb hn
  go_loopw [7,31] (fun o i wr=> ∃ (k:Nat) (oo:Option Addr) (oc:Nat),k≤n∧i= .int .i64 k∧o= .slice oo (qcx g0.nodes g0.pods p.val k).reasons.length oc∧qck F0 w0 g0 hd Y p F bk xb (.slice ao n cap) (qcx g0.nodes g0.pods p.val k) oo oc wr) (fun _ i _=>n - (intOf i).toNat)
  case atStart=>exact ⟨0,_,_,Nat.zero_le _,rfl,rfl,HC0.out⟩
  case round=>
    obtain ⟨k,oo,oc,hk,rfl,rfl,C⟩:=hrel
    have X:=HX.out
    have HC:Hid _:=C
    by_cases hlt:k < n
    · obtain ⟨G,l,hKA,e1,e2,e3,e4,hSG,hFG,hans⟩:=C.mem.known
      have hltN:k < g0.NN.length:=by rw [← HNN.out];exact hlt
      have hcN:=C.mem.names
      rw [HNN.out] at hcN
      obtain ⟨gb,rfl,hgb,hcl⟩:=own_at C.mem.names (by omega)
      have hcell:wr.cell? ⟨gb,k,none⟩=some (.string (bs g0.NN[k].1)):=by
        rw [hcl k hltN]
        simp [qa9,hltN]
      have hnd:getL g0.NN g0.NN[k].1=some g0.NN[k].2:=qac HH.out.sortN.distinct (show (g0.NN[k].1,g0.NN[k].2)∈g0.NN from List.getElem_mem hltN)
      have hnk:=HS.out.b.nk g0.NN[k] (List.getElem_mem hltN)
      have hnode:g0.nodes[k]'(by rw [len_nodes'];exact hltN)=(g0.NN[k].1,g0.NN[k].2.2):=by simp [Gh.nodes,mapV]
      have HN:Hid (qcx g0.nodes g0.pods p.val (k+1)=qev g0.nodes g0.pods p.val (qcx g0.nodes g0.pods p.val k) (g0.NN[k].1,g0.NN[k].2.2)):=by
        show _=_
        rw [loopC_succ g0.nodes g0.pods p.val (k:=k) (by rw [len_nodes'];exact hltN),hnode]
      have hrl:=loopC_len g0.nodes g0.pods p.val k
      generalize g0.NN[k]=E at *
      obtain ⟨nm,nd⟩:=E
      dsimp only at hcell hnd hnk HN
      generalize qcx g0.nodes g0.pods p.val k=st at *
      obtain ⟨a1,a2,hA⟩: ∃ a1 a2,qbk g0.nodes g0.pods nm nd.2 p.val=(a1,a2):=⟨_,_,rfl⟩
      have HA:Hid (qbk g0.nodes g0.pods nm nd.2 p.val=(a1,a2)):=hA
      have keyNm:keyOf Tryz.prog 9 (.string (bs nm))=some (.string nm):=by rw [keyS _ (by rw [qe1];unfold maxLen;omega),qga]
      have hmap:=hKA.map
      have hxr:=C.mem.xlt
      have hbs:(bs nm).size≤maxLen:=by rw [qe1];unfold maxLen;omega
      have hGn:G.nodes=g0.nodes:=by unfold Gh.nodes;rw [e1]
      have hGp:G.pods=g0.pods:=by unfold Gh.pods;rw [e2]
      have HJ:Hid (∀ W,Below wr.heap.size wr W→Calls Tryz.prog 86 #[.pointer (some ⟨Y,0,none⟩),.string (bs nm),.agg #[.string p.name,.int .i64 p.n0,.int .i64 p.n1,.int .i64 p.n2,.int .i64 p.port,.slice p.labels.a p.labels.L.length p.labels.cap,.slice p.select.a p.select.L.length p.select.cap,.slice p.bears.a p.bears.L.length p.bears.cap,.slice p.near.a p.near.L.length p.near.cap,.slice p.apart.a p.apart.L.length p.apart.cap]] W fun e w'=>e= .returned (.agg #[.int .i64 a1,.int .i64 a2])∧Below W.heap.size W w'):=fun W hW=>by
        have:=judge_any (hKA.mem.below hW) hFG hSG.b.small (bs nm) hbs nd (by rw [qga,e1];exact hnd) p (C.mem.ok.below hW) hg.need
        rw [qga,answerG_eq,hGn,hGp,hA] at this
        exact this
      have Hl:Hid (∀ a,getL l nm=some a→a=(a1,a2)):=fun a ha=>by
        obtain ⟨nd',h1,h2⟩:=hans nm a ha
        rw [hnd] at h1
        cases h1
        rw [h2,hA]
      have hnl:(getL (mapV ansV l) nm)=(getL l nm).map ansV:=qz _ _ _
      have hb1:=qi wr (.cells #[.int .i64 0,.int .i64 0] 178)
      have H1:=hKA.mem.below hb1
      clear HC0 hKA hFG hSG hans hcN hcl hnode hA e1 e2 e3 e4 hGn hGp hk C H1
      cases hln:getL l nm with
      | some a=>
        have ha:=Hl.out a hln
        subst ha
        rw [hln] at hnl
        have hnl:getL (mapV ansV l) nm=some (.agg #[.int .i64 a1,.int .i64 a2]):=hnl
        clear hln Hl HJ hb1
        have Cx:=HC.out.below X hok (qi wr (.cells #[.int .i64 a1,.int .i64 a2] 178))
        have hab:(wr.alloc (.cells #[.int .i64 a1,.int .i64 a2] 178)).heap[wr.heap.size]? =_:=qm _ _
        go_upto_if 52 with (at_lookup;refine qbw _ rfl _ _ 159 rfl 9 178 strK Tryz.underlying159 (zeroAns _) bk _ rfl hmap _ nm rfl keyNm _ hnl ?_)
        obtain ⟨w9,hw9⟩: ∃ W,W=wr.alloc (.cells #[.int .i64 a1,.int .i64 a2] 178):=⟨_,rfl⟩
        rw [← hw9] at Cx hab ⊢
        clear hw9
        have C9:=Cx
        have hab9:w9.heap[wr.heap.size]? =some (.cells #[.int .i64 a1,.int .i64 a2] 178 (0,0)):=hab
        clear Cx hab
        obtain ⟨t0,t1,t2⟩:=ansC hab9
        obtain ⟨s0,s1,s2,s3,s4,s5⟩:=bestC C9.best
        have zx:=C9.mem.xlt
        have zab:=qo hab9
        have hne: ¬ xb=wr.heap.size:=by omega
        have hne': ¬ wr.heap.size=xb:=by omega
        have HC9:Hid _:=C9
        have Hstep:Hid (qev g0.nodes g0.pods p.val st (nm,nd.2)=if a1≠0 then { st with reasons:=st.reasons++ [(nm,a1)] } else if st.err≠0∨st.score < a2 then { st with err:=0,node:=nm,score:=a2 } else st):=by
          show _=_
          unfold qev
          rw [HA.out]
        clear C9 hmap hnl keyNm hnd hbs
        by_cases hw:a1=0
        · subst hw
          by_cases he:st.err=0
          · rw [he] at s0
            by_cases hsc:st.score < a2
            · have hE:qev g0.nodes g0.pods p.val st (nm,nd.2)= { st with err:=0,node:=nm,score:=a2 }:=by rw [Hstep.out,if_neg (by simp),if_pos (.inr hsc)]
              have HF:Hid ((Value.slice oo st.reasons.length oc)= .slice oo (qcx g0.nodes g0.pods p.val (k+1)).reasons.length oc∧qck F0 w0 g0 hd Y p F bk xb (.slice (some ⟨gb,0,none⟩) n cap) (qcx g0.nodes g0.pods p.val (k+1)) oo oc (((((w9.setCell ⟨xb,0,none⟩ (.int .i64 0)).setCell ⟨xb,1,none⟩ (.string (bs nm))).setCell ⟨xb,2,none⟩ (.int .i64 a2)).setCell ⟨xb,3,none⟩ (.slice none 0 0)).setCell ⟨xb,4,none⟩ (.int .i64 0))):=⟨by rw [HN.out,hE],by rw [HN.out,hE];exact HC9.out.better X hok nm a2⟩
              clear hE
              go_wp2
              go_roundw
              all_goals first
                | (exact ⟨k+1,oo,oc,by omega,by go_num,HF.out.1,HF.out.2⟩)
                | (simp [intOf];omega)
            · have hE:qev g0.nodes g0.pods p.val st (nm,nd.2)=st:=by rw [Hstep.out,if_neg (by simp),if_neg (by simp [he,hsc])]
              have HF:Hid ((Value.slice oo st.reasons.length oc)= .slice oo (qcx g0.nodes g0.pods p.val (k+1)).reasons.length oc∧qck F0 w0 g0 hd Y p F bk xb (.slice (some ⟨gb,0,none⟩) n cap) (qcx g0.nodes g0.pods p.val (k+1)) oo oc w9):=⟨by rw [HN.out,hE],by rw [HN.out,hE];exact HC9.out⟩
              clear hE
              go_wp2
              go_roundw
              all_goals first
                | (exact ⟨k+1,oo,oc,by omega,by go_num,HF.out.1,HF.out.2⟩)
                | (simp [intOf];omega)
          · have hE:qev g0.nodes g0.pods p.val st (nm,nd.2)= { st with err:=0,node:=nm,score:=a2 }:=by rw [Hstep.out,if_neg (by simp),if_pos (.inl he)]
            have HF:Hid ((Value.slice oo st.reasons.length oc)= .slice oo (qcx g0.nodes g0.pods p.val (k+1)).reasons.length oc∧qck F0 w0 g0 hd Y p F bk xb (.slice (some ⟨gb,0,none⟩) n cap) (qcx g0.nodes g0.pods p.val (k+1)) oo oc (((((w9.setCell ⟨xb,0,none⟩ (.int .i64 0)).setCell ⟨xb,1,none⟩ (.string (bs nm))).setCell ⟨xb,2,none⟩ (.int .i64 a2)).setCell ⟨xb,3,none⟩ (.slice none 0 0)).setCell ⟨xb,4,none⟩ (.int .i64 0))):=⟨by rw [HN.out,hE],by rw [HN.out,hE];exact HC9.out.better X hok nm a2⟩
            clear hE
            go_wp2
            go_roundw
            all_goals first
              | (exact ⟨k+1,oo,oc,by omega,by go_num,HF.out.1,HF.out.2⟩)
              | (simp [intOf];omega)
        · have hE:qev g0.nodes g0.pods p.val st (nm,nd.2)= { st with reasons:=st.reasons++ [(nm,a1)] }:=by rw [Hstep.out,if_pos hw]
          have Hr5:Hid _:=(HC9.out.below X hok (qi w9 (.cells #[.string (bs nm),.int .i64 a1] 88))).rsn
          have hone: ∀ u∈ [Value.string (bs nm),.int .i64 a1],u.oneCell'=true:=fun u hu=>by simp at hu;rcases hu with rfl| rfl<;>rfl
          have HE:Hid _:=hE
          clear hE
          go_wp2_with (at_builtin;refine qy _ rfl (.tmp 53) (.tmp 58) 86 rfl 88 i0 _ 2 24 Tryz.underlying86 hi hz0 hz1 hz2 rfl (by decide) (.slice oo st.reasons.length oc) st.reasons.length _ rfl Hr5.out ⟨w9.heap.size,0,none⟩ 1 1 [.string (bs nm),.int .i64 a1] rfl rfl (pair_at w9 _ _ _) hone (by unfold maxLen;omega) (by omega) ?_;intro ao5 cap5 w5 r5 g5 f5)
          go_roundw
          all_goals first
            | (refine ⟨k+1,ao5,cap5,by omega,by go_num,?_,?_⟩
               · rw [HN.out,HE.out]
                 simp
               · rw [HN.out,HE.out]
                 exact HC9.out.reason X hok (qi w9 _) r5 g5 f5)
            | (simp [intOf];omega)
      | none=>
        rw [hln] at hnl
        have hnl:getL (mapV ansV l) nm=none:=hnl
        clear hln Hl
        have C1:=HC.out.below X hok hb1
        have hab1:(wr.alloc (.cells #[.int .i64 0,.int .i64 0] 178)).heap[wr.heap.size]? =_:=qm _ _
        have cJ:=HJ.out _ hb1
        obtain ⟨p0,p1,p2,p3,p4,p5,p6,p7,p8,p9⟩:=boxC C1.mem.box
        have HC1:Hid _:=C1
        clear C1 HJ
        go_upto_if 52 with (first
          | (at_lookup;refine qbx _ rfl _ _ 159 rfl 9 178 strK Tryz.underlying159 (zeroAns _) bk _ rfl hmap _ nm rfl keyNm hnl ?_)
          | (go_at_call 86;refine cJ.mono ?_;rintro e w7 ⟨rfl,hb7⟩;have zb7:=hb7.size;have C7:=HC1.out.below X hok hb7;have hab7:=(hb7.block wr.heap.size (by simp)).trans hab1;obtain ⟨v0,v1,v2⟩:=ansC hab7;have k8:Kept (fun b=>b=wr.heap.size) w7 ((w7.setCell ⟨wr.heap.size,0,none⟩ (.int .i64 a1)).setCell ⟨wr.heap.size,1,none⟩ (.int .i64 a2)):=(((Kept.refl (fun b=>b=wr.heap.size) w7).setCell (p:=⟨wr.heap.size,0,none⟩) (fun _=>rfl) _).setCell (p:=⟨wr.heap.size,1,none⟩) (fun _=>rfl) _);have C8:=C7.ansBlock X hok hab7 hxr k8;have hab8:((w7.setCell ⟨wr.heap.size,0,none⟩ (.int .i64 a1)).setCell ⟨wr.heap.size,1,none⟩ (.int .i64 a2)).heap[wr.heap.size]? =some (.cells #[.int .i64 a1,.int .i64 a2] 178 (0,0)):=qs (qs hab7 (i:=0) (.int .i64 a1)) (i:=1) (.int .i64 a2);obtain ⟨w9,hr9,C9,k9⟩:=C8.note X hg.fine (Nat.le_trans hnk (by unfold maxLen;omega)) hnd;rw [HA.out] at hr9;have hab9:=(k9.block wr.heap.size (qo hab8) (by have:=X.bklt;omega)).trans hab8;obtain ⟨t0,t1,t2⟩:=ansC hab9;clear C7 C8 hab7 hab8 k8 k9 hb7))
        obtain ⟨s0,s1,s2,s3,s4,s5⟩:=bestC C9.best
        have zx:=C9.mem.xlt
        have zab:=qo hab9
        have hne: ¬ xb=wr.heap.size:=by omega
        have hne': ¬ wr.heap.size=xb:=by omega
        have HC9:Hid _:=C9
        have Hstep:Hid (qev g0.nodes g0.pods p.val st (nm,nd.2)=if a1≠0 then { st with reasons:=st.reasons++ [(nm,a1)] } else if st.err≠0∨st.score < a2 then { st with err:=0,node:=nm,score:=a2 } else st):=by
          show _=_
          unfold qev
          rw [HA.out]
        clear C9 hmap hnl keyNm hnd hbs
        by_cases hw:a1=0
        · subst hw
          by_cases he:st.err=0
          · rw [he] at s0
            by_cases hsc:st.score < a2
            · have hE:qev g0.nodes g0.pods p.val st (nm,nd.2)= { st with err:=0,node:=nm,score:=a2 }:=by rw [Hstep.out,if_neg (by simp),if_pos (.inr hsc)]
              have HF:Hid ((Value.slice oo st.reasons.length oc)= .slice oo (qcx g0.nodes g0.pods p.val (k+1)).reasons.length oc∧qck F0 w0 g0 hd Y p F bk xb (.slice (some ⟨gb,0,none⟩) n cap) (qcx g0.nodes g0.pods p.val (k+1)) oo oc (((((w9.setCell ⟨xb,0,none⟩ (.int .i64 0)).setCell ⟨xb,1,none⟩ (.string (bs nm))).setCell ⟨xb,2,none⟩ (.int .i64 a2)).setCell ⟨xb,3,none⟩ (.slice none 0 0)).setCell ⟨xb,4,none⟩ (.int .i64 0))):=⟨by rw [HN.out,hE],by rw [HN.out,hE];exact HC9.out.better X hok nm a2⟩
              clear hE
              go_wp2
              go_roundw
              all_goals first
                | (exact ⟨k+1,oo,oc,by omega,by go_num,HF.out.1,HF.out.2⟩)
                | (simp [intOf];omega)
            · have hE:qev g0.nodes g0.pods p.val st (nm,nd.2)=st:=by rw [Hstep.out,if_neg (by simp),if_neg (by simp [he,hsc])]
              have HF:Hid ((Value.slice oo st.reasons.length oc)= .slice oo (qcx g0.nodes g0.pods p.val (k+1)).reasons.length oc∧qck F0 w0 g0 hd Y p F bk xb (.slice (some ⟨gb,0,none⟩) n cap) (qcx g0.nodes g0.pods p.val (k+1)) oo oc w9):=⟨by rw [HN.out,hE],by rw [HN.out,hE];exact HC9.out⟩
              clear hE
              go_wp2
              go_roundw
              all_goals first
                | (exact ⟨k+1,oo,oc,by omega,by go_num,HF.out.1,HF.out.2⟩)
                | (simp [intOf];omega)
          · have hE:qev g0.nodes g0.pods p.val st (nm,nd.2)= { st with err:=0,node:=nm,score:=a2 }:=by rw [Hstep.out,if_neg (by simp),if_pos (.inl he)]
            have HF:Hid ((Value.slice oo st.reasons.length oc)= .slice oo (qcx g0.nodes g0.pods p.val (k+1)).reasons.length oc∧qck F0 w0 g0 hd Y p F bk xb (.slice (some ⟨gb,0,none⟩) n cap) (qcx g0.nodes g0.pods p.val (k+1)) oo oc (((((w9.setCell ⟨xb,0,none⟩ (.int .i64 0)).setCell ⟨xb,1,none⟩ (.string (bs nm))).setCell ⟨xb,2,none⟩ (.int .i64 a2)).setCell ⟨xb,3,none⟩ (.slice none 0 0)).setCell ⟨xb,4,none⟩ (.int .i64 0))):=⟨by rw [HN.out,hE],by rw [HN.out,hE];exact HC9.out.better X hok nm a2⟩
            clear hE
            go_wp2
            go_roundw
            all_goals first
              | (exact ⟨k+1,oo,oc,by omega,by go_num,HF.out.1,HF.out.2⟩)
              | (simp [intOf];omega)
        · have hE:qev g0.nodes g0.pods p.val st (nm,nd.2)= { st with reasons:=st.reasons++ [(nm,a1)] }:=by rw [Hstep.out,if_pos hw]
          have Hr5:Hid _:=(HC9.out.below X hok (qi w9 (.cells #[.string (bs nm),.int .i64 a1] 88))).rsn
          have hone: ∀ u∈ [Value.string (bs nm),.int .i64 a1],u.oneCell'=true:=fun u hu=>by simp at hu;rcases hu with rfl| rfl<;>rfl
          have HE:Hid _:=hE
          clear hE
          go_wp2_with (at_builtin;refine qy _ rfl (.tmp 53) (.tmp 58) 86 rfl 88 i0 _ 2 24 Tryz.underlying86 hi hz0 hz1 hz2 rfl (by decide) (.slice oo st.reasons.length oc) st.reasons.length _ rfl Hr5.out ⟨w9.heap.size,0,none⟩ 1 1 [.string (bs nm),.int .i64 a1] rfl rfl (pair_at w9 _ _ _) hone (by unfold maxLen;omega) (by omega) ?_;intro ao5 cap5 w5 r5 g5 f5)
          go_roundw
          all_goals first
            | (refine ⟨k+1,ao5,cap5,by omega,by go_num,?_,?_⟩
               · rw [HN.out,HE.out]
                 simp
               · rw [HN.out,HE.out]
                 exact HC9.out.reason X hok (qi w9 _) r5 g5 f5)
            | (simp [intOf];omega)
    · have hkn:k=n:=by omega
      subst hkn
      have HR:Hid ((qcx g0.nodes g0.pods p.val k).done=qay g0.nodes g0.pods p.val):=by
        show _=_
        rw [HNN.out,← len_nodes']
        exact loopC_end _ _ _
      have HF0:Hid ((qcx g0.nodes g0.pods p.val k).fresh=0):=loopC_fresh _ _ _ k
      generalize qcx g0.nodes g0.pods p.val k=st at *
      obtain ⟨s0,s1,s2,s3,s4,s5⟩:=bestC C.best
      have hres:=C.mem.res
      have f0:=fun o=>qp (i:=o) hres
      have g0':wr.cell? ⟨w0.heap.size+1,0,none⟩=some (.int .i64 0):=by rw [ql hres];rfl
      have g1':wr.cell? ⟨w0.heap.size+1,1,none⟩=some (.string ⟨#[]⟩):=by rw [ql hres];rfl
      have g2':wr.cell? ⟨w0.heap.size+1,2,none⟩=some (.int .i64 0):=by rw [ql hres];rfl
      have g3':wr.cell? ⟨w0.heap.size+1,3,none⟩=some (.slice none 0 0):=by rw [ql hres];rfl
      have g4':wr.cell? ⟨w0.heap.size+1,4,none⟩=some (.int .i64 0):=by rw [ql hres];rfl
      have hxge:=X.xge
      have hne: ¬ xb=w0.heap.size+1:=by omega
      have hne': ¬ w0.heap.size+1=xb:=by omega
      have Hres:Hid _:=hres
      clear HC0 C hres
      by_cases he:st.err=0
      · rw [he] at s0
        have HE:Hid (st.err=0):=he
        clear he
        go_wp2
        have hblk:=qft Hres.out (.int .i64 0) (.string (bs st.node)) (.int .i64 st.score) (.slice none 0 0) (.int .i64 0)
        refine bodyPost_ret (v:= .agg #[.int .i64 0,.string (bs st.node),.int .i64 st.score,.slice none 0 0,.int .i64 0]) (qdq rfl rfl (run_loadVar_row _ _ _ _ _ _ _ hblk Tryz.underlying97 rfl sizeRT)) rfl ?_
        have K:=(((((Kept.refl (fun b=>b=xb∨b=w0.heap.size+1) wr).setCell (p:=⟨w0.heap.size+1,0,none⟩) (fun _=> .inr rfl) (.int .i64 0)).setCell (p:=⟨w0.heap.size+1,1,none⟩) (fun _=> .inr rfl) (.string (bs st.node))).setCell (p:=⟨w0.heap.size+1,2,none⟩) (fun _=> .inr rfl) (.int .i64 st.score)).setCell (p:=⟨w0.heap.size+1,3,none⟩) (fun _=> .inr rfl) (.slice none 0 0)).setCell (p:=⟨w0.heap.size+1,4,none⟩) (fun _=> .inr rfl) (.int .i64 0)
        have hD:qay g0.nodes g0.pods p.val= { st with reasons:= [] }:=by
          rw [← HR.out]
          unfold Rep.done
          rw [if_neg (by simp [HE.out])]
        obtain ⟨G,hG⟩:=HC.out.finish X hok K (r:= { st with reasons:= [] }) (.inr ⟨rfl,rfl,rfl⟩)
        refine ⟨none,0,F,G,?_,by rw [hD];exact hG⟩
        rw [hD]
        show Ending.returned _=Ending.returned (.agg #[.int .i64 st.err,.string (bs st.node),.int .i64 st.score,.slice none 0 0,.int .i64 st.fresh])
        rw [HE.out,HF0.out]
      · have HE:Hid (¬ st.err=0):=he
        go_wp2
        have hblk:=qft ((qbt (i:=3) hne' (.slice oo st.reasons.length oc)).trans Hres.out) (.int .i64 st.err) (.string (bs st.node)) (.int .i64 st.score) (.slice oo st.reasons.length oc) (.int .i64 0)
        refine bodyPost_ret (v:= .agg #[.int .i64 st.err,.string (bs st.node),.int .i64 st.score,.slice oo st.reasons.length oc,.int .i64 0]) (qdq rfl rfl (run_loadVar_row _ _ _ _ _ _ _ hblk Tryz.underlying97 rfl sizeRT)) rfl ?_
        have K:=((((((Kept.refl (fun b=>b=xb∨b=w0.heap.size+1) wr).setCell (p:=⟨xb,3,none⟩) (fun _=> .inl rfl) (.slice oo st.reasons.length oc)).setCell (p:=⟨w0.heap.size+1,0,none⟩) (fun _=> .inr rfl) (.int .i64 st.err)).setCell (p:=⟨w0.heap.size+1,1,none⟩) (fun _=> .inr rfl) (.string (bs st.node))).setCell (p:=⟨w0.heap.size+1,2,none⟩) (fun _=> .inr rfl) (.int .i64 st.score)).setCell (p:=⟨w0.heap.size+1,3,none⟩) (fun _=> .inr rfl) (.slice oo st.reasons.length oc)).setCell (p:=⟨w0.heap.size+1,4,none⟩) (fun _=> .inr rfl) (.int .i64 0)
        have hD:qay g0.nodes g0.pods p.val=st:=by
          rw [← HR.out]
          unfold Rep.done
          rw [if_pos HE.out]
        obtain ⟨G,hG⟩:=HC.out.finish X hok K (r:=st) (.inl ⟨rfl,rfl,rfl⟩)
        refine ⟨oo,oc,F,G,?_,by rw [hD];exact hG⟩
        rw [hD]
        show Ending.returned _=Ending.returned (.agg #[.int .i64 st.err,.string (bs st.node),.int .i64 st.score,.slice oo st.reasons.length oc,.int .i64 st.fresh])
        rw [HF0.out]
end
end Go.Proofs.YtchddaafibjmgaaGreat
