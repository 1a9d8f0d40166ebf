import Derived.Test.YtchddaafibjmgaaGreatMA17
set_option maxRecDepth 100000
set_option maxHeartbeats 20000000
namespace Go.Proofs.YtchddaafibjmgaaGreat
section
open Go.RowKit Go.Maps
structure Abs where
  hold:Int
  now:Int
  N:List (qn×qbb)
  P:List (qn×qag)
  F:List (qn×Unit)
  W:List (ByteArray×PodV)
def qcc (hd:Head) (g:Gh):Abs:=⟨hd.hold,hd.now,g.nodes,g.pods,g.FF,g.WW.map fun p=>(p.name,p.val)⟩
def goodP (s:ByteArray) (v:PodV):Bool:=qdl s&&qef v.n0 v.n1 v.n2&&decide (0≤v.port)&&decide (v.port≤65535)&&v.lists.all fun L=>qbz L
def errP (s:ByteArray) (v:PodV):Int:=if goodP s v then 0 else 3
def goodN (s:ByteArray) (n:qbb):Bool:=qdl s&&qef n.r0 n.r1 n.r2&& [n.labels,n.taints].all fun L=>qbz L
def errN (s:ByteArray) (n:qbb):Int:=if goodN s n then 0 else 2
theorem err_val (p:PodD):p.err=errP p.name p.val:=rfl
theorem nerr_val (n:qu):n.err=errN n.name n.val:=rfl
def Abs.admits (a:Abs) (k:qn):Int:=if (getL a.P k).isSome then 5 else if 128≤a.P.length then 6 else 0
def PodV.lies (v:PodV) (node:qn) (bound:Bool) (since:Int):qag:=⟨v.n0,v.n1,v.n2,v.port,v.labels,v.apart,node,bound,since⟩
def Abs.putErr (a:Abs) (s:ByteArray) (n:qbb):Int:=if errN s n≠0 then errN s n else if (getL a.N (ky s)).isNone∧32≤a.N.length then 6 else 0
def Abs.put (a:Abs) (s:ByteArray) (n:qbb):Abs:=if a.putErr s n=0 then { a with N:=putL a.N (ky s) n,F:=putL a.F (ky s) () } else a
def Abs.dropNErr (a:Abs) (k:qn):Int:=if (getL a.N k).isSome then 0 else 4
def Abs.dropN (a:Abs) (k:qn):Abs:=if (getL a.N k).isSome then { a with N:=delL a.N k,P:=a.P.filter fun p=> !(p.2.node==k),F:=delL a.F k } else a
def Abs.bindErr (a:Abs) (s:ByteArray) (v:PodV) (node:qn):Int:=if errP s v≠0 then errP s v else if (getL a.N node).isNone then 4 else a.admits (ky s)
def Abs.lay (a:Abs) (k:qn) (x:qag):Abs:= { a with P:=putL a.P k x,F:=putL a.F x.node () }
def Abs.bind (a:Abs) (s:ByteArray) (v:PodV) (node:qn):Abs:=if a.bindErr s v node=0 then a.lay (ky s) (v.lies node true 0) else a
def Abs.dropErr (a:Abs) (k:qn):Int:=if (getL a.P k).isSome then 0 else 4
def Abs.drop (a:Abs) (k:qn):Abs:=match getL a.P k with
  | some x=> { a with P:=delL a.P k,F:=putL a.F x.node () }
  | none=>a
def Abs.confirmErr (a:Abs) (k:qn):Int:=match getL a.P k with
  | some x=>if x.bound then 7 else 0
  | none=>4
def Abs.confirm (a:Abs) (k:qn):Abs:= { a with P:=a.P.map fun p=>(p.1,if p.1==k then { p.2 with bound:=true } else p.2) }
def dueA (hold now:Int) (x:qag):Bool:= !x.bound&&decide (hold≤now - x.since)
def Abs.tickErr (a:Abs) (n:Int):Int:=if n < 0∨100000 < n∨1099511627776 - a.now < n then 8 else 0
def freshen (F:List (qn×Unit)) (l:List (qn×qag)):List (qn×Unit):=l.foldl (fun F p=>putL F p.2.node ()) F
def Abs.tick (a:Abs) (n:Int):Abs:=if a.tickErr n=0 then { a with now:=a.now+n,P:=a.P.filter fun p=> !dueA a.hold (a.now+n) p.2,F:=freshen a.F (a.P.filter fun p=>dueA a.hold (a.now+n) p.2) } else a
def Abs.schedErr (a:Abs) (s:ByteArray) (v:PodV):Int:=if errP s v≠0 then errP s v else a.admits (ky s)
def Abs.sched (a:Abs) (s:ByteArray) (v:PodV):Rep×Abs:=
  if a.schedErr s v≠0 then (⟨a.schedErr s v,[],0,[],0⟩,a)
  else
    let r:=qay a.N a.P v
    ({ r with fresh:=a.F.length },if r.err=0 then ({ a with F:= [] }:Abs).lay (ky s) (v.lies r.node false a.now) else { a with F:= [] })
def Abs.queueErr (a:Abs) (s:ByteArray) (v:PodV):Int:=if errP s v≠0 then errP s v else if 128≤a.W.length then 6 else 0
def Abs.queue (a:Abs) (s:ByteArray) (v:PodV):Abs:=if a.queueErr s v=0 then { a with W:=a.W++ [(s,v)] } else a
def Abs.drain (a:Abs):Nat→List Rep×Abs
  | 0=>([],a)
  | n+1=>match a.W with
    | []=>([],a)
    | p::r=>((({ a with W:=r }:Abs).sched p.1 p.2).1::((({ a with W:=r }:Abs).sched p.1 p.2).2.drain n).1,((({ a with W:=r }:Abs).sched p.1 p.2).2.drain n).2)
def BSt (F:Nat→Prop) (w:World) (Y:Nat) (a:Abs):Prop:= ∃ hd g,BMem F w Y hd g∧qbu hd g∧qcc hd g=a
structure Left (F:Nat→Prop) (w:World) (Y:Nat) (a:Abs) (F':Nat→Prop) (w':World):Prop where
  st:BSt F' w' Y a
  less: ∀ b,F' b→grow F w w' b
  kept:Kept F w w'
theorem BSt.lt {F:Nat→Prop} {w:World} {Y:Nat} {a:Abs} (h:BSt F w Y a): ∀ b,F b→b < w.heap.size:=by
  obtain ⟨hd,g,H,_⟩:=h
  exact H.lt
theorem BSt.fy {F:Nat→Prop} {w:World} {Y:Nat} {a:Abs} (h:BSt F w Y a):F Y:=by
  obtain ⟨hd,g,H,_⟩:=h
  exact H.fy
theorem BSt.kept {F G:Nat→Prop} {w w':World} {Y:Nat} {a:Abs} (h:BSt F w Y a) (hk:Kept G w w') (hG: ∀ b,F b→ ¬ G b):BSt F w' Y a:=by
  obtain ⟨hd,g,H,S,e⟩:=h
  exact ⟨hd,g,H.kept hk hG (fun _ h=>h) (fun b hb=>Nat.lt_of_lt_of_le (H.lt b hb) hk.size),S,e⟩
theorem BSt.below {F:Nat→Prop} {w w':World} {Y:Nat} {a:Abs} (h:BSt F w Y a) (hb:Below w.heap.size w w'):BSt F w' Y a:=h.kept (Kept.of_below (F:=qq) hb) fun _ _=>id
theorem qg5 {F:Nat→Prop} {w w':World}: ∀ b,F b→grow F w w' b:=fun _ h=> .inl h
theorem Left.of_below {F:Nat→Prop} {w w':World} {Y:Nat} {a:Abs} (h:BSt F w Y a) (hb:Below w.heap.size w w'):Left F w Y a F w':=⟨h.below hb,qg5,Kept.of_below hb⟩
theorem Left.before {F F':Nat→Prop} {w0 w w':World} {Y:Nat} {a:Abs} (h:Left F w Y a F' w') (hb:Below w0.heap.size w0 w):Left F w0 Y a F' w':=by
  refine ⟨h.st,fun b hb'=>(h.less b hb').imp id fun g=>⟨Nat.le_trans hb.size g.1,g.2⟩,(Kept.of_below hb).trans h.kept fun _ _ h=>h⟩
theorem Left.behind {F F':Nat→Prop} {w w1 w':World} {Y:Nat} {a:Abs} (h:Left F w Y a F' w1) (hb:Below w1.heap.size w1 w'):Left F w Y a F' w':=by
  refine ⟨h.st.below hb,fun b hb'=>(h.less b hb').imp id fun g=>⟨g.1,Nat.lt_of_lt_of_le g.2 hb.size⟩,h.kept.trans (Kept.of_below (F:=qq) hb) fun _ _ h=>h.elim⟩
theorem Left.then {F F1 F2:Nat→Prop} {w w1 w2:World} {Y:Nat} {a1 a2:Abs} (h1:Left F w Y a1 F1 w1) (h2:Left F1 w1 Y a2 F2 w2):Left F w Y a2 F2 w2:=by
  refine ⟨h2.st,fun b hb=> ?_,h1.kept.trans h2.kept fun i hi hf=> ?_⟩
  · rcases h2.less b hb with h| h
    · exact (h1.less b h).imp id fun g=>⟨g.1,Nat.lt_of_lt_of_le g.2 h2.kept.size⟩
    · exact .inr ⟨Nat.le_trans h1.kept.size h.1,h.2⟩
  · rcases h1.less i hf with h| h
    · exact h
    · omega
structure Abs.Fine (a:Abs):Prop where
  sn:qad a.N
  sp:qad a.P
  sf:qad a.F
  nn:a.N.length≤32
  np:a.P.length≤128
  nw:a.W.length≤128
  nk: ∀ p∈a.N,p.1.length≤20
  room: ∀ p∈a.N,∀ y∈ [p.2.r0,p.2.r1,p.2.r2],0≤y∧y≤1099511627776
  pk: ∀ p∈a.P,p.1.length≤20∧(getL a.N p.2.node).isSome=true∧0≤p.2.since∧p.2.since≤a.now
  need: ∀ p∈a.P,∀ y∈ [p.2.n0,p.2.n1,p.2.n2],0≤y∧y≤1099511627776
  fk: ∀ p∈a.F,(getL a.N p.1).isSome=true
  hold:1≤a.hold∧a.hold≤1000
  now:0≤a.now∧a.now≤1099511627776
theorem getL_pods (g:Gh) (j:qn):getL g.pods j=(getL g.PP j).map (·.2):=by unfold Gh.pods;rw [qz]
theorem isSome_nodes (g:Gh) (j:qn):(getL g.nodes j).isSome=(getL g.NN j).isSome:=by rw [qez];cases getL g.NN j<;>rfl
theorem isSome_pods (g:Gh) (j:qn):(getL g.pods j).isSome=(getL g.PP j).isSome:=by rw [getL_pods];cases getL g.PP j<;>rfl
theorem len_nodes (g:Gh):g.nodes.length=g.NN.length:=by unfold Gh.nodes;rw [qw]
theorem len_pods (g:Gh):g.pods.length=g.PP.length:=by unfold Gh.pods;rw [qw]
theorem BMem.fineA {F:Nat→Prop} {w:World} {Y:Nat} {hd:Head} {g:Gh} (H:BMem F w Y hd g) (S:qbu hd g):(qcc hd g).Fine:=by
  have o:=H.ord
  refine ⟨qbq.2 o.n,qbq.2 o.p,o.f,by show g.nodes.length≤32;rw [len_nodes];exact S.b.nn,by show g.pods.length≤128;rw [len_pods];exact S.b.small.pods,?_,fun p hp=> ?_,fun p hp=> ?_,fun p hp=> ?_,fun p hp=> ?_,fun p hp=> ?_,S.b.hold,S.b.now⟩
  · show (g.WW.map _).length≤128
    rw [List.length_map]
    exact H.ch.le
  · obtain ⟨q,hq,rfl⟩:=qer.1 hp
    exact S.b.nk q hq
  · obtain ⟨q,hq,rfl⟩:=qer.1 hp
    exact S.b.small.room q hq
  · obtain ⟨q,hq,rfl⟩:=qer.1 hp
    have:=S.b.pk q hq
    show _∧(getL g.nodes _).isSome=true∧_
    rw [isSome_nodes]
    exact this
  · obtain ⟨q,hq,rfl⟩:=qer.1 hp
    exact S.b.small.need q hq
  · show (getL g.nodes _).isSome=true
    rw [isSome_nodes]
    exact S.b.fk p hp
theorem BSt.fine {F:Nat→Prop} {w:World} {Y:Nat} {a:Abs} (h:BSt F w Y a):a.Fine:=by
  obtain ⟨hd,g,H,S,rfl⟩:=h
  exact H.fineA S
section
variable {hd:Head} {g:Gh}
theorem abs_changed (k:qn):qcc hd (g.changed k)= { qcc hd g with F:=putL g.FF k () }:=rfl
theorem pods_lay (k:qn) (q:Nat) (x:qag):(g.layRaw k q x).pods=putL g.pods k x:=by
  unfold Gh.pods Gh.layRaw
  exact (qds (fun y:Nat×qag=>y.2) g.PP k (q,x)).symm
theorem abs_lay (k:qn) (q:Nat) (x:qag):qcc hd ((g.layRaw k q x).changed x.node)=(qcc hd g).lay k x:=by
  unfold Abs.lay
  rw [abs_changed]
  show Abs.mk _ _ _ (g.layRaw k q x).pods _ _=_
  rw [pods_lay]
  rfl
theorem abs_put (k:qn) (v:Value) (n:qbb):qcc hd (((g.forget k).putRaw k v n).changed k)= { qcc hd g with N:=putL g.nodes k n,F:=putL g.FF k () }:=by
  rw [abs_changed]
  show Abs.mk _ _ ((g.forget k).putRaw k v n).nodes _ _ _=_
  have e:((g.forget k).putRaw k v n).nodes=putL g.nodes k n:=(qds (fun y:Value×qbb=>y.2) g.NN k (v,n)).symm
  rw [e]
  rfl
theorem abs_unlay (k:qn) {x:Nat×qag}:qcc hd ((g.unlay k).changed x.2.node)= { qcc hd g with P:=delL g.pods k,F:=putL g.FF x.2.node () }:=by
  rw [abs_changed]
  show Abs.mk _ _ _ (g.unlay k).pods _ _=_
  have e:(g.unlay k).pods=delL g.pods k:=(qeu (fun y:Nat×qag=>y.2) g.PP k).symm
  rw [e]
  rfl
theorem abs_confirm (k:qn):qcc hd (g.confirm k)=(qcc hd g).confirm k:=by
  unfold Abs.confirm
  show Abs.mk _ _ _ (g.confirm k).pods _ _=Abs.mk _ _ _ (g.pods.map _) _ _
  have e:(g.confirm k).pods=g.pods.map fun p=>(p.1,if p.1==k then { p.2 with bound:=true } else p.2):=by
    unfold Gh.pods Gh.confirm mapV
    rw [List.map_map,List.map_map]
    rfl
  rw [e]
  rfl
theorem abs_dropN (k:qn):qcc hd (g.dropN k)= { qcc hd g with N:=delL g.nodes k,P:=g.pods.filter fun p=> !(p.2.node==k),F:=delL g.FF k }:=by
  show Abs.mk _ _ (mapV (·.2) (delL g.NN k)) (mapV (·.2) (g.PP.filter fun p=> !(p.2.2.node==k))) _ _=_
  rw [← qeu (fun y:Value×qbb=>y.2) g.NN k]
  have e:mapV (·.2) (g.PP.filter fun p=> !(p.2.2.node==k))=g.pods.filter fun p=> !(p.2.node==k):=by
    unfold Gh.pods mapV
    rw [List.filter_map]
    rfl
  rw [e]
  rfl
end
theorem getL_freshen (l:List (qn×qag)): ∀ (F:List (qn×Unit)) (j:qn),getL (freshen F l) j=if l.any (fun p=>p.2.node==j) then some () else getL F j:=by
  induction l with
  | nil=>intro F j;rfl
  | cons p r ih=>
    intro F j
    show getL (freshen (putL F p.2.node ()) r) j=_
    rw [ih]
    by_cases e:p.2.node=j
    · subst e
      rw [qap]
      simp
    · have e':(p.2.node==j)=false:=by simpa using e
      rw [qaj _ _ (Ne.symm e),List.any_cons,e',Bool.false_or]
theorem sorted_freshen (l:List (qn×qag)): ∀ {F:List (qn×Unit)},qad F→qad (freshen F l):=by
  induction l with
  | nil=>intro F h;exact h
  | cons p r ih=>intro F h;exact ih (qcn h _ _)
open Classical in
structure Lifted (hd:Head) (g g':Gh):Prop where
  nn:g'.NN=g.NN
  ww:g'.WW=g.WW
  pp: ∀ k,getL g'.PP k=getL g.PP k∨(getL g'.PP k=none∧ ∃ x,getL g.PP k=some x∧due hd x.2=true)
  ff: ∀ j,getL g'.FF j=if (∃ k x,getL g.PP k=some x∧getL g'.PP k=none∧x.2.node=j) then some () else getL g.FF j
  o:Ord g'
open Classical in
theorem Lifts.lifted {hd:Head} {g g':Gh} (h:Lifts hd g g') (o:Ord g):Lifted hd g g':=by
  refine h (fun g'=>Lifted hd g g') ?_ ?_
  · refine ⟨rfl,rfl,fun k=> .inl rfl,fun j=> ?_,o⟩
    rw [if_neg]
    rintro ⟨k,x,h1,h2,_⟩
    rw [h1] at h2
    cases h2
  · intro g1 k x ih hx hdue
    have hk0:getL g.PP k=some x:=by
      rcases ih.pp k with h| ⟨h,_⟩
      · rw [← h];exact hx
      · rw [hx] at h;cases h
    have hP: ∀ j,getL ((g1.unlay k).changed x.2.node).PP j=if j=k then none else getL g1.PP j:=fun j=>by
      show getL (delL g1.PP k) j=_
      by_cases e:j=k
      · subst e;rw [qdk,if_pos rfl]
      · rw [qb0 _ e,if_neg e]
    refine ⟨ih.nn,ih.ww,fun j=> ?_,fun j=> ?_,(ih.o.unlay k).changed _⟩
    · rw [hP]
      by_cases e:j=k
      · subst e
        rw [if_pos rfl]
        exact .inr ⟨rfl,x,hk0,hdue⟩
      · rw [if_neg e]
        exact ih.pp j
    · show getL (putL g1.FF x.2.node ()) j=_
      by_cases e:j=x.2.node
      · subst e
        rw [qap,if_pos ⟨k,x,hk0,by rw [hP,if_pos rfl],rfl⟩]
      · rw [qaj _ _ e,ih.ff]
        by_cases h1: ∃ k x,getL g.PP k=some x∧getL g1.PP k=none∧x.2.node=j
        · rw [if_pos h1]
          obtain ⟨k',x',q1,q2,q3⟩:=h1
          rw [if_pos ⟨k',x',q1,by rw [hP];split;rfl;exact q2,q3⟩]
        · rw [if_neg h1,if_neg]
          rintro ⟨k',x',q1,q2,q3⟩
          rw [hP] at q2
          by_cases e':k'=k
          · subst e'
            rw [hk0] at q1
            cases q1
            exact e q3.symm
          · rw [if_neg e'] at q2
            exact h1 ⟨k',x',q1,q2,q3⟩
theorem getL_filter {α:Type} {f:qn×α→Bool} {L:List (qn×α)} (hs:L.Pairwise fun p q=>p.1≠q.1) (k:qn):getL (L.filter f) k=(getL L k).bind fun v=>if f (k,v) then some v else none:=by
  induction L with
  | nil=>rfl
  | cons p r ih=>
    rw [List.pairwise_cons] at hs
    have ih:=ih hs.2
    by_cases e:p.1=k
    · subst e
      have h0:getL r p.1=none:=qec.2 fun q hq e=>hs.1 q hq e.symm
      have h1:getL (p::r) p.1=some p.2:=by unfold getL;simp
      rw [h1]
      show _=if f (p.1,p.2) then some p.2 else none
      by_cases hf:f p=true
      · rw [List.filter_cons,if_pos hf]
        have:f (p.1,p.2)=true:=hf
        rw [if_pos this]
        unfold getL
        simp
      · rw [List.filter_cons,if_neg hf,ih,h0]
        have: ¬ f (p.1,p.2)=true:=hf
        rw [if_neg this]
        rfl
    · have e': ¬ (p.1==k)=true:=by simpa using e
      have h2:getL (p::r) k=getL r k:=by conv=>lhs;unfold getL;rw [if_neg e']
      rw [h2,← ih,List.filter_cons]
      split
      · conv=>lhs;unfold getL
        rw [if_neg e']
      · rfl
theorem abs_tick {hd hd':Head} {g g':Gh} (o:Ord g) {n:Int} (h:g.TickTo hd n hd' g'):qcc hd' g'=(qcc hd g).tick n:=by
  classical
  rcases h with ⟨h1,rfl,rfl⟩| ⟨h1,rfl,h2,h3⟩
  · unfold Abs.tick
    rw [if_neg (show ¬ (qcc hd' g').tickErr n=0 from h1)]
  · have L:=h2.lifted o
    unfold Abs.tick
    rw [if_pos (show (qcc hd g).tickErr n=0 from h1)]
    have eP:g'.pods=g.pods.filter fun p=> !dueA hd.hold (hd.now+n) p.2:=by
      refine qex (qbq.2 L.o.p) ((qbq.2 o.p).filter _) fun k=> ?_
      have hpd:g.pods.Pairwise fun p q=>p.1≠q.1:=(show qad g.pods from qbq.2 o.p).distinct
      rw [getL_filter hpd,getL_pods,getL_pods]
      rcases L.pp k with h| ⟨h,x,hx,hd'⟩
      · rw [h]
        cases e:getL g.PP k with
        | none=>rfl
        | some x=>
          have h4:=h3 (k,x) (qar (by rw [h];exact e))
          show some x.2=if (!dueA hd.hold (hd.now+n) x.2)=true then some x.2 else none
          have h5:dueA hd.hold (hd.now+n) x.2=false:=h4
          rw [h5]
          rfl
      · rw [h,hx]
        show none=if (!dueA hd.hold (hd.now+n) x.2)=true then some x.2 else none
        have h5:dueA hd.hold (hd.now+n) x.2=true:=hd'
        rw [h5]
        rfl
    have eF:g'.FF=freshen g.FF (g.pods.filter fun p=>dueA hd.hold (hd.now+n) p.2):=by
      refine qex L.o.f (sorted_freshen _ o.f) fun j=> ?_
      rw [L.ff,getL_freshen]
      by_cases h: ∃ k x,getL g.PP k=some x∧getL g'.PP k=none∧x.2.node=j
      · rw [if_pos h]
        obtain ⟨k,x,q1,q2,q3⟩:=h
        rw [if_pos]
        rw [List.any_eq_true]
        refine ⟨(k,x.2),List.mem_filter.2 ⟨qer.2 ⟨(k,x),qar q1,rfl⟩,?_⟩,by simpa using q3⟩
        rcases L.pp k with h| ⟨_,y,hy,hd'⟩
        · rw [h,q1] at q2;cases q2
        · rw [q1] at hy;cases hy;exact hd'
      · rw [if_neg h,if_neg]
        intro h4
        rw [List.any_eq_true] at h4
        obtain ⟨p,hp,e⟩:=h4
        obtain ⟨hp1,hp2⟩:=List.mem_filter.1 hp
        obtain ⟨q,hq,rfl⟩:=qer.1 hp1
        have hq':=qac o.p.distinct hq
        apply h
        refine ⟨q.1,q.2,hq',?_,by simpa using e⟩
        rcases L.pp q.1 with h| ⟨h,_⟩
        · have h4:=h3 q (qar (by rw [h];exact hq'))
          have h5:dueA hd.hold (hd.now+n) q.2.2=false:=h4
          have h6:dueA hd.hold (hd.now+n) q.2.2=true:=hp2
          rw [h5] at h6
          cases h6
        · exact h
    have eN:g'.nodes=g.nodes:=by unfold Gh.nodes;rw [L.nn]
    show Abs.mk hd.hold (hd.now+n) g'.nodes g'.pods g'.FF (g'.WW.map _)=_
    rw [eN,eP,eF,L.ww]
    rfl
end
section
open Go.RowKit Go.Maps
def ChInv (N:List (qn×qbb)) (P:List (qn×qag)) (v:PodV) (st:Rep):Prop:=
  (st.err=9∧st.node= []∧st.score=0)∨(st.err=0∧ ∃ p∈N,p.1=st.node∧qbk N P p.1 p.2 v=(0,st.score))
theorem answer_pair (N:List (qn×qbb)) (P:List (qn×qag)) (k:qn) (n:qbb) (v:PodV) {s:Int} (h:(qbk N P k n v).1=0) (h2:(qbk N P k n v).2=s):qbk N P k n v=(0,s):=Prod.ext h h2
theorem foldl_ChInv (N:List (qn×qbb)) (P:List (qn×qag)) (v:PodV): ∀ (l:List (qn×qbb)),(∀ p∈l,p∈N)→ ∀ st,ChInv N P v st→ChInv N P v (l.foldl (qev N P v) st)
  | [],_,st,h=>h
  | p::r,hl,st,h=>by
    refine foldl_ChInv N P v r (fun q hq=>hl q (List.mem_cons_of_mem _ hq)) _ ?_
    unfold qev
    split
    · exact h
    · rename_i h0
      split
      · exact .inr ⟨rfl,p,hl p List.mem_cons_self,rfl,answer_pair _ _ _ _ _ (by simpa using h0) rfl⟩
      · exact h
theorem chooseA_inv (N:List (qn×qbb)) (P:List (qn×qag)) (v:PodV):ChInv N P v (qay N P v):=by
  have h:=foldl_ChInv N P v N (fun _ h=>h) rep0 (.inl ⟨rfl,rfl,rfl⟩)
  unfold qay Rep.done
  split
  · exact h
  · exact h
theorem chooseA_ok {N:List (qn×qbb)} {P:List (qn×qag)} {v:PodV} (h:(qay N P v).err=0): ∃ p∈N,p.1=(qay N P v).node∧qbk N P p.1 p.2 v=(0,(qay N P v).score):=by
  rcases chooseA_inv N P v with ⟨h1,_⟩| ⟨_,h2⟩
  · rw [h] at h1;cases h1
  · exact h2
theorem chooseA_fresh (N:List (qn×qbb)) (P:List (qn×qag)) (v:PodV):(qay N P v).fresh=0:=by
  have h: ∀ (l:List (qn×qbb)) st,st.fresh=0→(l.foldl (qev N P v) st).fresh=0:=by
    intro l
    induction l with
    | nil=>intro st h;exact h
    | cons p r ih=>
      intro st h
      refine ih _ ?_
      unfold qev
      split
      · exact h
      · split<;>exact h
  unfold qay Rep.done
  split<;>exact h N rep0 rfl
end
section
open Go.RowKit Go.Maps
def repE (e:Int):Rep:=⟨e,[],0,[],0⟩
section
variable {F0:Nat→Prop} {w0:World} {Y:Nat} {hd:Head} {g0:Gh}
theorem sched_bad (p:PodD) (hok:p.ok w0) (h0:p.err≠0):
    Calls Tryz.prog 53 #[.pointer (some ⟨Y,0,none⟩),.agg p.cells] w0 fun e w'=>e= .returned (repV (repE p.err) none 0)∧Below w0.heap.size w0 w':=by
  obtain ⟨wL,hwL⟩: ∃ W,W=(w0.alloc (.cells p.cells 77)).alloc (.cells qcf 97):=⟨_,rfl⟩
  have hbL:Below w0.heap.size w0 wL:=by rw [hwL];exact qj (qi _ _) (qi _ _)
  have zL:wL.heap.size=w0.heap.size+2:=by rw [hwL];simp
  have resL:wL.heap[w0.heap.size+1]? =some (.cells qcf 97 (0,0)):=by
    have:=qm (w0.alloc (.cells p.cells 77)) (.cells qcf 97)
    rw [hwL]
    simpa using this
  have c1:=qee p wL (hok.below hbL)
  have h0':(p.err==0)=false:=by simpa using h0
  have h0'':(p.err != 0)=true:=by simpa using h0
  have HE:Hid (p.err≠0):=h0
  clear h0
  unfold PodD.cells Lst.val at c1 hwL ⊢
  unfold qcf at hwL
  rw [hwL] at c1
  go_enter Tryz.func53,Tryz.ntmps53
  go_wp2_with (go_at_call 47;refine c1.mono ?_;rintro e w1 ⟨rfl,hb1⟩;rw [← hwL] at hb1;have res1:=(hb1.block _ (by omega)).trans resL;have f1:=fun o=>qp (i:=o) res1;have q0:w1.cell? ⟨w0.heap.size+1,0,none⟩=some (.int .i64 0):=(by rw [ql res1];rfl);have q1:w1.cell? ⟨w0.heap.size+1,1,none⟩=some (.string ⟨#[]⟩):=(by rw [ql res1];rfl);have q2:w1.cell? ⟨w0.heap.size+1,2,none⟩=some (.int .i64 0):=(by rw [ql res1];rfl);have q3:w1.cell? ⟨w0.heap.size+1,3,none⟩=some (.slice none 0 0):=(by rw [ql res1];rfl);have q4:w1.cell? ⟨w0.heap.size+1,4,none⟩=some (.int .i64 0):=(by rw [ql res1];rfl))
  have hblk:=qft res1 (.int .i64 p.err) (.string ⟨#[]⟩) (.int .i64 0) (.slice none 0 0) (.int .i64 0)
  refine bodyPost_ret (v:= .agg #[.int .i64 p.err,.string ⟨#[]⟩,.int .i64 0,.slice none 0 0,.int .i64 0]) (qdq rfl rfl (run_loadVar_row _ _ _ _ _ _ _ hblk Tryz.underlying97 rfl sizeRT)) rfl ?_
  refine ⟨rfl,(qj hbL hb1).trans ?_⟩
  exact ((((((Kept.refl (fun b=>b=w0.heap.size+1) w1).setCell (p:=⟨w0.heap.size+1,0,none⟩) (fun _=>rfl) _).setCell (p:=⟨w0.heap.size+1,1,none⟩) (fun _=>rfl) _).setCell (p:=⟨w0.heap.size+1,2,none⟩) (fun _=>rfl) _).setCell (p:=⟨w0.heap.size+1,3,none⟩) (fun _=>rfl) _).setCell (p:=⟨w0.heap.size+1,4,none⟩) (fun _=>rfl) _).below (by have:=hb1.size;omega) fun i hi e=>by omega
theorem sched_adm (H:BMem F0 w0 Y hd g0) (p:PodD) (hok:p.ok w0) (h0:p.err=0) (h1:g0.admits (ky p.name)≠0):
    Calls Tryz.prog 53 #[.pointer (some ⟨Y,0,none⟩),.agg p.cells] w0 fun e w'=>e= .returned (repV (repE (g0.admits (ky p.name))) none 0)∧Below w0.heap.size w0 w':=by
  obtain ⟨wL,hwL⟩: ∃ W,W=(w0.alloc (.cells p.cells 77)).alloc (.cells qcf 97):=⟨_,rfl⟩
  have hbL:Below w0.heap.size w0 wL:=by rw [hwL];exact qj (qi _ _) (qi _ _)
  have zL:wL.heap.size=w0.heap.size+2:=by rw [hwL];simp
  have resL:wL.heap[w0.heap.size+1]? =some (.cells qcf 97 (0,0)):=by
    have:=qm (w0.alloc (.cells p.cells 77)) (.cells qcf 97)
    rw [hwL]
    simpa using this
  have boxL:qew wL w0.heap.size p:=by
    unfold qew
    rw [hwL,Below.heap_alloc _ _ _ (by simp)]
    exact qm _ _
  have hgd:=PodD.good_Good (PodD.err_good.1 h0)
  have hnm:p.name.size≤maxLen:=by have:=hgd.name;unfold maxLen;omega
  have c1:=qee p wL (hok.below hbL)
  rw [h0] at c1
  have c2:=fun W (hb:Below w0.heap.size w0 W)=>qfz (H.below hb) p.name hnm
  generalize g0.admits (ky p.name)=er at *
  have h0':(er==0)=false:=by simpa using h1
  have h0'':(er != 0)=true:=by simpa using h1
  clear h1 h0 hgd
  unfold PodD.cells Lst.val at c1 hwL ⊢
  unfold qcf at hwL
  rw [hwL] at c1
  go_enter Tryz.func53,Tryz.ntmps53
  go_wp2_with (first
    | (go_at_call 47;refine c1.mono ?_;rintro e w1 ⟨rfl,hb1⟩;rw [← hwL] at hb1;have hW1:=qj hbL hb1;have res1:=(hb1.block _ (by omega)).trans resL;have box1:qew w1 w0.heap.size p:=(hb1.block _ (by omega)).trans boxL;obtain ⟨p0,p1,p2,p3,p4,p5,p6,p7,p8,p9⟩:=boxC box1;have f1:=fun o=>qp (i:=o) res1;have q0:w1.cell? ⟨w0.heap.size+1,0,none⟩=some (.int .i64 0):=(by rw [ql res1];rfl);have q1:w1.cell? ⟨w0.heap.size+1,1,none⟩=some (.string ⟨#[]⟩):=(by rw [ql res1];rfl);have q2:w1.cell? ⟨w0.heap.size+1,2,none⟩=some (.int .i64 0):=(by rw [ql res1];rfl);have q3:w1.cell? ⟨w0.heap.size+1,3,none⟩=some (.slice none 0 0):=(by rw [ql res1];rfl);have q4:w1.cell? ⟨w0.heap.size+1,4,none⟩=some (.int .i64 0):=(by rw [ql res1];rfl))
    | (go_at_call 48;refine (c2 _ hW1).mono ?_;rintro e w1 ⟨rfl,rfl⟩))
  have hblk:=qft res1 (.int .i64 er) (.string ⟨#[]⟩) (.int .i64 0) (.slice none 0 0) (.int .i64 0)
  refine bodyPost_ret (v:= .agg #[.int .i64 er,.string ⟨#[]⟩,.int .i64 0,.slice none 0 0,.int .i64 0]) (qdq rfl rfl (run_loadVar_row _ _ _ _ _ _ _ hblk Tryz.underlying97 rfl sizeRT)) rfl ?_
  refine ⟨rfl,hW1.trans ?_⟩
  exact ((((((Kept.refl (fun b=>b=w0.heap.size+1) w1).setCell (p:=⟨w0.heap.size+1,0,none⟩) (fun _=>rfl) _).setCell (p:=⟨w0.heap.size+1,1,none⟩) (fun _=>rfl) _).setCell (p:=⟨w0.heap.size+1,2,none⟩) (fun _=>rfl) _).setCell (p:=⟨w0.heap.size+1,3,none⟩) (fun _=>rfl) _).setCell (p:=⟨w0.heap.size+1,4,none⟩) (fun _=>rfl) _).below (by have:=hb1.size;omega) fun i hi e=>by omega
structure SchedTo (F0:Nat→Prop) (w0:World) (g0:Gh) (hd:Head) (Y:Nat) (r:Rep) (oo:Option Addr) (oc:Nat) (F:Nat→Prop) (w':World) (G:Gh):Prop where
  mem:BMem F w' Y hd G
  less: ∀ b,F b→grow F0 w0 w' b
  kept:Kept F0 w0 w'
  sound:qbu hd G
  rsn:w'.ownsRow 0 88 2 (.slice oo r.reasons.length oc) r.reasons.length (r.reasons.flatMap qfb)
  rnew: ∀ b,(Value.slice oo r.reasons.length oc).ownBlock=some b→w0.heap.size≤b∧ ¬ F b
theorem ChosenTo.behind {w1 w2:World} {r:Rep} {oo:Option Addr} {oc:Nat} {F:Nat→Prop} {G:Gh} {p:PodD} (T:ChosenTo F0 w1 g0 hd Y p r oo oc F w2 G):
    (∀ o,(w2.alloc o).cell? ⟨Y,6,none⟩=some (.map (some G.bf)))∧(∀ o ty,(Builtin.len_ #[114] ty #[.map (some G.bf)]).run Tryz.prog (w2.alloc o)= .ok (.int .i64 g0.FF.length) (w2.alloc o))∧
      ∀ o,∃ w4,(∀ ty,(Builtin.clear_ #[114] ty #[.map (some G.bf)]).run Tryz.prog (w2.alloc o)= .ok (.tuple #[]) w4)∧BMem F w4 Y hd { G with FF:= [] }∧Kept (fun b=>b=G.bf) (w2.alloc o) w4∧w4.heap[w2.heap.size]? =some o∧(∀ c X,w1.heap[c]? =some X→ ¬ F0 c→w4.heap[c]? =some X)∧p.ok w4:=by
  have hF:=T.mem.fm G.bf (by simp [Gh.maps])
  have hlt:=T.mem.lt _ hF
  refine ⟨fun o=>(T.mem.below (qi w2 o)).cF,fun o ty=> ?_,fun o=> ?_⟩
  · have:=(T.mem.below (qi w2 o)).fr.len Tryz.underlying114 ty
    rw [qw,T.ff] at this
    exact this
  · have H3:=T.mem.below (qi w2 o)
    obtain ⟨w4,h1,h2,h3⟩:=H3.fr.clearAll Tryz.underlying114
    have hk:=Kept.turned h3
    refine ⟨w4,h1,H3.setF hk h2,hk,?_,fun c X hc hn=> ?_,(T.ok.below (qi w2 o)).keptNo hk fun b o' h=>by subst h;exact qhl (H3.isMap (by simp [Gh.maps])) o'⟩
    · rw [hk.block _ (by simp) (by omega)]
      exact qm _ _
    · have hc1:=qo hc
      have hc2:=T.kept.size
      have hne: ¬ c=G.bf:=fun e=>by
        subst e
        rcases T.less _ hF with h| h
        · exact hn h
        · omega
      rw [hk.block _ (by simp;omega) hne,Below.heap_alloc _ _ _ (by omega),T.kept.block _ hc1 hn]
      exact hc
theorem ChosenTo.fits {w1 w2 w4 w':World} {r r':Rep} {oo:Option Addr} {oc:Nat} {F:Nat→Prop} {G:Gh} {p:PodD} (T:ChosenTo F0 w1 g0 hd Y p r oo oc F w2 G) (f0: ∀ b,F0 b→b < w0.heap.size) (hW1:Below w0.heap.size w0 w1) (hz1:w0.heap.size+2≤w1.heap.size) {o:Obj} (H4:BMem F w4 Y hd { G with FF:= [] }) (k4:Kept (fun b=>b=G.bf) (w2.alloc o) w4) (hk:Kept (fun b=>b=w0.heap.size+1) w4 w') (hr:r'.reasons=r.reasons):
    SchedTo F0 w0 g0 hd Y r' oo oc F w' { G with FF:= [] }:=by
  have hF:=T.mem.fm G.bf (by simp [Gh.maps])
  have hz12:=T.kept.size
  have z4:=k4.size
  simp only [World.size_alloc] at z4
  have nF: ∀ b,F b→ ¬ b=w0.heap.size+1:=fun b hb e=>by
    rcases T.less b hb with h| h
    · have:=f0 b h;omega
    · omega
  refine ⟨H4.kept hk nF (fun _ h=>h) (fun b hb=>Nat.lt_of_lt_of_le (H4.lt b hb) hk.size),fun b hb=> ?_,?_,T.sound.clearF,?_,?_⟩
  · rcases T.less b hb with h| h
    · exact .inl h
    · exact .inr ⟨by omega,by have:=hk.size;omega⟩
  · refine ((((Kept.of_below hW1).trans T.kept fun _ _ h=>h).trans (Kept.of_below (F:=qq) (qi w2 o)) fun _ _ h=>h.elim).trans k4 fun i hi e=> ?_).trans hk fun i hi e=>by omega
    subst e
    rcases T.less _ hF with h| h
    · exact h
    · omega
  · rw [hr]
    refine hk.ownsRow (k4.ownsRow ((Kept.of_below (F:=qq) (qi w2 o)).ownsRow T.rsn fun _ _=>id) fun b hb e=> ?_) fun b hb e=> ?_
    · subst e
      exact (T.rnew _ hb).2 hF
    · have:=(T.rnew b hb).1
      omega
  · rw [hr]
    intro b hb
    have:=T.rnew b hb
    exact ⟨by omega,this.2⟩
theorem sched_fit (H:BMem F0 w0 Y hd g0) (S:qbu hd g0) (p:PodD) (hok:p.ok w0) (h0:p.err=0) (h1:g0.admits (ky p.name)=0) (h2:(qay g0.nodes g0.pods p.val).err≠0):
    Calls Tryz.prog 53 #[.pointer (some ⟨Y,0,none⟩),.agg p.cells] w0 fun e w'=> ∃ oo oc F G,e= .returned (repV { qay g0.nodes g0.pods p.val with fresh:=g0.FF.length } oo oc)∧SchedTo F0 w0 g0 hd Y { qay g0.nodes g0.pods p.val with fresh:=g0.FF.length } oo oc F w' G∧G.NN=g0.NN∧G.PP=g0.PP∧G.FF= []∧G.WW=g0.WW:=by
  obtain ⟨wL,hwL⟩: ∃ W,W=(w0.alloc (.cells p.cells 77)).alloc (.cells qcf 97):=⟨_,rfl⟩
  have hbL:Below w0.heap.size w0 wL:=by rw [hwL];exact qj (qi _ _) (qi _ _)
  have zL:wL.heap.size=w0.heap.size+2:=by rw [hwL];simp
  have resL:wL.heap[w0.heap.size+1]? =some (.cells qcf 97 (0,0)):=by
    have:=qm (w0.alloc (.cells p.cells 77)) (.cells qcf 97)
    rw [hwL]
    simpa using this
  have boxL:qew wL w0.heap.size p:=by
    unfold qew
    rw [hwL,Below.heap_alloc _ _ _ (by simp)]
    exact qm _ _
  have hgd:=PodD.good_Good (PodD.err_good.1 h0)
  have hnm:p.name.size≤maxLen:=by have:=hgd.name;unfold maxLen;omega
  have c1:=qee p wL (hok.below hbL)
  rw [h0] at c1
  have c2:=fun W (hb:Below w0.heap.size w0 W)=>qfz (H.below hb) p.name hnm
  rw [h1] at c2
  have c3:=fun W (hb:Below w0.heap.size w0 W)=>choose_any (H.below hb) S p (hok.below hb) hgd
  have hfr:=chooseA_fresh g0.nodes g0.pods p.val
  unfold repV at c3 ⊢
  rw [hfr] at c3
  generalize qay g0.nodes g0.pods p.val=r at *
  have h2':(r.err==0)=false:=by simpa using h2
  have h2'':(r.err != 0)=true:=by simpa using h2
  have HH:Hid (BMem F0 w0 Y hd g0):=H
  have hY:=H.lt Y H.fy
  clear h0 h1 h2 hgd hfr H S
  unfold PodD.cells Lst.val at c1 c3 hwL ⊢
  unfold qcf at hwL
  rw [hwL] at c1
  go_enter Tryz.func53,Tryz.ntmps53
  go_wp2_with (first
    | (go_at_call 47;refine c1.mono ?_;rintro e w1 ⟨rfl,hb1⟩;rw [← hwL] at hb1;have hW1:=qj hbL hb1;have res1:=(hb1.block _ (by omega)).trans resL;have box1:qew w1 w0.heap.size p:=(hb1.block _ (by omega)).trans boxL;obtain ⟨p0,p1,p2,p3,p4,p5,p6,p7,p8,p9⟩:=boxC box1)
    | (go_at_call 48;refine (c2 _ hW1).mono ?_;rintro e w1 ⟨rfl,rfl⟩)
    | (go_at_call 73;refine (c3 _ hW1).mono ?_;rintro e w2 ⟨oo,oc,F,G,rfl,T⟩;obtain ⟨y6,len3,cl3⟩:=T.behind;obtain ⟨w4,cl4,H4,k4,x4,c4,ok4⟩:=cl3 (.cells #[.int .i64 r.err,.string (bs r.node),.int .i64 r.score,.slice oo r.reasons.length oc,.int .i64 g0.FF.length] 97);have res4:=c4 _ _ res1 (fun h=>by have:=HH.out.lt _ h;omega);have lY2:=T.mem.lt Y T.mem.fy;have HT:Hid _:=T;have H4':Hid _:=H4;have z12:=T.kept.size;have z1:=hb1.size;clear T cl3 c1 c2 c3 H4;have e0:w4.cell? ⟨w2.heap.size,0,none⟩=some (.int .i64 r.err):=(by rw [ql x4];rfl);have e1:w4.cell? ⟨w2.heap.size,1,none⟩=some (.string (bs r.node)):=(by rw [ql x4];rfl);have e2:w4.cell? ⟨w2.heap.size,2,none⟩=some (.int .i64 r.score):=(by rw [ql x4];rfl);have e3:w4.cell? ⟨w2.heap.size,3,none⟩=some (.slice oo r.reasons.length oc):=(by rw [ql x4];rfl);have e4:w4.cell? ⟨w2.heap.size,4,none⟩=some (.int .i64 g0.FF.length):=(by rw [ql x4];rfl);have f1:=fun o=>qp (i:=o) res4;have q0:w4.cell? ⟨w0.heap.size+1,0,none⟩=some (.int .i64 0):=(by rw [ql res4];rfl);have q1:w4.cell? ⟨w0.heap.size+1,1,none⟩=some (.string ⟨#[]⟩):=(by rw [ql res4];rfl);have q2:w4.cell? ⟨w0.heap.size+1,2,none⟩=some (.int .i64 0):=(by rw [ql res4];rfl);have q3:w4.cell? ⟨w0.heap.size+1,3,none⟩=some (.slice none 0 0):=(by rw [ql res4];rfl);have q4:w4.cell? ⟨w0.heap.size+1,4,none⟩=some (.int .i64 0):=(by rw [ql res4];rfl)))
  have hblk:=qft res4 (.int .i64 r.err) (.string (bs r.node)) (.int .i64 r.score) (.slice oo r.reasons.length oc) (.int .i64 g0.FF.length)
  refine bodyPost_ret (v:= .agg #[.int .i64 r.err,.string (bs r.node),.int .i64 r.score,.slice oo r.reasons.length oc,.int .i64 g0.FF.length]) (qdq rfl rfl (run_loadVar_row _ _ _ _ _ _ _ hblk Tryz.underlying97 rfl sizeRT)) rfl ?_
  have K:=((((((Kept.refl (fun b=>b=w0.heap.size+1) w4).setCell (p:=⟨w0.heap.size+1,0,none⟩) (fun _=>rfl) (.int .i64 r.err)).setCell (p:=⟨w0.heap.size+1,1,none⟩) (fun _=>rfl) (.string (bs r.node))).setCell (p:=⟨w0.heap.size+1,2,none⟩) (fun _=>rfl) (.int .i64 r.score)).setCell (p:=⟨w0.heap.size+1,3,none⟩) (fun _=>rfl) (.slice oo r.reasons.length oc)).setCell (p:=⟨w0.heap.size+1,4,none⟩) (fun _=>rfl) (.int .i64 g0.FF.length))
  exact ⟨oo,oc,F,_,rfl,HT.out.fits HH.out.lt hW1 (by omega) H4'.out k4 K rfl,HT.out.nn,HT.out.pp,rfl,HT.out.ww⟩
end
end
section
open Go.RowKit Go.Maps
section
variable {F0:Nat→Prop} {w0:World} {Y:Nat} {hd:Head} {g0:Gh}
theorem SchedTo.laid {F0:Nat→Prop} {w0:World} {g0:Gh} {hd:Head} {Y:Nat} {r:Rep} {oo:Option Addr} {oc:Nat} {F F':Nat→Prop} {w4 w5 w':World} {G G':Gh} (T:SchedTo F0 w0 g0 hd Y r oo oc F w4 G) (hz:w0.heap.size+2≤w4.heap.size) (hF: ∀ b,F b→ ¬ b=w0.heap.size+1) (hR: ∀ b,(Value.slice oo r.reasons.length oc).ownBlock=some b→ ¬ b=w0.heap.size+1) (H5:BMem F' w5 Y hd G') (hF': ∀ b,F' b→grow F w4 w5 b) (k5:Kept F w4 w5) (hk:Kept (fun b=>b=w0.heap.size+1) w5 w') (S:qbu hd G'):SchedTo F0 w0 g0 hd Y r oo oc F' w' G':=by
  have z5:=k5.size
  have hz':=hk.size
  have hn: ∀ b,F' b→ ¬ b=w0.heap.size+1:=fun b hb e=>by
    rcases hF' b hb with h| h
    · exact hF b h e
    · omega
  have rlt: ∀ b,(Value.slice oo r.reasons.length oc).ownBlock=some b→b < w4.heap.size:=fun b hb=>by
    obtain ⟨c,hc⟩:=qby T.rsn hb
    exact qo hc
  refine ⟨H5.kept hk hn (fun _ h=>h) (fun b hb=>Nat.lt_of_lt_of_le (H5.lt b hb) hz'),fun b hb=> ?_,(T.kept.trans k5 fun i hi h=> ?_).trans hk fun i hi e=>by omega,S,hk.ownsRow (k5.ownsRow T.rsn fun b hb h=>(T.rnew b hb).2 h) fun b hb e=> ?_,fun b hb=>⟨(T.rnew b hb).1,fun h=> ?_⟩⟩
  · rcases hF' b hb with h| h
    · exact (T.less b h).imp id fun h=>⟨h.1,by omega⟩
    · exact .inr ⟨by have:=T.kept.size;omega,by omega⟩
  · rcases T.less i h with h| h
    · exact h
    · omega
  · exact hR b hb e
  · rcases hF' b h with h| h
    · exact (T.rnew b hb).2 h
    · have:=rlt b hb
      omega
theorem sched_ok (H:BMem F0 w0 Y hd g0) (S:qbu hd g0) (p:PodD) (hok:p.ok w0) (h0:p.err=0) (h1:g0.admits (ky p.name)=0) (h2:(qay g0.nodes g0.pods p.val).err=0):
    Calls Tryz.prog 53 #[.pointer (some ⟨Y,0,none⟩),.agg p.cells] w0 fun e w'=> ∃ (oo:Option Addr) (oc:Nat) (F:Nat→Prop) (G:Gh) (q:Nat),e= .returned (repV { qay g0.nodes g0.pods p.val with fresh:=g0.FF.length } oo oc)∧SchedTo F0 w0 g0 hd Y { qay g0.nodes g0.pods p.val with fresh:=g0.FF.length } oo oc F w' ((({ G with FF:= [] }:Gh).layRaw (ky p.name) q (p.lies (qay g0.nodes g0.pods p.val).node false hd.now)).changed (qay g0.nodes g0.pods p.val).node)∧G.NN=g0.NN∧G.PP=g0.PP∧G.WW=g0.WW:=by
  obtain ⟨wL,hwL⟩: ∃ W,W=(w0.alloc (.cells p.cells 77)).alloc (.cells qcf 97):=⟨_,rfl⟩
  have hbL:Below w0.heap.size w0 wL:=by rw [hwL];exact qj (qi _ _) (qi _ _)
  have zL:wL.heap.size=w0.heap.size+2:=by rw [hwL];simp
  have resL:wL.heap[w0.heap.size+1]? =some (.cells qcf 97 (0,0)):=by
    have:=qm (w0.alloc (.cells p.cells 77)) (.cells qcf 97)
    rw [hwL]
    simpa using this
  have boxL:qew wL w0.heap.size p:=by
    unfold qew
    rw [hwL,Below.heap_alloc _ _ _ (by simp)]
    exact qm _ _
  have hgd:=PodD.good_Good (PodD.err_good.1 h0)
  have hnm:p.name.size≤maxLen:=by have:=hgd.name;unfold maxLen;omega
  have c1:=qee p wL (hok.below hbL)
  rw [h0] at c1
  have c2:=fun W (hb:Below w0.heap.size w0 W)=>qfz (H.below hb) p.name hnm
  rw [h1] at c2
  have c3:=fun W (hb:Below w0.heap.size w0 W)=>choose_any (H.below hb) S p (hok.below hb) hgd
  have hfr:=chooseA_fresh g0.nodes g0.pods p.val
  obtain ⟨nd,hnd,hndn,_⟩:=chooseA_ok h2
  obtain ⟨q',hq',rfl⟩:=qer.1 hnd
  have hnl:(qay g0.nodes g0.pods p.val).node.length≤20:=by rw [← hndn];exact S.b.nk q' hq'
  have HL:Hid (∀ x∈p.lists,x.L.length≤1000):=fun x hx=>by have:=(hgd.lists x hx).1;omega
  have HPP:Hid (g0.PP.length < 100000):=by show g0.PP.length < 100000;have:=S.b.small.pods;omega
  have HLays:Hid (∀ G:Gh,G.NN=g0.NN→G.PP=g0.PP→LaysOk hd ({ G with FF:= [] }:Gh) (ky p.name) (p.lies (qay g0.nodes g0.pods p.val).node false hd.now)):=fun G e1 e2=>by
    have hadm:=h1
    unfold Gh.admits at hadm
    have a1:getL g0.PP (ky p.name)=none:=by
      cases e:getL g0.PP (ky p.name) with
      | none=>rfl
      | some x=>rw [e] at hadm;simp at hadm
    have a2:g0.PP.length < 128:=by
      rw [a1] at hadm
      simp at hadm
      omega
    refine ⟨by rw [e2];exact a1,by rw [e2];exact a2,by rw [qdu];exact hgd.name.2,?_,hgd.need,S.b.now.1,Int.le_refl _⟩
    show (getL G.NN (qay g0.nodes g0.pods p.val).node).isSome=true
    rw [e1,← hndn,qac H.sortN.distinct hq']
    rfl
  clear hnd hndn hq'
  unfold repV at c3 ⊢
  rw [hfr] at c3
  generalize qay g0.nodes g0.pods p.val=r at *
  have HH:Hid (BMem F0 w0 Y hd g0):=H
  have hY:=H.lt Y H.fy
  clear h0 h1 hgd hfr H S
  rw [h2] at c3 ⊢
  clear h2
  unfold PodD.cells Lst.val at c1 c3 hwL ⊢
  unfold qcf at hwL
  rw [hwL] at c1
  go_enter Tryz.func53,Tryz.ntmps53
  go_wp2_with (first
    | (go_at_call 47;refine c1.mono ?_;rintro e w1 ⟨rfl,hb1⟩;rw [← hwL] at hb1;have hW1:=qj hbL hb1;have res1:=(hb1.block _ (by omega)).trans resL;have box1:qew w1 w0.heap.size p:=(hb1.block _ (by omega)).trans boxL;obtain ⟨p0,p1,p2,p3,p4,p5,p6,p7,p8,p9⟩:=boxC box1)
    | (go_at_call 48;refine (c2 _ hW1).mono ?_;rintro e w1 ⟨rfl,rfl⟩)
    | (go_at_call 73;refine (c3 _ hW1).mono ?_;rintro e w2 ⟨oo,oc,F,G,rfl,T⟩;obtain ⟨y6,len3,cl3⟩:=T.behind;obtain ⟨w4,cl4,H4,k4,x4,c4,ok4⟩:=cl3 (.cells #[.int .i64 0,.string (bs r.node),.int .i64 r.score,.slice oo r.reasons.length oc,.int .i64 g0.FF.length] 97);have res4:=c4 _ _ res1 (fun h=>by have:=HH.out.lt _ h;omega);have lY2:=T.mem.lt Y T.mem.fy;have HT:Hid _:=T;have H4':Hid _:=H4;have z12:=T.kept.size;have z1:=hb1.size;clear T cl3 c1 c2 c3 H4;obtain ⟨-,-,-,hnow,-⟩:=H4'.out.cells;have box4:qew w4 w0.heap.size p:=c4 _ _ box1 (fun h=>by have:=HH.out.lt _ h;omega);obtain ⟨p0,p1,p2,p3,p4,p5,p6,p7,p8,p9⟩:=boxC box4;have e0:w4.cell? ⟨w2.heap.size,0,none⟩=some (.int .i64 0):=(by rw [ql x4];rfl);have e1:w4.cell? ⟨w2.heap.size,1,none⟩=some (.string (bs r.node)):=(by rw [ql x4];rfl);have e2:w4.cell? ⟨w2.heap.size,2,none⟩=some (.int .i64 r.score):=(by rw [ql x4];rfl);have e3:w4.cell? ⟨w2.heap.size,3,none⟩=some (.slice oo r.reasons.length oc):=(by rw [ql x4];rfl);have e4:w4.cell? ⟨w2.heap.size,4,none⟩=some (.int .i64 g0.FF.length):=(by rw [ql x4];rfl);have f1:=fun o=>qp (i:=o) res4;have q0:w4.cell? ⟨w0.heap.size+1,0,none⟩=some (.int .i64 0):=(by rw [ql res4];rfl);have q1:w4.cell? ⟨w0.heap.size+1,1,none⟩=some (.string ⟨#[]⟩):=(by rw [ql res4];rfl);have q2:w4.cell? ⟨w0.heap.size+1,2,none⟩=some (.int .i64 0):=(by rw [ql res4];rfl);have q3:w4.cell? ⟨w0.heap.size+1,3,none⟩=some (.slice none 0 0):=(by rw [ql res4];rfl);have q4:w4.cell? ⟨w0.heap.size+1,4,none⟩=some (.int .i64 0):=(by rw [ql res4];rfl)))
  have hbd:Below w4.heap.size w4 w4.drew:=(Below.refl _ _).drew
  have nF1: ¬ F (w0.heap.size+1):=fun h=>by
    rcases HT.out.less _ h with h| h
    · have:=HH.out.lt _ h;omega
    · omega
  have nF2: ¬ F w2.heap.size:=fun h=>by have:=HT.out.mem.lt _ h;omega
  have cY:=play_any (H4'.out.below hbd) p (bs r.node) 0 hd.now false rfl (ok4.below hbd) hnm (by rw [qe1];unfold maxLen;omega) HL.out (by show G.PP.length < _;rw [HT.out.pp];exact HPP.out) (by show (0:Nat) < _;omega)
  rw [qga] at cY
  unfold PodD.cells Lst.val at cY
  have l2:=qo x4
  have l1:=qo res4
  go_region_with (first
    | (go_at_call 49;refine cY.mono ?_;rintro e w5 ⟨rfl,q,hq,H5,k5⟩;have x5:=(k5.block _ l2 nF2).trans x4;have res5:=(k5.block _ l1 nF1).trans res4;have f5:=fun o=>qp (i:=o) res5;have q0':w5.cell? ⟨w0.heap.size+1,0,none⟩=some (.int .i64 0):=(by rw [ql res5];rfl);have q1':w5.cell? ⟨w0.heap.size+1,1,none⟩=some (.string ⟨#[]⟩):=(by rw [ql res5];rfl);have q2':w5.cell? ⟨w0.heap.size+1,2,none⟩=some (.int .i64 0):=(by rw [ql res5];rfl);have q3':w5.cell? ⟨w0.heap.size+1,3,none⟩=some (.slice none 0 0):=(by rw [ql res5];rfl);have q4':w5.cell? ⟨w0.heap.size+1,4,none⟩=some (.int .i64 0):=(by rw [ql res5];rfl);have e0':w5.cell? ⟨w2.heap.size,0,none⟩=some (.int .i64 0):=(by rw [ql x5];rfl);have e1':w5.cell? ⟨w2.heap.size,1,none⟩=some (.string (bs r.node)):=(by rw [ql x5];rfl);have e2':w5.cell? ⟨w2.heap.size,2,none⟩=some (.int .i64 r.score):=(by rw [ql x5];rfl);have e3':w5.cell? ⟨w2.heap.size,3,none⟩=some (.slice oo r.reasons.length oc):=(by rw [ql x5];rfl);have e4':w5.cell? ⟨w2.heap.size,4,none⟩=some (.int .i64 g0.FF.length):=(by rw [ql x5];rfl)))
  all_goals go_wp2
  all_goals have hblk:=qft res5 (.int .i64 0) (.string (bs r.node)) (.int .i64 r.score) (.slice oo r.reasons.length oc) (.int .i64 g0.FF.length)
  all_goals refine bodyPost_ret (v:= .agg #[.int .i64 0,.string (bs r.node),.int .i64 r.score,.slice oo r.reasons.length oc,.int .i64 g0.FF.length]) (qdq rfl rfl (run_loadVar_row _ _ _ _ _ _ _ hblk Tryz.underlying97 rfl sizeRT)) rfl ?_
  all_goals have K:=((((((Kept.refl (fun b=>b=w0.heap.size+1) w5).setCell (p:=⟨w0.heap.size+1,0,none⟩) (fun _=>rfl) (.int .i64 0)).setCell (p:=⟨w0.heap.size+1,1,none⟩) (fun _=>rfl) (.string (bs r.node))).setCell (p:=⟨w0.heap.size+1,2,none⟩) (fun _=>rfl) (.int .i64 r.score)).setCell (p:=⟨w0.heap.size+1,3,none⟩) (fun _=>rfl) (.slice oo r.reasons.length oc)).setCell (p:=⟨w0.heap.size+1,4,none⟩) (fun _=>rfl) (.int .i64 g0.FF.length))
  all_goals have T4:=HT.out.fits (r':= { r with fresh:=g0.FF.length }) HH.out.lt hW1 (by omega) H4'.out k4 (Kept.refl (fun b=>b=w0.heap.size+1) w4) rfl
  all_goals have z4:=k4.size
  all_goals simp only [World.size_alloc] at z4
  all_goals refine ⟨oo,oc,_,G,q,rfl,T4.laid (by omega) (fun b hb e=>nF1 (e▸hb)) (fun b hb e=>by have:=(HT.out.rnew b hb).1;omega) H5 (fun b hb=>hb) ((Kept.refl F w4).drew.trans k5 fun _ _ h=>h) K (T4.sound.lay H4'.out.ord (HLays.out G HT.out.nn HT.out.pp)),HT.out.nn,HT.out.pp,HT.out.ww⟩
end
end
end Go.Proofs.YtchddaafibjmgaaGreat
