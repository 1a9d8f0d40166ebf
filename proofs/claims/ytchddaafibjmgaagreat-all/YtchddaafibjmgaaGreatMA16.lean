import Derived.Test.YtchddaafibjmgaaGreatMPLookF
import Derived.Test.YtchddaafibjmgaaGreatMPLookT
import Derived.Test.YtchddaafibjmgaaGreatMA15
set_option maxRecDepth 100000
set_option maxHeartbeats 20000000
namespace Go.Proofs.YtchddaafibjmgaaGreat
section
open Go.RowKit Go.Maps
def ViewsOk (g:Gh):Prop:= ∀ k v,getL g.VV k=some v→ViewOk g k v
def qd6 (AN VV:List (qn×qba)) (L:List (qn×Value)):List (qn×qba):=L.map fun p=>(p.1,((getL AN p.1).orElse fun _=>getL VV p.1).getD qfm)
theorem newViews_get (AN VV:List (qn×qba)) {L:List (qn×Value)} (h: ∀ k,getL L k=((getL AN k).map qba.val).orElse fun _=>(getL VV k).map qba.val) (k:qn):getL (qd6 AN VV L) k=(getL AN k).orElse fun _=>getL VV k:=by
  have h1:getL (qd6 AN VV L) k=if (getL L k).isSome then some (((getL AN k).orElse fun _=>getL VV k).getD qfm) else none:=by
    clear h
    induction L with
    | nil=>rfl
    | cons p r ih=>
      have e1:getL (qd6 AN VV (p::r)) k=if p.1==k then some (((getL AN p.1).orElse fun _=>getL VV p.1).getD qfm) else getL (qd6 AN VV r) k:=rfl
      have e2:getL (p::r) k=if p.1==k then some p.2 else getL r k:=rfl
      rw [e1,e2]
      by_cases e:p.1==k
      · have e':p.1=k:=by simpa using e
        rw [if_pos e,if_pos e,e']
        rfl
      · rw [if_neg e,if_neg e]
        exact ih
  rw [h1,h k]
  cases getL AN k with
  | some v=>rfl
  | none=>
    cases getL VV k with
    | some v=>rfl
    | none=>rfl
theorem newViews_val (AN VV:List (qn×qba)) {L:List (qn×Value)} (hs:L.Pairwise fun p q=>p.1≠q.1) (h: ∀ k,getL L k=((getL AN k).map qba.val).orElse fun _=>(getL VV k).map qba.val):mapV qba.val (qd6 AN VV L)=L:=by
  unfold mapV qd6
  rw [List.map_map]
  conv=>rhs;rw [← List.map_id L]
  apply List.map_congr_left
  intro p hp
  have h1:=qac hs (k:=p.1) (v:=p.2) hp
  rw [h] at h1
  show (p.1,_)=p
  refine Prod.ext rfl ?_
  dsimp only
  cases ha:getL AN p.1 with
  | some v=>rw [ha] at h1;exact Option.some.inj h1
  | none=>
    rw [ha] at h1
    cases hv:getL VV p.1 with
    | some v=>rw [hv] at h1;exact Option.some.inj h1
    | none=>rw [hv] at h1;cases h1
theorem look_pack {F:Nat→Prop} {w w' W wa:World} {Y:Nat} {hd:Head} {g:Gh} {AN:List (qn×qba)} {L:List (qn×Value)} (hb:w.heap.size≤W.heap.size) (H:BMem F W Y hd g) (hV:ViewsOk g) (h1:Below W.heap.size W wa) (h2:Kept (fun b=>b=g.bv) wa w') (hL:qch W.heap.size wa g AN g.PP.length)
    (hm:qai Tryz.prog w' 9 g.bv L) (hg: ∀ k,getL L k=((getL AN k).map qba.val).orElse fun _=>(getL g.VV k).map qba.val):
    ∃ VV,BMem (grow F w w') w' Y hd { g with VV:=VV }∧Full { g with VV:=VV }∧ViewsOk { g with VV:=VV }∧ ∀ k v,getL VV k=some v→(getL g.NN k).isSome=true∨(getL g.VV k).isSome=true:=by
  have hs:L.Pairwise fun p q=>p.1≠q.1:=(hm.sorted strK).distinct
  have hva:=newViews_val AN g.VV hs hg
  have hge:=newViews_get AN g.VV hg
  have Ha:=(H.below h1).more (F':=grow F w wa) (fun b h=> .inl h) (fun b h=>h.elim (fun h=>(H.below h1).lt b h) (fun h=>h.2))
  have Hw: ∀ b,grow F w wa b→grow F w w' b:=fun b h=>h.imp id fun h=>⟨h.1,Nat.lt_of_lt_of_le h.2 h2.size⟩
  have hAN: ∀ k v,getL AN k=some v→ViewOk g k v:=fun k v hk=>by
    have p1:=hL.ptrs k v hk
    have p2:=hL.used k v hk
    rw [List.take_length] at p1 p2
    exact ⟨by rw [p1];unfold qat;rw [List.map_map];rfl,p2⟩
  have hok: ∀ k v,getL (qd6 AN g.VV L) k=some v→ViewOk g k v:=fun k v hk=>by
    rw [hge] at hk
    cases ha:getL AN k with
    | some u=>rw [ha] at hk;cases hk;exact hAN k _ ha
    | none=>rw [ha] at hk;exact hV k v hk
  have hbv: ∃ es c,wa.heap[g.bv]? =some (.map es c):=(H.below h1).isMap (by simp [Gh.maps])
  have hrow: ∀ p∈qd6 AN g.VV L,RowAt (grow F w wa) w' p.2:=fun p hp=>by
    have hd2:(qd6 AN g.VV L).Pairwise fun p q=>p.1≠q.1:=by
      unfold qd6
      rw [List.pairwise_map]
      exact hs
    have hk:=qac hd2 (k:=p.1) (v:=p.2) hp
    rw [hge] at hk
    have hin:RowAt (grow F w wa) wa p.2:=by
      cases ha:getL AN p.1 with
      | some u=>
        rw [ha] at hk
        cases hk
        obtain ⟨r1,r2⟩:=hL.row p.1 _ ha
        refine ⟨r1,fun b hbk=> .inr ⟨Nat.le_trans hb (r2 b hbk),?_⟩⟩
        obtain ⟨c,hc⟩:=row_type r1 hbk
        exact qo hc
      | none=>
        rw [ha] at hk
        exact Ha.vv (p.1,p.2) (qar hk)
    exact ⟨h2.ownsRow hin.1 fun b hbk e=>row_not_map hin.1 hbv (by rw [← e];exact hbk),hin.2⟩
  have HB:=Ha.setV h2 (VV:=qd6 AN g.VV L) (by rw [hva];exact hm) hrow
  refine ⟨qd6 AN g.VV L,HB.more Hw (fun b h=>h.elim (fun h=>HB.lt b (.inl h)) (fun h=>h.2)),fun p hp=> ?_,fun k v hk=>⟨(hok k v hk).ptrs,(hok k v hk).used⟩,fun k v hk=> ?_⟩
  rotate_left
  · rw [hge] at hk
    cases ha:getL AN k with
    | some u=>
      cases hc:cond g k with
      | true=>
        unfold cond at hc
        rw [Bool.and_eq_true] at hc
        exact .inl hc.1
      | false=>rw [hL.off k hc] at ha;cases ha
    | none=>
      rw [ha] at hk
      have hk':getL g.VV k=some v:=hk
      rw [hk']
      exact .inr rfl
  have hsome: ∃ v,getL (qd6 AN g.VV L) p.1=some v:=by
    rw [hge]
    cases hc:cond g p.1 with
    | true=>
      obtain ⟨v,hv⟩:=hL.on p.1 hc
      rw [hv]
      exact ⟨v,rfl⟩
    | false=>
      rw [hL.off p.1 hc]
      have hn:=qac H.sortN.distinct (k:=p.1) (v:=p.2) hp
      unfold cond at hc
      rw [hn] at hc
      cases hv:getL g.VV p.1 with
      | some v=>exact ⟨v,rfl⟩
      | none=>rw [hv] at hc;cases hc
  obtain ⟨v,hv⟩:=hsome
  exact ⟨v,hv,⟨(hok _ v hv).ptrs,(hok _ v hv).used⟩⟩
theorem look_any {F:Nat→Prop} {w:World} {Y:Nat} {hd:Head} {g:Gh} (H:BMem F w Y hd g) (hS:qg7 g) (hV:ViewsOk g) (hN:g.NN.length≤32) (hVl:g.VV.length < 1000) (hpk: ∀ p∈g.PP,p.1.length≤maxLen∧p.2.2.node.length≤maxLen):
    Calls Tryz.prog 84 #[.pointer (some ⟨Y,0,none⟩)] w fun e w'=>e= .returned (.tuple #[])∧ ∃ VV,BMem (grow F w w') w' Y hd { g with VV:=VV }∧Full { g with VV:=VV }∧ViewsOk { g with VV:=VV }∧(∀ k v,getL VV k=some v→(getL g.NN k).isSome=true∨(getL g.VV k).isSome=true)∧Kept (fun b=>b=g.bv) w w':=by
  cases hwh:hd.whole with
  | false=>
    refine (look_false H hS hN hVl hpk hwh).mono ?_
    rintro e w' ⟨he,W,wa,AN,L,hB,h1,h2,h3,h4,h5,h6⟩
    obtain ⟨VV,r1,r2,r3,r4⟩:=look_pack h1.size hB hV h2 h3 h4 h5 h6
    exact ⟨he,VV,r1,r2,r3,r4,(h1.trans (Kept.of_below h2) fun _ _ h=>h).trans h3 fun _ _ h=>h⟩
  | true=>
    refine (look_true H hS hN hpk hwh).mono ?_
    rintro e w' ⟨he,W,wa,AN,L,hB,h1,h2,h3,h4,h5,h6⟩
    obtain ⟨VV,r1,r2,r3,r4⟩:=look_pack h1.size hB (fun k v hk=>by cases hk) h2 h3 h4 h5 h6
    exact ⟨he,VV,r1,r2,r3,fun k v hk=>(r4 k v hk).imp id (fun h=>by cases h),(h1.trans (Kept.of_below h2) fun _ _ h=>h).trans h3 fun _ _ h=>h⟩
end
section
open Go.RowKit Go.Maps
theorem nameB_size {s:ByteArray} (h:qdl s=true):1≤s.size∧s.size≤20:=by
  unfold qdl at h
  simp only [Bool.and_eq_true,decide_eq_true_eq] at h
  exact h.1
theorem listB_fine {L:List Lab} (h:qbz L=true):L.length≤8∧ ∀ x∈L,1≤x.1.size∧x.1.size≤20∧x.2.size≤20:=by
  unfold qbz qf2 at h
  simp only [Bool.and_eq_true,decide_eq_true_eq,List.all_eq_true,List.mem_range] at h
  refine ⟨h.1,fun x hx=> ?_⟩
  obtain ⟨i,hi,rfl⟩:=List.getElem_of_mem hx
  have h1:=h.2 i hi
  unfold itemB qab at h1
  rw [List.getElem?_eq_getElem hi] at h1
  simp only [Option.getD_some,Bool.and_eq_true] at h1
  have h2:=nameB_size h1.1.1
  have h3:=nameB_size h1.1.2
  exact ⟨h2.1,h2.2,h3.2⟩
theorem amtsB_le {a b c:Int} (h:qef a b c=true): ∀ y∈ [a,b,c],0≤y∧y≤1099511627776:=by
  unfold qef amtB at h
  simp only [Bool.and_eq_true,decide_eq_true_eq] at h
  simp only [List.mem_cons,List.not_mem_nil,or_false,forall_eq_or_imp,forall_eq]
  exact ⟨h.1.1,h.1.2,h.2⟩
structure PodD.Good (p:PodD):Prop where
  name:1≤p.name.size∧p.name.size≤20
  need: ∀ y∈ [p.n0,p.n1,p.n2],0≤y∧y≤1099511627776
  port:0≤p.port∧p.port≤65535
  lists: ∀ x∈p.lists,x.L.length≤8∧ ∀ y∈x.L,1≤y.1.size∧y.1.size≤20∧y.2.size≤20
theorem PodD.good_Good {p:PodD} (h:p.good=true):p.Good:=by
  unfold PodD.good at h
  simp only [Bool.and_eq_true,decide_eq_true_eq,List.all_eq_true] at h
  exact ⟨nameB_size h.1.1.1.1,amtsB_le h.1.1.1.2,⟨h.1.1.2,h.1.2⟩,fun x hx=>listB_fine (h.2 x hx)⟩
theorem PodD.err_good {p:PodD}:p.err=0↔p.good=true:=by
  unfold PodD.err
  cases p.good<;>simp
theorem qu.err_good {n:qu}:n.err=0↔n.good=true:=by
  unfold qu.err
  cases n.good<;>simp
theorem lists_val (p:PodD):p.val.lists=p.lists.map (·.L):=rfl
theorem lit64 {n:Int} (h:0≤n∧n≤1099511627776):(Lit.int .i64 n).wf=true:=by
  have h1:IntKind.min .i64= -9223372036854775808:=by decide
  have h2:IntKind.max .i64=9223372036854775807:=by decide
  simp [Lit.wf,h1,h2]
  omega
theorem PodD.Good.fine {p:PodD} (h:p.Good):p.val.Fine:=by
  refine ⟨?_,?_,?_⟩
  · intro n hn
    have h1:=h.need
    have h2:=h.port
    simp only [List.mem_cons,List.not_mem_nil,or_false,forall_eq_or_imp,forall_eq] at h1 hn
    apply lit64
    rcases hn with rfl| rfl| rfl| rfl
    · exact h1.1
    · exact h1.2.1
    · exact h1.2.2
    · show 0≤p.port∧p.port≤1099511627776
      omega
  · intro L hL
    rw [lists_val] at hL
    obtain ⟨x,hx,rfl⟩:=List.mem_map.1 hL
    exact (h.lists x hx).1
  · intro L hL y hy
    rw [lists_val] at hL
    obtain ⟨x,hx,rfl⟩:=List.mem_map.1 hL
    have:=(h.lists x hx).2 y hy
    unfold maxLen
    omega
structure Ord (g:Gh):Prop where
  n:qad g.NN
  p:qad g.PP
  f:qad g.FF
  v:qad g.VV
theorem BMem.ord {F:Nat→Prop} {w:World} {Y:Nat} {hd:Head} {g:Gh} (H:BMem F w Y hd g):Ord g:=⟨H.sortN,H.sortP,H.sortF,H.sortV⟩
structure Basic (hd:Head) (g:Gh):Prop where
  small:qg7 g
  nn:g.NN.length≤32
  nk: ∀ p∈g.NN,p.1.length≤20
  pk: ∀ p∈g.PP,p.1.length≤20∧(getL g.NN p.2.2.node).isSome=true∧0≤p.2.2.since∧p.2.2.since≤hd.now
  fk: ∀ p∈g.FF,(getL g.NN p.1).isSome=true
  hold:1≤hd.hold∧hd.hold≤1000
  now:0≤hd.now∧hd.now≤1099511627776
structure Lore (g:Gh):Prop where
  vk: ∀ k v,getL g.VV k=some v→(getL g.NN k).isSome=true
  views:ViewsOk g
  ak: ∀ c x,getL g.AA c=some x→ ∀ n a,getL x.2 n=some a→(getL g.NN n).isSome=true
  ans: ∀ c x,getL g.AA c=some x→ ∀ n a,getL x.2 n=some a→ ∀ v:PodV,v.Fine→qd8 v=c→ ∀ nd,getL g.NN n=some nd→a=qbk g.nodes g.pods n nd.2 v
structure qbu (hd:Head) (g:Gh):Prop where
  b:Basic hd g
  l:Lore g
theorem Basic.of_eq {hd:Head} {g g':Gh} (h:Basic hd g) (e1:g'.NN=g.NN) (e2:g'.PP=g.PP) (e3:g'.FF=g.FF):Basic hd g':=by
  refine ⟨⟨?_,?_,?_⟩,?_,?_,?_,?_,h.hold,h.now⟩
  · rw [e2];exact h.small.pods
  · rw [e1];exact h.small.room
  · rw [e2];exact h.small.need
  · rw [e1];exact h.nn
  · rw [e1];exact h.nk
  · rw [e1,e2];exact h.pk
  · rw [e1,e3];exact h.fk
theorem isSome_mem {α:Type} {L:List (qn×α)} {k:qn} (h:(getL L k).isSome=true): ∃ v,(k,v)∈L:=by
  cases e:getL L k with
  | none=>rw [e] at h;cases h
  | some v=>exact ⟨v,qar e⟩
theorem Basic.node_len {hd:Head} {g:Gh} (h:Basic hd g) {k:qn} (hk:(getL g.NN k).isSome=true):k.length≤20:=by
  obtain ⟨v,hv⟩:=isSome_mem hk
  exact h.nk _ hv
theorem Basic.ff_len {hd:Head} {g:Gh} (h:Basic hd g) (o:Ord g):g.FF.length≤32:=Nat.le_trans (qe9 _ o.f.distinct _ o.n.distinct h.fk) h.nn
theorem Lore.vv_len {g:Gh} (h:Lore g) (o:Ord g):g.VV.length≤g.NN.length:=qe9 _ o.v.distinct _ o.n.distinct fun p hp=>h.vk p.1 p.2 (qac o.v.distinct hp)
theorem qez (g:Gh) (j:qn):getL g.nodes j=(getL g.NN j).map (·.2):=by unfold Gh.nodes;rw [qz]
theorem nodes_distinct {g:Gh} (o:Ord g):g.nodes.Pairwise fun p q=>p.1≠q.1:=by
  unfold Gh.nodes mapV
  rw [List.pairwise_map]
  exact o.n.distinct
theorem Lore.step {g g1:Gh} (S:Lore g) (o:Ord g) (o1:Ord g1) (B:qn→Prop) (h1: ∀ j,¬ B j→getL g1.NN j=getL g.NN j) (h2: ∀ j,¬ B j→(qat g1 j).map (·.1)=(qat g j).map (·.1)∧(onA g1.pods j).map core=(onA g.pods j).map core)
    (hV: ∀ j v,getL g1.VV j=some v→ ¬ B j∧getL g.VV j=some v)
    (hA: ∀ c x,getL g1.AA c=some x→ ∃ y,getL g.AA c=some y∧ ∀ n a,getL x.2 n=some a→getL y.2 n=some a∧((getL g.NN n).isSome=true→ ¬ B n∧ ∀ k,B k→((getL g.NN k).isSome=true→nbrB g.nodes k n=false)∧((getL g1.NN k).isSome=true→nbrB g1.nodes k n=false))):Lore g1:=by
  have hal:Alike B g.nodes g.pods g1.nodes g1.pods:=fun j hj=>⟨by rw [qez,qez,h1 j hj],(h2 j hj).2⟩
  refine ⟨fun k v hk=> ?_,fun k v hk=> ?_,fun c x hx n a hn=> ?_,fun c x hx n a hn v hv hc nd hnd=> ?_⟩
  · obtain ⟨q1,q2⟩:=hV k v hk
    rw [h1 k q1]
    exact S.vk k v q2
  · obtain ⟨q1,q2⟩:=hV k v hk
    have q3:=S.views k v q2
    exact ⟨by rw [(h2 k q1).1];exact q3.ptrs,by rw [hal.used q1];exact q3.used⟩
  · obtain ⟨y,q1,q2⟩:=hA c x hx
    obtain ⟨q3,q4⟩:=q2 n a hn
    have q5:=S.ak c y q1 n a q3
    rw [h1 n (q4 q5).1]
    exact q5
  · obtain ⟨y,q1,q2⟩:=hA c x hx
    obtain ⟨q3,q4⟩:=q2 n a hn
    have q5:=S.ak c y q1 n a q3
    obtain ⟨q6,q7⟩:=q4 q5
    rw [h1 n q6] at hnd
    rw [S.ans c y q1 n a q3 v hv hc nd hnd]
    symm
    refine hal.answer (nodes_distinct o) (nodes_distinct o1) q6 (fun j d hj hd=> ?_) (fun j d hj hd=> ?_) nd.2 v
    · rw [nbrB_comm]
      refine (q7 j hj).1 ?_
      rw [qez] at hd
      cases e:getL g.NN j with
      | none=>rw [e] at hd;cases hd
      | some _=>rfl
    · rw [nbrB_comm]
      refine (q7 j hj).2 ?_
      rw [qez] at hd
      cases e:getL g1.NN j with
      | none=>rw [e] at hd;cases hd
      | some _=>rfl
theorem getL_map2 {α β:Type} (f:qn→α→β) (L:List (qn×α)) (k:qn):getL (L.map fun p=>(p.1,f p.1 p.2)) k=(getL L k).map (f k):=by
  induction L with
  | nil=>rfl
  | cons p r ih=>
    rw [List.map_cons]
    unfold getL
    by_cases e:p.1==k
    · have e':p.1=k:=by simpa using e
      subst e'
      rw [if_pos (by simp),if_pos (by simp)]
      rfl
    · rw [if_neg e,if_neg e]
      exact ih
theorem getL_filterK {α:Type} (f:qn→Bool) (L:List (qn×α)) (k:qn):getL (L.filter fun q=>f q.1) k=if f k then getL L k else none:=by
  induction L with
  | nil=>simp [getL]
  | cons p r ih=>
    by_cases e:p.1=k
    · subst e
      cases hf:f p.1 with
      | true=>
        rw [List.filter_cons,hf,if_pos rfl,if_pos rfl]
        unfold getL
        rw [if_pos (by simp),if_pos (by simp)]
      | false=>
        rw [List.filter_cons,hf,if_neg (by simp),if_neg (by simp),ih,hf]
        rfl
    · have e': ¬ (p.1==k)=true:=by simpa using e
      have h2:getL (p::r) k=getL r k:=by
        conv=>lhs;unfold getL
        rw [if_neg e']
      cases hf:f p.1 with
      | true=>
        have h1:getL (p::r.filter fun q=>f q.1) k=getL (r.filter fun q=>f q.1) k:=by
          conv=>lhs;unfold getL
          rw [if_neg e']
        rw [List.filter_cons,hf,if_pos rfl,h1,ih,h2]
      | false=>
        rw [List.filter_cons,hf,if_neg (by simp),ih,h2]
theorem getL_strike (f:qn→qn→Bool) (AA:List (qn×(Nat×List (qn×(Int×Int))))) (c:qn):getL (qcm f AA) c=(getL AA c).map fun x=>(x.1,x.2.filter fun q=> !f c q.1):=
  getL_map2 (fun (c:qn) (x:Nat×List (qn×(Int×Int)))=>(x.1,x.2.filter fun (q:qn×(Int×Int))=> !f c q.1)) AA c
theorem qen {f:qn→qn→Bool} {AA:List (qn×(Nat×List (qn×(Int×Int))))} {c:qn} {x:Nat×List (qn×(Int×Int))} (h:getL (qcm f AA) c=some x): ∃ y,getL AA c=some y∧ ∀ n a,getL x.2 n=some a→getL y.2 n=some a∧f c n=false:=by
  rw [getL_strike] at h
  cases e:getL AA c with
  | none=>rw [e] at h;cases h
  | some y=>
    rw [e] at h
    simp only [Option.map_some,Option.some.injEq] at h
    subst h
    refine ⟨y,rfl,fun n a hn=> ?_⟩
    dsimp only at hn
    rw [getL_filterK (fun n=> !f c n)] at hn
    cases hf:f c n with
    | true=>rw [hf] at hn;cases hn
    | false=>rw [hf] at hn;exact ⟨hn,rfl⟩
end
section
open Go.RowKit Go.Maps
theorem before_trans: ∀ {a b c:qn},bytesBefore a b=true→bytesBefore b c=true→bytesBefore a c=true
  | [],[],_,h,_=>by simp [bytesBefore] at h
  | [],_::_,[],_,h=>by simp [bytesBefore] at h
  | [],_::_,_::_,_,_=>by simp [bytesBefore]
  | _::_,[],_,h,_=>by simp [bytesBefore] at h
  | _::_,_::_,[],_,h=>by simp [bytesBefore] at h
  | x::a,y::b,z::c,h,h'=>by
    simp only [bytesBefore,Bool.or_eq_true,Bool.and_eq_true,decide_eq_true_eq,beq_iff_eq] at h h' ⊢
    rcases h with h| ⟨rfl,h⟩
    · rcases h' with h'| ⟨rfl,h'⟩
      · exact .inl (UInt8.lt_trans h h')
      · exact .inl h
    · rcases h' with h'| ⟨rfl,h'⟩
      · exact .inl h'
      · exact .inr ⟨rfl,before_trans h h'⟩
theorem before_total: ∀ (a b:qn),bytesBefore a b=true∨a=b∨bytesBefore b a=true
  | [],[]=> .inr (.inl rfl)
  | [],_::_=> .inl (by simp [bytesBefore])
  | _::_,[]=> .inr (.inr (by simp [bytesBefore]))
  | x::a,y::b=>by
    simp only [bytesBefore,Bool.or_eq_true,Bool.and_eq_true,decide_eq_true_eq,beq_iff_eq,List.cons.injEq]
    by_cases h:x < y
    · exact .inl (.inl h)
    by_cases h':x=y
    · subst h'
      rcases before_total a b with h| h| h
      · exact .inl (.inr ⟨rfl,h⟩)
      · exact .inr (.inl ⟨rfl,h⟩)
      · exact .inr (.inr (.inr ⟨rfl,h⟩))
    · refine .inr (.inr (.inl ?_))
      rw [UInt8.lt_iff_toNat_lt] at h ⊢
      have:x.toNat≠y.toNat:=fun e=>h' (UInt8.toNat_inj.1 e)
      omega
section
variable {α:Type}
theorem sortedL_insL {x:qn×α}: ∀ {L:List (qn×α)},qad L→(∀ p∈L,p.1≠x.1)→qad (insL x L)
  | [],_,_=>by simp [insL,qad]
  | y::r,h,hn=>by
    unfold qad at h ⊢
    rw [List.pairwise_cons] at h
    unfold insL
    by_cases e:bytesBefore x.1 y.1=true
    · rw [if_pos e,List.pairwise_cons,List.pairwise_cons]
      refine ⟨fun z hz=> ?_,h.1,h.2⟩
      rcases List.mem_cons.1 hz with rfl| hz
      · exact e
      · exact before_trans e (h.1 z hz)
    · rw [if_neg e,List.pairwise_cons]
      refine ⟨fun z hz=> ?_,sortedL_insL h.2 fun p hp=>hn p (List.mem_cons_of_mem _ hp)⟩
      rcases mem_insL.1 hz with rfl| hz
      · rcases before_total z.1 y.1 with h'| h'| h'
        · exact absurd h' e
        · exact absurd h'.symm (hn y List.mem_cons_self)
        · exact h'
      · exact h.1 z hz
theorem qco {L:List (qn×α)} (h:qad L) (k:qn):qad (delL L k):=h.filter _
theorem qcn {L:List (qn×α)} (h:qad L) (k:qn) (v:α):qad (putL L k v):=sortedL_insL (qco h k) fun _ hp=>(qd7.1 hp).2
theorem qex: ∀ {L M:List (qn×α)},qad L→qad M→(∀ k,getL L k=getL M k)→L=M
  | [],[],_,_,_=>rfl
  | [],q::s,_,_,h=>by
    have:=h q.1
    simp [getL] at this
  | p::r,[],_,_,h=>by
    have:=h p.1
    simp [getL] at this
  | p::r,q::s,hL,hM,h=>by
    have hL':=hL
    have hM':=hM
    unfold qad at hL' hM'
    rw [List.pairwise_cons] at hL' hM'
    have h1:p∈q::s:=qar (k:=p.1) (v:=p.2) (by rw [← h p.1];exact qac hL.distinct List.mem_cons_self)
    have h2:q∈p::r:=qar (k:=q.1) (v:=q.2) (by rw [h q.1];exact qac hM.distinct List.mem_cons_self)
    have e:p=q:=by
      rcases List.mem_cons.1 h1 with e| h1
      · exact e
      · rcases List.mem_cons.1 h2 with e| h2
        · exact e.symm
        · have:=before_trans (hL'.1 q h2) (hM'.1 p h1)
          rw [qcs] at this
          cases this
    subst e
    congr 1
    refine qex hL'.2 hM'.2 fun k=> ?_
    by_cases e:p.1=k
    · subst e
      rw [qec.2 fun x hx e=> ?_,qec.2 fun x hx e=> ?_]
      · have:=hM'.1 x hx
        rw [e,qcs] at this
        cases this
      · have:=hL'.1 x hx
        rw [e,qcs] at this
        cases this
    · have:=h k
      unfold getL at this
      have e':(p.1==k)=false:=by simpa using e
      rw [e',if_neg (by simp),if_neg (by simp)] at this
      exact this
theorem filter_insL {f:qn×α→Bool} {x:qn×α} (hx:f x=false): ∀ (L:List (qn×α)),(insL x L).filter f=L.filter f
  | []=>by simp [insL,hx]
  | y::r=>by
    unfold insL
    split
    · rw [List.filter_cons,hx]
      simp
    · rw [List.filter_cons,List.filter_cons,filter_insL hx r]
theorem filter_putL {f:qn×α→Bool} {L:List (qn×α)} {k:qn} {v:α} (hn:getL L k=none) (hx:f (k,v)=false):(putL L k v).filter f=L.filter f:=by
  unfold putL
  rw [filter_insL hx,qgj hn]
theorem filter_delL {f:qn×α→Bool} {L:List (qn×α)} (hs:L.Pairwise fun p q=>p.1≠q.1) {k:qn} {v:α} (hk:getL L k=some v) (hx:f (k,v)=false):(delL L k).filter f=L.filter f:=by
  unfold delL
  rw [List.filter_filter]
  apply List.filter_congr
  intro p hp
  by_cases e:p.1=k
  · have h1:=qac hs (k:=p.1) (v:=p.2) hp
    rw [e,hk] at h1
    have:p=(k,v):=Prod.ext e (Option.some.inj h1).symm
    rw [this,hx]
    rfl
  · have:(p.1==k)=false:=by simpa using e
    rw [this]
    simp
end
end
section
open Go.RowKit Go.Maps
theorem Ord.changed {g:Gh} (o:Ord g) (k:qn):Ord (g.changed k):=⟨o.n,o.p,qcn o.f k (),qco o.v k⟩
theorem Ord.lay {g:Gh} (o:Ord g) (k:qn) (q:Nat) (x:qag):Ord (g.layRaw k q x):=⟨o.n,qcn o.p k (q,x),o.f,o.v⟩
theorem Ord.unlay {g:Gh} (o:Ord g) (k:qn):Ord (g.unlay k):=⟨o.n,qco o.p k,o.f,o.v⟩
theorem Ord.forget {g:Gh} (o:Ord g) (k:qn):Ord (g.forget k):=⟨o.n,o.p,o.f,qco o.v k⟩
theorem Ord.put {g:Gh} (o:Ord g) (k:qn) (v:Value) (n:qbb):Ord (g.putRaw k v n):=⟨qcn o.n k (v,n),o.p,o.f,o.v⟩
theorem Ord.confirm {g:Gh} (o:Ord g) (k:qn):Ord (g.confirm k):=⟨o.n,sortedL_keys (by simp [Gh.confirm]) o.p,o.f,o.v⟩
theorem Ord.dropN {g:Gh} (o:Ord g) (k:qn):Ord (g.dropN k):=⟨qco o.n k,o.p.filter _,qco o.f k,qco o.v k⟩
theorem qed {α:Type} {L:List (qn×α)} {k j:qn} {v:α} (h:getL (delL L k) j=some v):j≠k∧getL L j=some v:=by
  by_cases e:j=k
  · subst e
    rw [qdk] at h
    cases h
  · rw [qb0 _ e] at h
    exact ⟨e,h⟩
theorem isSome_putL {α:Type} {L:List (qn×α)} {k j:qn} (v:α) (h:(getL L j).isSome=true):(getL (putL L k v) j).isSome=true:=by
  by_cases e:j=k
  · subst e
    rw [qap]
    rfl
  · rw [qaj _ _ e]
    exact h
theorem qbu.changed {hd hd':Head} {g g1:Gh} (S:qbu hd g) (o:Ord g) (o1:Ord g1) (k:qn) (hk:(getL g.NN k).isSome=true) (hN:g1.NN=g.NN) (hV:g1.VV=g.VV) (hA:g1.AA=g.AA) (hB:Basic hd' g1) (h2: ∀ j,j≠k→qat g1 j=qat g j):qbu hd' (g1.changed k):=by
  have hB':Basic hd' (g1.changed k):=by
    refine ⟨⟨hB.small.pods,hB.small.room,hB.small.need⟩,hB.nn,hB.nk,hB.pk,fun p hp=> ?_,hB.hold,hB.now⟩
    rcases qfp.1 hp with rfl| ⟨hp,_⟩
    · show (getL g1.NN k).isSome=true
      rw [hN]
      exact hk
    · exact hB.fk p hp
  refine ⟨hB',S.l.step o (o1.changed k) (fun j=>j=k) (fun j _=>by show getL g1.NN j=_;rw [hN]) (fun j hj=> ?_) (fun j v hv=> ?_) (fun c x hx=> ?_)⟩
  · have h:=h2 j hj
    refine ⟨by show (qat g1 j).map (·.1)=_;rw [h],?_⟩
    show (onA g1.pods j).map core=_
    rw [← qey,← qey,h]
  · have h:getL (delL g1.VV k) j=some v:=hv
    rw [hV] at h
    exact qed h
  · obtain ⟨y,h1,h3⟩:=qen (f:=fun _ x=>(getL g1.NN x).isSome&&nbrB g1.nodes k x) (AA:=g1.AA) hx
    rw [hA] at h1
    refine ⟨y,h1,fun n a hn=>⟨(h3 n a hn).1,fun hi=> ?_⟩⟩
    have h4:=(h3 n a hn).2
    rw [hN,hi,Bool.true_and] at h4
    have h5:nbrB g1.nodes k n=false:=h4
    have e:g1.nodes=g.nodes:=by unfold Gh.nodes;rw [hN]
    rw [e] at h5
    refine ⟨fun e'=> ?_,fun k' hk'=> ?_⟩
    · rw [e',nbrB_self] at h5
      cases h5
    · subst hk'
      refine ⟨fun _=>h5,fun _=> ?_⟩
      show nbrB g1.nodes k' n=false
      rw [e]
      exact h5
structure LaysOk (hd:Head) (g:Gh) (k:qn) (x:qag):Prop where
  none:getL g.PP k=none
  room:g.PP.length < 128
  key:k.length≤20
  on:(getL g.NN x.node).isSome=true
  need: ∀ y∈ [x.n0,x.n1,x.n2],0≤y∧y≤1099511627776
  since:0≤x.since∧x.since≤hd.now
theorem qbu.lay {hd:Head} {g:Gh} (S:qbu hd g) (o:Ord g) {k:qn} {q:Nat} {x:qag} (h:LaysOk hd g k x):qbu hd ((g.layRaw k q x).changed x.node):=by
  refine S.changed o (o.lay k q x) x.node h.on rfl rfl rfl ?_ fun j hj=> ?_
  · refine ⟨⟨?_,S.b.small.room,fun p hp=> ?_⟩,S.b.nn,S.b.nk,fun p hp=> ?_,S.b.fk,S.b.hold,S.b.now⟩
    · show (putL g.PP k (q,x)).length≤128
      rw [length_putL_none _ h.none]
      exact h.room
    · rcases qfp.1 hp with rfl| ⟨hp,_⟩
      · exact h.need
      · exact S.b.small.need p hp
    · rcases qfp.1 hp with rfl| ⟨hp,_⟩
      · exact ⟨h.key,h.on,h.since.1,h.since.2⟩
      · exact S.b.pk p hp
  · unfold qat Gh.layRaw
    dsimp only
    rw [filter_putL h.none]
    have: ¬ x.node=j:=fun e=>hj e.symm
    simpa using this
theorem Basic.unlay {hd:Head} {g:Gh} (S:Basic hd g) (k:qn):Basic hd (g.unlay k):=
  ⟨⟨Nat.le_trans (qgu _ _) S.small.pods,S.small.room,fun p hp=>S.small.need p (qd7.1 hp).1⟩,S.nn,S.nk,fun p hp=>S.pk p (qd7.1 hp).1,S.fk,S.hold,S.now⟩
theorem qbu.unlay {hd:Head} {g:Gh} (S:qbu hd g) (o:Ord g) {k:qn} {x:Nat×qag} (hx:getL g.PP k=some x):qbu hd ((g.unlay k).changed x.2.node):=by
  refine S.changed o (o.unlay k) x.2.node (S.b.pk _ (qar hx)).2.1 rfl rfl rfl (S.b.unlay k) fun j hj=> ?_
  unfold qat Gh.unlay
  dsimp only
  rw [filter_delL o.p.distinct hx]
  have: ¬ x.2.node=j:=fun e=>hj e.symm
  simpa using this
theorem qbu.drop {hd:Head} {g g':Gh} (S:qbu hd g) (o:Ord g) {k:qn} {e:Int} (h:g.DropTo k e g'):qbu hd g':=by
  rcases h with ⟨_,_,rfl⟩| ⟨x,hx,_,rfl⟩
  · exact S
  · exact S.unlay o hx
theorem qbu.confirm {hd:Head} {g:Gh} (S:qbu hd g) (o:Ord g) (k:qn):qbu hd (g.confirm k):=by
  have hmem: ∀ p∈(g.confirm k).PP,∃ q∈g.PP,p.1=q.1∧p.2.1=q.2.1∧core p.2.2=core q.2.2∧p.2.2.since=q.2.2.since∧p.2.2.node=q.2.2.node∧p.2.2.n0=q.2.2.n0∧p.2.2.n1=q.2.2.n1∧p.2.2.n2=q.2.2.n2:=by
    intro p hp
    obtain ⟨q,hq,rfl⟩:=List.mem_map.1 hp
    refine ⟨q,hq,rfl,rfl,?_⟩
    dsimp only
    split<;>exact ⟨rfl,rfl,rfl,rfl,rfl,rfl⟩
  refine ⟨⟨⟨?_,S.b.small.room,fun p hp=> ?_⟩,S.b.nn,S.b.nk,fun p hp=> ?_,S.b.fk,S.b.hold,S.b.now⟩,S.l.step o (o.confirm k) (fun _=>False) (fun _ _=>rfl) (fun j _=> ?_) (fun j v hv=>⟨id,hv⟩) (fun c x hx=>⟨x,hx,fun n a hn=>⟨hn,fun _=>⟨id,fun _ h=>h.elim⟩⟩⟩)⟩
  · show (List.map _ g.PP).length≤128
    rw [List.length_map]
    exact S.b.small.pods
  · obtain ⟨q,hq,_,_,_,_,_,e1,e2,e3⟩:=hmem p hp
    rw [e1,e2,e3]
    exact S.b.small.need q hq
  · obtain ⟨q,hq,e1,_,_,e2,e3,_⟩:=hmem p hp
    rw [e1,e2,e3]
    exact S.b.pk q hq
  · have e: ∀ L:List (qn×(Nat×qag)),((L.map fun p=>(p.1,(p.2.1,if p.1==k then { p.2.2 with bound:=true } else p.2.2))).filter fun p=>p.2.2.node==j)=(L.filter fun p=>p.2.2.node==j).map fun p=>(p.1,(p.2.1,if p.1==k then { p.2.2 with bound:=true } else p.2.2)):=by
      intro L
      rw [List.filter_map]
      congr 1
      apply List.filter_congr
      intro p _
      show ((if p.1==k then { p.2.2 with bound:=true } else p.2.2:qag).node==j)=(p.2.2.node==j)
      split<;>rfl
    have h1:qat (g.confirm k) j=(g.PP.filter fun p=>p.2.2.node==j).map fun p=>(p.2.1,if p.1==k then { p.2.2 with bound:=true } else p.2.2):=by
      unfold qat Gh.confirm
      dsimp only
      rw [e,List.map_map]
      rfl
    refine ⟨?_,?_⟩
    · rw [h1]
      unfold qat
      rw [List.map_map,List.map_map]
      rfl
    · rw [← qey,← qey,h1]
      unfold qat
      rw [List.map_map,List.map_map,List.map_map,List.map_map]
      apply List.map_congr_left
      intro p _
      show core (if p.1==k then { p.2.2 with bound:=true } else p.2.2)=core p.2.2
      split<;>rfl
theorem Basic.later {hd:Head} {g:Gh} (S:Basic hd g) {n:Int} (hn:tickErr hd n=0):Basic (hd.later n) g:=by
  have h: ¬ (n < 0∨100000 < n∨1099511627776 - hd.now < n):=by
    unfold tickErr at hn
    split at hn
    · cases hn
    · assumption
  have h':=S.now
  refine ⟨S.small,S.nn,S.nk,fun p hp=> ?_,S.fk,S.hold,?_⟩
  · obtain ⟨h1,h2,h3,h4⟩:=S.pk p hp
    refine ⟨h1,h2,h3,?_⟩
    show _≤hd.now+n
    omega
  · show 0≤hd.now+n∧hd.now+n≤1099511627776
    omega
theorem Lifts.sound {hd:Head} {g g':Gh} (h:Lifts hd g g') (S:qbu hd g) (o:Ord g):qbu hd g'∧Ord g':=
  h (fun g=>qbu hd g∧Ord g) ⟨S,o⟩ fun _ _ _ ih hx _=>⟨ih.1.unlay ih.2 hx,(ih.2.unlay _).changed _⟩
theorem qbu.tick {hd hd':Head} {g g':Gh} (S:qbu hd g) (o:Ord g) {n:Int} (h:g.TickTo hd n hd' g'):qbu hd' g':=by
  rcases h with ⟨_,rfl,rfl⟩| ⟨h1,rfl,h2,_⟩
  · exact S
  · exact (h2.sound ⟨S.b.later h1,S.l⟩ o).1
theorem qbu.put {hd:Head} {g:Gh} (S:qbu hd g) (o:Ord g) {k:qn} {v:Value} {n:qbb} (hk:k.length≤20) (hl:(getL g.NN k).isSome=true∨g.NN.length < 32) (hr: ∀ y∈ [n.r0,n.r1,n.r2],0≤y∧y≤1099511627776):qbu hd (((g.forget k).putRaw k v n).changed k):=by
  have o1:Ord (((g.forget k).putRaw k v n).changed k):=((o.forget k).put k v n).changed k
  have hone: ∀ j,j≠k→getL (putL g.NN k (v,n)) j=getL g.NN j:=fun j hj=>qaj _ _ hj
  refine ⟨⟨⟨S.b.small.pods,fun p hp=> ?_,S.b.small.need⟩,?_,fun p hp=> ?_,fun p hp=> ?_,fun p hp=> ?_,S.b.hold,S.b.now⟩,S.l.step o o1 (fun j=>j=k) hone (fun j _=>⟨rfl,rfl⟩) (fun j u hu=> ?_) (fun c x hx=> ?_)⟩
  · rcases qfp.1 hp with rfl| ⟨hp,_⟩
    · exact hr
    · exact S.b.small.room p hp
  · show (putL g.NN k (v,n)).length≤32
    rcases hl with hl| hl
    · rw [length_putL_some o.n.distinct _ hl]
      exact S.b.nn
    · have:=qdj g.NN k (v,n)
      omega
  · rcases qfp.1 hp with rfl| ⟨hp,_⟩
    · exact hk
    · exact S.b.nk p hp
  · obtain ⟨h1,h2,h3⟩:=S.b.pk p hp
    exact ⟨h1,isSome_putL _ h2,h3⟩
  · show (getL (putL g.NN k (v,n)) p.1).isSome=true
    rcases qfp.1 hp with rfl| ⟨hp,_⟩
    · rw [qap];rfl
    · exact isSome_putL _ (S.b.fk p hp)
  · have h:getL (delL (delL g.VV k) k) j=some u:=hu
    exact ⟨(qed h).1,(qed (qed h).2).2⟩
  · obtain ⟨y,h1,h3⟩:=qen (f:=fun _ m=>(getL (putL g.NN k (v,n)) m).isSome&&nbrB (((g.forget k).putRaw k v n).changed k).nodes k m) (AA:=qcm (fun _ x=>(getL g.NN x).isSome&&nbrB g.nodes k x) g.AA) hx
    obtain ⟨z,h1',h3'⟩:=qen h1
    refine ⟨z,h1',fun m a hm=> ?_⟩
    obtain ⟨q1,q2⟩:=h3 m a hm
    obtain ⟨q3,q4⟩:=h3' m a q1
    refine ⟨q3,fun hi=> ?_⟩
    rw [hi,Bool.true_and] at q4
    have hi':(getL (putL g.NN k (v,n)) m).isSome=true:=isSome_putL _ hi
    have q2':((getL (putL g.NN k (v,n)) m).isSome&&nbrB (((g.forget k).putRaw k v n).changed k).nodes k m)=false:=q2
    rw [hi',Bool.true_and] at q2'
    refine ⟨fun e=> ?_,fun k' hk'=> ?_⟩
    · rw [e,nbrB_self] at q4
      cases q4
    · subst hk'
      exact ⟨fun _=>q4,fun _=>q2'⟩
theorem qbu.dropN {hd:Head} {g:Gh} (S:qbu hd g) (o:Ord g) (k:qn) (hk:(getL g.NN k).isSome=true):qbu hd (g.dropN k):=by
  have hne: ∀ j,j≠k→getL (delL g.NN k) j=getL g.NN j:=fun j hj=>qb0 _ hj
  refine ⟨⟨⟨?_,fun p hp=>S.b.small.room p (qd7.1 hp).1,fun p hp=>S.b.small.need p (List.mem_filter.1 hp).1⟩,?_,fun p hp=>S.b.nk p (qd7.1 hp).1,fun p hp=> ?_,fun p hp=> ?_,S.b.hold,S.b.now⟩,S.l.step o (o.dropN k) (fun j=>j=k) hne (fun j hj=> ?_) (fun j u hu=> ?_) (fun c x hx=> ?_)⟩
  · exact Nat.le_trans (List.length_filter_le _ _) S.b.small.pods
  · exact Nat.le_trans (qgu _ _) S.b.nn
  · obtain ⟨h1,h2⟩:=List.mem_filter.1 hp
    obtain ⟨q1,q2,q3⟩:=S.b.pk p h1
    have hn:p.2.2.node≠k:=by simpa using h2
    exact ⟨q1,by show (getL (delL g.NN k) _).isSome=true;rw [hne _ hn];exact q2,q3⟩
  · obtain ⟨h1,h2⟩:=qd7.1 hp
    show (getL (delL g.NN k) p.1).isSome=true
    rw [hne _ h2]
    exact S.b.fk p h1
  · have h:qat (g.dropN k) j=qat g j:=by
      unfold qat Gh.dropN Gh.forget
      dsimp only
      rw [List.filter_filter]
      congr 1
      apply List.filter_congr
      intro p _
      by_cases e:p.2.2.node=j
      · have: ¬ p.2.2.node=k:=fun e'=>hj (e.symm.trans e')
        simp [e,hj]
      · simp [e]
    exact ⟨by rw [h],by rw [← qey,← qey,h]⟩
  · have h:getL (delL g.VV k) j=some u:=hu
    exact qed h
  · obtain ⟨y,h1,h3⟩:=qen (f:=fun _ m=>(getL g.NN m).isSome&&nbrB g.nodes k m) (AA:=g.AA) hx
    refine ⟨y,h1,fun m a hm=> ?_⟩
    obtain ⟨q1,q2⟩:=h3 m a hm
    refine ⟨q1,fun hi=> ?_⟩
    have q2':((getL g.NN m).isSome&&nbrB g.nodes k m)=false:=q2
    rw [hi,Bool.true_and] at q2'
    refine ⟨fun e=> ?_,fun k' hk'=> ?_⟩
    · rw [e,nbrB_self] at q2'
      cases q2'
    · subst hk'
      refine ⟨fun _=>q2',fun h=> ?_⟩
      have h':(getL (delL g.NN k') k').isSome=true:=h
      rw [qdk] at h'
      cases h'
theorem qbu.look {hd:Head} {g:Gh} (S:qbu hd g) {VV:List (qn×qba)} (hV:ViewsOk { g with VV:=VV }) (hk: ∀ k v,getL VV k=some v→(getL g.NN k).isSome=true∨(getL g.VV k).isSome=true):qbu hd { g with VV:=VV }:=by
  refine ⟨S.b.of_eq rfl rfl rfl,fun k v h=> ?_,hV,S.l.ak,S.l.ans⟩
  rcases hk k v h with h1| h1
  · exact h1
  · cases e:getL g.VV k with
    | none=>rw [e] at h1;cases h1
    | some u=>exact S.l.vk k u e
theorem qbu.known {hd:Head} {g:Gh} (S:qbu hd g) {AA:List (qn×(Nat×List (qn×(Int×Int))))} (h: ∀ c x,getL AA c=some x→x.2= []∨getL g.AA c=some x):qbu hd { g with AA:=AA }:=by
  refine ⟨S.b.of_eq rfl rfl rfl,S.l.vk,fun k v h=>⟨(S.l.views k v h).ptrs,(S.l.views k v h).used⟩,fun c x hx n a hn=> ?_,fun c x hx n a hn=> ?_⟩
  · rcases h c x hx with h1| h1
    · rw [h1] at hn;cases hn
    · exact S.l.ak c x h1 n a hn
  · rcases h c x hx with h1| h1
    · rw [h1] at hn;cases hn
    · exact S.l.ans c x h1 n a hn
theorem getL_setInner (AA:List (qn×(Nat×List (qn×(Int×Int))))) (kv:qn) (l:List (qn×(Int×Int))) (c:qn):getL (qda AA kv l) c=(getL AA c).map fun x=>(x.1,if c==kv then l else x.2):=
  getL_map2 (fun (c:qn) (x:Nat×List (qn×(Int×Int)))=>(x.1,if c==kv then l else x.2)) AA c
theorem qbu.noted {hd:Head} {g:Gh} (S:qbu hd g) {rem:Bool} {v:PodV} (hf:v.Fine) {l:List (qn×(Int×Int))} (hl:rem=true→ ∃ b,getL g.AA (qd8 v)=some (b,l)) {n:qn} {a:Int×Int} (hn: ∀ nd,getL g.NN n=some nd→a=qbk g.nodes g.pods n nd.2 v) (hi:(getL g.NN n).isSome=true):qbu hd (g.noted rem (qd8 v) (putL l n a)):=by
  unfold Gh.noted
  cases rem with
  | false=>exact S
  | true=>
    obtain ⟨b,hb⟩:=hl rfl
    have hp: ∀ c x,getL (qda g.AA (qd8 v) (putL l n a)) c=some x→ ∃ y,getL g.AA c=some y∧ ∀ m u,getL x.2 m=some u→getL y.2 m=some u∨(c=qd8 v∧m=n∧u=a):=by
      intro c x hx
      rw [getL_setInner] at hx
      by_cases e:c=qd8 v
      · subst e
        rw [hb] at hx
        simp only [Option.map_some,beq_self_eq_true,if_true,Option.some.injEq] at hx
        subst hx
        refine ⟨_,hb,fun m u hm=> ?_⟩
        by_cases e:m=n
        · subst e
          dsimp only at hm
          rw [qap] at hm
          exact .inr ⟨rfl,rfl,(Option.some.inj hm).symm⟩
        · dsimp only at hm
          rw [qaj _ _ e] at hm
          exact .inl hm
      · have e':(c==qd8 v)=false:=by simpa using e
        cases ey:getL g.AA c with
        | none=>rw [ey] at hx;cases hx
        | some y=>
          rw [ey,e'] at hx
          simp only [Option.map_some,Bool.false_eq_true,if_false,Option.some.injEq] at hx
          subst hx
          exact ⟨y,rfl,fun m u hm=> .inl hm⟩
    refine ⟨S.b.of_eq rfl rfl rfl,S.l.vk,fun k v h=>⟨(S.l.views k v h).ptrs,(S.l.views k v h).used⟩,fun c x hx m u hm=> ?_,fun c x hx m u hm v' hf' hc nd hnd=> ?_⟩
    · obtain ⟨y,h1,h2⟩:=hp c x hx
      rcases h2 m u hm with h3| ⟨_,rfl,_⟩
      · exact S.l.ak c y h1 m u h3
      · exact hi
    · obtain ⟨y,h1,h2⟩:=hp c x hx
      rcases h2 m u hm with h3| ⟨e1,rfl,rfl⟩
      · exact S.l.ans c y h1 m u h3 v' hf' hc nd hnd
      · have:v'=v:=kindV_inj hf' hf (hc.trans e1)
        subst this
        exact hn nd hnd
theorem qbu.clearF {hd:Head} {g:Gh} (S:qbu hd g):qbu hd { g with FF:= [] }:=
  ⟨⟨⟨S.b.small.pods,S.b.small.room,S.b.small.need⟩,S.b.nn,S.b.nk,S.b.pk,fun p hp=>by simp at hp,S.b.hold,S.b.now⟩,S.l.vk,fun k v h=>⟨(S.l.views k v h).ptrs,(S.l.views k v h).used⟩,S.l.ak,S.l.ans⟩
end
end Go.Proofs.YtchddaafibjmgaaGreat
