import Derived.Test.YtchddaafibjmgaaGreatMA14
set_option maxRecDepth 100000
set_option maxHeartbeats 20000000
namespace Go.Proofs.YtchddaafibjmgaaGreat
section
open Go.RowKit Go.Maps
def Gh.noted (g:Gh) (rem:Bool) (kv:qn) (l:List (qn×(Int×Int))):Gh:=if rem then { g with AA:=qda g.AA kv l } else g
structure qgy (F:Nat→Prop) (w:World) (Y:Nat) (hd:Head) (g:Gh) (kv:qn) (bk:Nat) (l:List (qn×(Int×Int))):Prop where
  mem:BMem F w Y hd g
  map:qai Tryz.prog w 9 bk (mapV ansV l)
  lies:(hd.rem=true∧getL g.AA kv=some (bk,l))∨(hd.rem=false∧ ¬ F bk)
theorem setInner_get {AA:List (qn×(Nat×List (qn×(Int×Int))))} {kv:qn} {bk:Nat} {l l':List (qn×(Int×Int))} (h:getL AA kv=some (bk,l)):getL (qda AA kv l') kv=some (bk,l'):=by
  induction AA with
  | nil=>simp [getL] at h
  | cons p r ih=>
    unfold getL at h
    unfold qda
    rw [List.map_cons]
    unfold getL
    by_cases e:p.1==kv
    · rw [if_pos e] at h
      simp only [Option.some.injEq] at h
      simp only [e,if_true]
      rw [h]
    · rw [if_neg e] at h
      simp only [e,Bool.false_eq_true,if_false]
      exact ih h
section
variable {F:Nat→Prop} {w w':World} {Y:Nat} {hd:Head} {g:Gh} {kv:qn} {bk:Nat} {l:List (qn×(Int×Int))}
theorem qgy.note (H:qgy F w Y hd g kv bk l) {key:Value} {k:qn} (hkey:keyOf Tryz.prog 9 key=some (.string k)) (hl:l.length < maxLen) (a:Int×Int):
    ∃ w',(Instr.mapUpdate 159 (.map (some bk)) key (ansV a)).run Tryz.prog w= .ok () w'∧qgy F w' Y hd (g.noted hd.rem kv (putL l k a)) kv bk (putL l k a)∧Kept (fun b=>b=bk) w w':=by
  obtain ⟨w',hr,hm,ht⟩:=H.map.store (val:=ansV a) strK Tryz.underlying159 (by rw [qw];exact hl) hkey
  rw [qds ansV] at hm
  have hk:=Kept.turned ht
  refine ⟨w',hr,?_,hk⟩
  rcases H.lies with ⟨h1,h2⟩| ⟨h1,h2⟩
  · have hB:=H.mem.setI (k:=kv) (x:=(bk,l)) (qar h2) H.mem.distA hk hm
    refine ⟨?_,hm,.inl ⟨h1,?_⟩⟩
    · unfold Gh.noted
      rw [h1]
      exact hB
    · unfold Gh.noted
      rw [h1]
      exact setInner_get h2
  · refine ⟨?_,hm,.inr ⟨h1,h2⟩⟩
    unfold Gh.noted
    rw [h1]
    exact H.mem.kept hk (fun b hb e=>h2 (e▸hb)) (fun _ h=>h) fun b hb=>Nat.lt_of_lt_of_le (H.mem.lt b hb) hk.size
theorem qgy.below (H:qgy F w Y hd g kv bk l) (hb:Below w.heap.size w w'):qgy F w' Y hd g kv bk l:=⟨H.mem.below hb,H.map.kept (Kept.of_below (F:=qq) hb) id,H.lies⟩
theorem noted_parts (rem:Bool):(g.noted rem kv l).NN=g.NN∧(g.noted rem kv l).PP=g.PP∧(g.noted rem kv l).VV=g.VV∧(g.noted rem kv l).FF=g.FF∧(g.noted rem kv l).bn=g.bn∧(g.noted rem kv l).bp=g.bp∧(g.noted rem kv l).bf=g.bf∧(g.noted rem kv l).bv=g.bv∧(g.noted rem kv l).ba=g.ba:=by
  cases rem<;>exact ⟨rfl,rfl,rfl,rfl,rfl,rfl,rfl,rfl,rfl⟩
end
end
section
open Go.RowKit Go.Maps
structure KnownTo (F:Nat→Prop) (w w':World) (Y:Nat) (hd:Head) (g:Gh) (kv:qn) (bk:Nat) (l:List (qn×(Int×Int))) (F':Nat→Prop) (AA:List (qn×(Nat×List (qn×(Int×Int))))):Prop where
  at_:qgy F' w' Y hd { g with AA:=AA } kv bk l
  from_:l= []∨ ∃ x,getL g.AA kv=some x∧l=x.2
  rest: ∀ k x,getL AA k=some x→x.2= []∨getL g.AA k=some x
  more: ∀ b,F b→F' b
  less: ∀ b,F' b→grow F w w' b
  kept:Kept (fun z=>z=g.ba) w w'
  new:w.heap.size≤bk∨ ∃ x,getL g.AA kv=some x∧bk=x.1
theorem known_any {F:Nat→Prop} {w:World} {Y:Nat} {hd:Head} {g:Gh} (H:BMem F w Y hd g) (p:PodD) (hok:p.ok w) (hf:p.val.Fine):
    Calls Tryz.prog 85 #[.pointer (some ⟨Y,0,none⟩),.agg p.cells] w fun e w'=> ∃ bk l F' AA,e= .returned (.map (some bk))∧KnownTo F w w' Y hd g (qd8 p.val) bk l F' AA:=by
  cases hr:hd.rem with
  | false=>
    refine (known_no H hr p).mono ?_
    rintro e w' ⟨b,he,hb,hM,hbw⟩
    refine ⟨b,[],F,g.AA,he,⟨H.below hbw,hM,.inr ⟨hr,fun h=>by have:=H.lt b h;omega⟩⟩,.inl rfl,fun k x hx=> .inr hx,fun _ h=>h,fun _ h=> .inl h,Kept.of_below hbw,.inl hb⟩
  | true=>
    cases hx:getL g.AA (qd8 p.val) with
    | some x=>
      refine (known_there H hr p hok hf hx).mono ?_
      rintro e w' ⟨he,hbw⟩
      refine ⟨x.1,x.2,F,g.AA,he,⟨H.below hbw,(H.below hbw).aa _ (qar hx),.inl ⟨hr,hx⟩⟩,.inr ⟨x,hx,rfl⟩,fun k y hy=> .inr hy,fun _ h=>h,fun _ h=> .inl h,Kept.of_below hbw,.inr ⟨x,hx,rfl⟩⟩
    | none=>
      by_cases hA:g.AA.length < 128
      · refine (known_new H hr p hok hf hx hA).mono ?_
        rintro e w' ⟨b,he,hb,hB,hk⟩
        have hg:getL (putL g.AA (qd8 p.val) (b,[])) (qd8 p.val)=some (b,[]):=qap _ _ _
        refine ⟨b,[],grow F w w',_,he,⟨hB,hB.aa _ (qar hg),.inl ⟨hr,hg⟩⟩,.inl rfl,fun k x hx'=> ?_,fun _ h=> .inl h,fun _ h=>h,hk,.inl hb⟩
        by_cases e:k=qd8 p.val
        · subst e
          rw [hg] at hx'
          cases hx'
          exact .inl rfl
        · rw [qaj _ _ e] at hx'
          exact .inr hx'
      · refine (known_full H hr p hok hf hx (by omega)).mono ?_
        rintro e w' ⟨b,he,hb,hB,hk⟩
        have hg:getL (putL ([]:List (qn×(Nat×List (qn×(Int×Int))))) (qd8 p.val) (b,[])) (qd8 p.val)=some (b,[]):=qap _ _ _
        refine ⟨b,[],grow F w w',_,he,⟨hB,hB.aa _ (qar hg),.inl ⟨hr,hg⟩⟩,.inl rfl,fun k x hx'=> ?_,fun _ h=> .inl h,fun _ h=>h,hk,.inl hb⟩
        by_cases e:k=qd8 p.val
        · subst e
          rw [hg] at hx'
          cases hx'
          exact .inl rfl
        · rw [qaj _ _ e] at hx'
          cases hx'
end
section
open Go.RowKit Go.Maps
def onA (P:List (qn×qag)) (k:qn):List qag:=(P.filter fun p=>p.2.node==k).map (·.2)
def nearA (N:List (qn×qbb)) (P:List (qn×qag)) (k:qn) (f:qag→Bool):Bool:=N.any fun p=>nbrB N k p.1&&(onA P p.1).any f
def whyA (N:List (qn×qbb)) (P:List (qn×qag)) (k:qn) (n:qbb) (v:PodV):Int:=
  if qbg n.r0 n.r1 n.r2 (qt P k).1 (qt P k).2.1 (qt P k).2.2 v.n0 v.n1 v.n2 then 1 else if !(v.port==0)&&(onA P k).any (fun q=>q.port==v.port) then 2 else if !qae v.select n.labels then 3 else if !qae n.taints v.bears then 4
  else if decide (0 < v.near.length)&& !nearA N P k (fun q=>qae v.near q.labels) then 5 else if nearA N P k (fun q=>qbv v.apart q.labels || qbv q.apart v.labels) then 6 else 0
def qbk (N:List (qn×qbb)) (P:List (qn×qag)) (k:qn) (n:qbb) (v:PodV):Int×Int:=
  if whyA N P k n v=0 then (0,scoreI n.r0 n.r1 n.r2 (qt P k).1 (qt P k).2.1 (qt P k).2.2 v.n0 v.n1 v.n2) else (whyA N P k n v,0)
theorem qey (g:Gh) (k:qn):(qat g k).map (·.2)=onA g.pods k:=by
  unfold qat onA Gh.pods mapV
  rw [List.filter_map,List.map_map,List.map_map]
  rfl
theorem podsAt_any (g:Gh) (k:qn) (f:qag→Bool):(qat g k).any (fun q=>f q.2)=(onA g.pods k).any f:=by
  rw [← qey,List.any_map]
  rfl
theorem nearAny_eq (g:Gh) (k:qn) (f:qag→Bool):qbm g k (fun q=>f q.2)=nearA g.nodes g.pods k f:=by
  unfold qbm nearA
  conv=>rhs;rw [show g.nodes.any=(mapV (·.2) g.NN).any from rfl]
  unfold mapV
  rw [List.any_map]
  congr 1
  funext p
  rw [podsAt_any]
  rfl
theorem answerG_eq (g:Gh) (k:qn) (n:qbb) (v:PodV):answerG g k n v=qbk g.nodes g.pods k n v:=by
  have h:whyG g k n (qt g.pods k) v=whyA g.nodes g.pods k n v:=by
    unfold whyG whyA
    rw [podsAt_any g k (fun q=>q.port==v.port),nearAny_eq g k (fun q=>qae v.near q.labels),nearAny_eq g k (fun q=>qbv v.apart q.labels || qbv q.apart v.labels)]
  unfold answerG qbk
  rw [h]
def core (x:qag):qag:= { x with bound:=false,since:=0 }
def sumA:List qag→Int×Int×Int
  | []=>(0,0,0)
  | x::r=>((sumA r).1+x.n0,(sumA r).2.1+x.n1,(sumA r).2.2+x.n2)
theorem usedOf_sum (P:List (qn×qag)) (k:qn):qt P k=sumA (onA P k):=by
  induction P with
  | nil=>rfl
  | cons p r ih=>
    unfold qt onA
    rw [List.filter_cons]
    by_cases e:p.2.node==k
    · rw [if_pos e,if_pos e,List.map_cons]
      unfold sumA
      rw [ih]
      rfl
    · rw [if_neg e,if_neg e,ih]
      rfl
theorem sumA_core (l:List qag):sumA (l.map core)=sumA l:=by
  induction l with
  | nil=>rfl
  | cons x r ih=>rw [List.map_cons];unfold sumA;rw [ih];rfl
theorem any_core {l:List qag} {f:qag→Bool} (hf: ∀ x,f (core x)=f x):(l.map core).any f=l.any f:=by
  rw [List.any_map]
  congr 1
  funext x
  exact hf x
def Alike (B:qn→Prop) (N:List (qn×qbb)) (P:List (qn×qag)) (N':List (qn×qbb)) (P':List (qn×qag)):Prop:= ∀ j,¬ B j→getL N' j=getL N j∧(onA P' j).map core=(onA P j).map core
theorem nbrB_comm (N:List (qn×qbb)) (a b:qn):nbrB N a b=nbrB N b a:=by
  unfold nbrB
  rw [Bool.eq_iff_iff]
  simp only [Bool.or_eq_true,Bool.and_eq_true,beq_iff_eq,Bool.not_eq_true']
  constructor
  · rintro (h| ⟨h1,h2⟩)
    · exact .inl h.symm
    · exact .inr ⟨by rw [← h2];exact h1,h2.symm⟩
  · rintro (h| ⟨h1,h2⟩)
    · exact .inl h.symm
    · exact .inr ⟨by rw [← h2];exact h1,h2.symm⟩
theorem nbrB_self (N:List (qn×qbb)) (a:qn):nbrB N a a=true:=by unfold nbrB;simp
theorem nearA_iff {N:List (qn×qbb)} (hs:N.Pairwise fun p q=>p.1≠q.1) (P:List (qn×qag)) (k:qn) (f:qag→Bool):nearA N P k f=true↔ ∃ j n,getL N j=some n∧nbrB N k j=true∧(onA P j).any f=true:=by
  unfold nearA
  rw [List.any_eq_true]
  constructor
  · rintro ⟨p,hp,h⟩
    rw [Bool.and_eq_true] at h
    exact ⟨p.1,p.2,qac hs hp,h.1,h.2⟩
  · rintro ⟨j,n,h1,h2,h3⟩
    exact ⟨(j,n),qar h1,by rw [Bool.and_eq_true];exact ⟨h2,h3⟩⟩
section
variable {B:qn→Prop} {N N':List (qn×qbb)} {P P':List (qn×qag)}
theorem Alike.nbr (h:Alike B N P N' P') {i j:qn} (hi: ¬ B i) (hj: ¬ B j):nbrB N' i j=nbrB N i j:=by
  unfold nbrB zoneAt
  rw [(h i hi).1,(h j hj).1]
theorem Alike.used (h:Alike B N P N' P') {j:qn} (hj: ¬ B j):qt P' j=qt P j:=by
  rw [usedOf_sum,usedOf_sum,← sumA_core,(h j hj).2,sumA_core]
theorem Alike.any (h:Alike B N P N' P') {j:qn} (hj: ¬ B j) {f:qag→Bool} (hf: ∀ x,f (core x)=f x):(onA P' j).any f=(onA P j).any f:=by
  rw [← any_core hf,(h j hj).2,any_core hf]
theorem Alike.near (h:Alike B N P N' P') (hs:N.Pairwise fun p q=>p.1≠q.1) (hs':N'.Pairwise fun p q=>p.1≠q.1) {k:qn} (hk: ¬ B k) (h1: ∀ j n,B j→getL N j=some n→nbrB N k j=false) (h2: ∀ j n,B j→getL N' j=some n→nbrB N' k j=false) {f:qag→Bool} (hf: ∀ x,f (core x)=f x):
    nearA N' P' k f=nearA N P k f:=by
  rw [Bool.eq_iff_iff,nearA_iff hs',nearA_iff hs]
  constructor
  · rintro ⟨j,n,g1,g2,g3⟩
    by_cases hj:B j
    · rw [h2 j n hj g1] at g2;cases g2
    · exact ⟨j,n,by rw [← (h j hj).1];exact g1,by rw [← h.nbr hk hj];exact g2,by rw [← h.any hj hf];exact g3⟩
  · rintro ⟨j,n,g1,g2,g3⟩
    by_cases hj:B j
    · rw [h1 j n hj g1] at g2;cases g2
    · exact ⟨j,n,by rw [(h j hj).1];exact g1,by rw [h.nbr hk hj];exact g2,by rw [h.any hj hf];exact g3⟩
theorem Alike.answer (h:Alike B N P N' P') (hs:N.Pairwise fun p q=>p.1≠q.1) (hs':N'.Pairwise fun p q=>p.1≠q.1) {k:qn} (hk: ¬ B k) (h1: ∀ j n,B j→getL N j=some n→nbrB N k j=false) (h2: ∀ j n,B j→getL N' j=some n→nbrB N' k j=false) (n:qbb) (v:PodV):
    qbk N' P' k n v=qbk N P k n v:=by
  have hw:whyA N' P' k n v=whyA N P k n v:=by
    unfold whyA
    rw [h.used hk,h.any hk (f:=fun q=>q.port==v.port) (fun _=>rfl),h.near hs hs' hk h1 h2 (f:=fun q=>qae v.near q.labels) (fun _=>rfl),h.near hs hs' hk h1 h2 (f:=fun q=>qbv v.apart q.labels || qbv q.apart v.labels) (fun _=>rfl)]
  unfold qbk
  rw [hw,h.used hk]
end
theorem qe9 {α β:Type}: ∀ (L:List (qn×α)),L.Pairwise (fun p q=>p.1≠q.1)→ ∀ (M:List (qn×β)),M.Pairwise (fun p q=>p.1≠q.1)→(∀ p∈L,(getL M p.1).isSome=true)→L.length≤M.length
  | [],_,_,_,_=>by simp
  | p::r,hL,M,hM,h=>by
    rw [List.pairwise_cons] at hL
    have h1:=length_delL hM (h p List.mem_cons_self)
    have h2:=qe9 r hL.2 (delL M p.1) (List.Pairwise.filter _ hM) (fun q hq=>by rw [qb0 _ (Ne.symm (hL.1 q hq))];exact h q (List.mem_cons_of_mem _ hq))
    rw [List.length_cons]
    omega
end
end Go.Proofs.YtchddaafibjmgaaGreat
