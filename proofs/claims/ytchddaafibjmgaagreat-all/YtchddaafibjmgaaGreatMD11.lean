import Derived.Test.YtchddaafibjmgaaGreatMD7
import Derived.Test.YtchddaafibjmgaaGreatMD5
import Derived.Test.YtchddaafibjmgaaGreatMD6
import Derived.Test.YtchddaafibjmgaaGreatMD4
import Derived.Test.YtchddaafibjmgaaGreatMA18
import Derived.Test.YtchddaafibjmgaaGreatMD8
set_option maxRecDepth 100000
set_option maxHeartbeats 20000000
namespace Go.Proofs.YtchddaafibjmgaaGreat
section
open Go.RowKit Go.Maps
def qax.v (x:qax):qag:=⟨x.p.n0,x.p.n1,x.p.n2,x.p.port,x.p.labels.L,x.p.apart.L,ky x.node,x.bound,x.since⟩
def qg3 (n:qu):qn×qbb:=(ky n.name,n.val)
def podP (x:qax):qn×qag:=(ky x.p.name,x.v)
def RefD.N (st:RefD):List (qn×qbb):=st.nodes.map qg3
def RefD.P (st:RefD):List (qn×qag):=st.pods.map podP
def RefD.F (st:RefD):List (qn×Unit):=(st.nodes.filter fun n=>qbn st.touched n.name).map fun n=>(ky n.name,())
def RefD.W (st:RefD):List (ByteArray×PodV):=st.waiting.map fun p=>(p.name,p.val)
def RefD.abs (st:RefD):Abs:=⟨st.hold,st.now,st.N,st.P,st.F,st.W⟩
theorem bytesLess_eq: ∀ a b:List UInt8,Op.bytesLess a b=bytesBefore a b
 | _,[]=>by cases ‹List UInt8› <;>rfl
 | [],_::_=>rfl
 | a::x,b::y=>by
  simp only [Op.bytesLess,bytesBefore,bytesLess_eq x y]
theorem beq_ky (s t:ByteArray):(s.toList==t.toList)=(ky s==ky t):=by rw [qfx,qfx]
section
variable {α β:Type} (key:α→ByteArray) (v:α→β)
theorem getL_idx_none: ∀ (l:List α) (s:ByteArray),qan (l.map key) s=none→getL (l.map fun x=>(ky (key x),v x)) (ky s)=none
 | [],_,_=>rfl
 | x::r,s,h=>by
  unfold qan at h
  rw [List.map_cons,List.findIdx?_cons] at h
  by_cases e:((key x).toList==s.toList)=true
  ·rw [if_pos e] at h;cases h
  ·rw [if_neg e] at h
   have h':qan (r.map key) s=none:=by
    unfold qan
    simpa using h
   rw [List.map_cons]
   unfold getL
   rw [beq_ky] at e
   rw [if_neg e]
   exact getL_idx_none r s h'
theorem qde: ∀ (l:List α) (s:ByteArray) (i:Nat),qan (l.map key) s=some i→ ∃ h:i < l.length,ky (key l[i])=ky s∧getL (l.map fun x=>(ky (key x),v x)) (ky s)=some (v l[i])
 | [],s,i,h=>by simp [qan] at h
 | x::r,s,i,h=>by
  unfold qan at h
  rw [List.map_cons,List.findIdx?_cons] at h
  by_cases e:((key x).toList==s.toList)=true
  ·rw [if_pos e] at h
   cases h
   rw [beq_ky] at e
   refine ⟨by simp,by simpa using e,?_⟩
   rw [List.map_cons]
   unfold getL
   rw [if_pos e]
   rfl
  ·rw [if_neg e] at h
   obtain ⟨j,hj,rfl⟩:=Option.map_eq_some_iff.1 h
   obtain ⟨h1,h2,h3⟩:=qde r s j (by unfold qan;exact hj)
   refine ⟨by simp;omega,h2,?_⟩
   rw [List.map_cons]
   unfold getL
   rw [beq_ky] at e
   rw [if_neg e]
   exact h3
theorem getL_idx_isSome (l:List α) (s:ByteArray):(qan (l.map key) s).isSome=(getL (l.map fun x=>(ky (key x),v x)) (ky s)).isSome:=by
 cases h:qan (l.map key) s with
 | none=>rw [getL_idx_none key v l s h];rfl
 | some i=>rw [(qde key v l s i h).2.2];rfl
theorem insKey_map (x:α): ∀ l:List α,(qb8 key x l).map (fun x=>(ky (key x),v x))=insL (ky (key x),v x) (l.map fun x=>(ky (key x),v x))
 | []=>rfl
 | y::r=>by
  unfold qb8
  rw [List.map_cons]
  unfold insL
  have e:ltB (key x) (key y)=bytesBefore (ky (key x)) (ky (key y)):=by unfold ltB;rw [bytesLess_eq,qfx,qfx]
  rw [e]
  split
  ·rfl
  ·rw [List.map_cons,insKey_map x r]
theorem insKey_put (x:α) (l:List α) (h:getL (l.map fun x=>(ky (key x),v x)) (ky (key x))=none):(qb8 key x l).map (fun x=>(ky (key x),v x))=putL (l.map fun x=>(ky (key x),v x)) (ky (key x)) (v x):=by
 rw [insKey_map]
 unfold putL
 rw [qgj h]
theorem set_put: ∀ (l:List α) (i:Nat) (x:α) (hi:i < l.length),qad (l.map fun x=>(ky (key x),v x))→ky (key l[i])=ky (key x)→(l.set i x).map (fun x=>(ky (key x),v x))=putL (l.map fun x=>(ky (key x),v x)) (ky (key x)) (v x):=by
 intro l i x hi hs hk
 have hkeys:(l.set i x).map (fun x=>ky (key x))=l.map fun x=>ky (key x):=by
  apply List.ext_getElem
  ·simp
  ·intro j h1 h2
   simp only [List.getElem_map,List.getElem_set]
   split
   ·rename_i e;subst e;exact hk.symm
   ·rfl
 have hs':qad ((l.set i x).map fun x=>(ky (key x),v x)):=by
  unfold qad at hs ⊢
  have h1:((l.map fun x=>(ky (key x),v x)).map (·.1)).Pairwise fun p q=>bytesBefore p q=true:=List.pairwise_map.2 hs
  have h2:((l.set i x).map fun x=>(ky (key x),v x)).map (·.1)=(l.map fun x=>(ky (key x),v x)).map (·.1):=by
   rw [List.map_map,List.map_map]
   exact hkeys
  rw [← h2] at h1
  exact List.pairwise_map.1 h1
 refine qex hs' (qcn hs _ _) fun j=> ?_
 by_cases e:j=ky (key x)
 ·subst e
  rw [qap]
  refine qac hs'.distinct ?_
  exact List.mem_map.2 ⟨x,List.mem_set hi x,rfl⟩
 ·rw [qaj _ _ e]
  cases h:getL (l.map fun x=>(ky (key x),v x)) j with
  | none=>
   rw [qec] at h ⊢
   intro p hp
   obtain ⟨y,hy,rfl⟩:=List.mem_map.1 hp
   rcases List.mem_or_eq_of_mem_set hy with hy| rfl
   ·exact h _ (List.mem_map.2 ⟨y,hy,rfl⟩)
   ·exact Ne.symm e
  | some u=>
   have hm:=qar h
   obtain ⟨y,hy,hy2⟩:=List.mem_map.1 hm
   obtain ⟨q,hq,rfl⟩:=List.getElem_of_mem hy
   simp only [Prod.mk.injEq] at hy2
   refine qac hs'.distinct (List.mem_map.2 ⟨l[q],?_,by rw [hy2.1,hy2.2]⟩)
   have hne:i≠q:=fun e'=>by subst e';exact e (by rw [← hy2.1,hk])
   rw [List.mem_iff_getElem]
   exact ⟨q,by simpa using hq,by rw [List.getElem_set_ne hne]⟩
theorem erase_del: ∀ (l:List α) (i:Nat) (hi:i < l.length),qad (l.map fun x=>(ky (key x),v x))→(l.eraseIdx i).map (fun x=>(ky (key x),v x))=delL (l.map fun x=>(ky (key x),v x)) (ky (key l[i]))
 | [],i,hi,_=>by simp at hi
 | x::r,0,_,hs=>by
  rw [List.map_cons] at hs
  have hd:=hs.distinct
  rw [List.pairwise_cons] at hd
  show r.map _=delL ((ky (key x),v x)::r.map _) (ky (key x))
  unfold delL
  rw [List.filter_cons,if_neg (by simp)]
  refine (List.filter_eq_self.2 fun p hp=> ?_).symm
  have:=hd.1 p hp
  simpa using Ne.symm this
 | x::r,i+1,hi,hs=>by
  rw [List.map_cons] at hs
  have hd:=hs.distinct
  rw [List.pairwise_cons] at hd
  have hi':i < r.length:=by simpa using hi
  have hne:ky (key x)≠ky (key r[i]):=hd.1 _ (List.mem_map.2 ⟨r[i],List.getElem_mem hi',rfl⟩)
  show (ky (key x),v x)::(r.eraseIdx i).map _=delL ((ky (key x),v x)::r.map _) (ky (key r[i]))
  unfold delL
  rw [List.filter_cons,if_pos (by simpa using hne),erase_del r i hi' (List.pairwise_cons.1 hs).2]
  rfl
end
end
section
open Go.RowKit Go.Maps
def hasK (l:List ByteArray) (j:qn):Bool:=l.any fun t=>ky t==j
theorem hasName_ky (l:List ByteArray) (s:ByteArray):qbn l s=hasK l (ky s):=by
 unfold qbn hasK
 congr 1
 funext t
 exact beq_ky t s
theorem hasK_snoc (l:List ByteArray) (s:ByteArray) (j:qn):hasK (l++ [s]) j=(hasK l j || (ky s==j)):=by
 unfold hasK
 rw [List.any_append]
 simp
theorem sorted_F {st:RefD} (hs:qad st.N):qad st.F:=by
 unfold qad RefD.F RefD.N at *
 rw [List.pairwise_map] at hs ⊢
 exact (hs.filter _)
theorem getL_F {st:RefD} (hs:qad st.N) (j:qn):getL st.F j=if (getL st.N j).isSome=true∧hasK st.touched j=true then some () else none:=by
 by_cases h:(getL st.N j).isSome=true∧hasK st.touched j=true
 ·rw [if_pos h]
  obtain ⟨u,hu⟩:=Option.isSome_iff_exists.1 h.1
  obtain ⟨n,hn,e⟩:=List.mem_map.1 (qar hu)
  have e1:ky n.name=j:=congrArg Prod.fst e
  refine qac (sorted_F hs).distinct (List.mem_map.2 ⟨n,List.mem_filter.2 ⟨hn,?_⟩,by rw [e1]⟩)
  rw [hasName_ky,e1]
  exact h.2
 ·rw [if_neg h,qec]
  intro p hp e
  obtain ⟨n,hn,rfl⟩:=List.mem_map.1 hp
  obtain ⟨hn1,hn2⟩:=List.mem_filter.1 hn
  dsimp only at e
  rw [hasName_ky,e] at hn2
  refine h ⟨?_,hn2⟩
  rw [← e,qac hs.distinct (List.mem_map.2 ⟨n,hn1,rfl⟩)]
  rfl
theorem F_ext {st:RefD} {T:List (qn×Unit)} (hs:qad st.N) (hT:qad T) (h: ∀ j,getL T j=if (getL st.N j).isSome=true∧hasK st.touched j=true then some () else none):st.F=T:=
 qex (sorted_F hs) hT fun j=>by rw [getL_F hs,h]
theorem unit_if (c:Prop) [Decidable c] (o:Option Unit):(if c then some () else o)=if c∨o.isSome=true then some () else none:=by
 by_cases h:c
 ·simp [h]
 ·cases o with
  | none=>simp [h]
  | some u=>simp [h]
theorem F_touch {st st':RefD} (hs:qad st.N) (hs':qad st'.N) {s:ByteArray} (hin:(getL st'.N (ky s)).isSome=true) (ht:st'.touched=st.touched++ [s]) (hN: ∀ j,j≠ky s→(getL st'.N j).isSome=(getL st.N j).isSome):st'.F=putL st.F (ky s) ():=by
 refine F_ext hs' (qcn (sorted_F hs) _ _) fun j=> ?_
 rw [ht,hasK_snoc]
 by_cases e:j=ky s
 ·subst e
  rw [qap,if_pos ⟨hin,by simp⟩]
 ·rw [qaj _ _ e,getL_F hs,hN j e]
  have:(ky s==j)=false:=by simpa using Ne.symm e
  rw [this,Bool.or_false]
theorem N_isSome (st:RefD) (s:ByteArray):(qan (st.nodes.map (·.name)) s).isSome=(getL st.N (ky s)).isSome:=getL_idx_isSome (fun n:qu=>n.name) (fun n=>n.val) st.nodes s
theorem P_isSome (st:RefD) (s:ByteArray):(qan (st.pods.map (·.p.name)) s).isSome=(getL st.P (ky s)).isSome:=getL_idx_isSome (fun x:qax=>x.p.name) (fun x=>x.v) st.pods s
theorem N_len (st:RefD):st.abs.N.length=st.nodes.length:=List.length_map ..
theorem P_len (st:RefD):st.abs.P.length=st.pods.length:=List.length_map ..
theorem ref_put {st:RefD} (hs:qad st.N) (n:qu):st.abs.putErr n.name n.val=(st.putNode n).1∧(st.putNode n).2.abs=st.abs.put n.name n.val:=by
 have hpe:st.abs.putErr n.name n.val=if n.err≠0 then n.err else if (getL st.N (ky n.name)).isNone=true∧32≤st.nodes.length then 6 else 0:=by
  unfold Abs.putErr
  rw [← nerr_val n,N_len]
  rfl
 by_cases h0:n.err=0
 ·have h0n: ¬ n.err≠0:=by simpa using h0
  rw [if_neg h0n] at hpe
  have hi:=N_isSome st n.name
  cases h:qan (st.nodes.map (·.name)) n.name with
  | none=>
   rw [h] at hi
   have hg:getL st.N (ky n.name)=none:=by
    cases e:getL st.N (ky n.name) with
    | none=>rfl
    | some u=>rw [e] at hi;cases hi
   rw [hg] at hpe
   by_cases h31:31 < st.nodes.length
   ·have hb:st.putNode n=(6,st):=by
     unfold RefD.putNode
     rw [if_neg h0n,h]
     dsimp only
     rw [if_pos h31]
    rw [if_pos ⟨rfl,by omega⟩] at hpe
    unfold Abs.put
    rw [hpe,hb,if_neg (by decide)]
    exact ⟨rfl,rfl⟩
   ·have hb:st.putNode n=(0,{ st with nodes:=qb8 (·.name) n st.nodes,touched:=st.touched++ [n.name] }):=by
     unfold RefD.putNode
     rw [if_neg h0n,h]
     dsimp only
     rw [if_neg h31]
    rw [if_neg (by omega)] at hpe
    have hN:(qb8 (·.name) n st.nodes).map qg3=putL st.N (ky n.name) n.val:=insKey_put (fun n:qu=>n.name) (fun n=>n.val) n st.nodes hg
    have hF:=F_touch (st:=st) (st':= { st with nodes:=qb8 (·.name) n st.nodes,touched:=st.touched++ [n.name] }) hs (by show qad ((qb8 (·.name) n st.nodes).map qg3);rw [hN];exact qcn hs _ _) (s:=n.name) (by show (getL ((qb8 (·.name) n st.nodes).map qg3) _).isSome=true;rw [hN,qap];rfl) rfl (fun j hj=>by show (getL ((qb8 (·.name) n st.nodes).map qg3) _).isSome=_;rw [hN,qaj _ _ hj])
    unfold Abs.put
    rw [hpe,hb,if_pos rfl]
    refine ⟨rfl,?_⟩
    show Abs.mk st.hold st.now ((qb8 (·.name) n st.nodes).map qg3) st.P _ st.W=Abs.mk st.hold st.now (putL st.N (ky n.name) n.val) st.P (putL st.F (ky n.name) ()) st.W
    rw [hN]
    exact congrArg (fun F=>Abs.mk st.hold st.now (putL st.N (ky n.name) n.val) st.P F st.W) hF
  | some i=>
   obtain ⟨h1,h2,h3⟩:=qde (fun n:qu=>n.name) (fun n=>n.val) st.nodes n.name i h
   have hg:getL st.N (ky n.name)=some (st.nodes[i]).val:=h3
   rw [hg,if_neg (by simp)] at hpe
   have hb:st.putNode n=(0,{ st with nodes:=st.nodes.set i n,touched:=st.touched++ [n.name] }):=by
    unfold RefD.putNode
    rw [if_neg h0n,h]
   have hN:(st.nodes.set i n).map qg3=putL st.N (ky n.name) n.val:=set_put (fun n:qu=>n.name) (fun n=>n.val) st.nodes i n h1 hs h2
   have hF:=F_touch (st:=st) (st':= { st with nodes:=st.nodes.set i n,touched:=st.touched++ [n.name] }) hs (by show qad ((st.nodes.set i n).map qg3);rw [hN];exact qcn hs _ _) (s:=n.name) (by show (getL ((st.nodes.set i n).map qg3) _).isSome=true;rw [hN,qap];rfl) rfl (fun j hj=>by show (getL ((st.nodes.set i n).map qg3) _).isSome=_;rw [hN,qaj _ _ hj])
   unfold Abs.put
   rw [hpe,hb,if_pos rfl]
   refine ⟨rfl,?_⟩
   show Abs.mk st.hold st.now ((st.nodes.set i n).map qg3) st.P _ st.W=Abs.mk st.hold st.now (putL st.N (ky n.name) n.val) st.P (putL st.F (ky n.name) ()) st.W
   rw [hN]
   exact congrArg (fun F=>Abs.mk st.hold st.now (putL st.N (ky n.name) n.val) st.P F st.W) hF
 ·have hb:st.putNode n=(n.err,st):=by
   unfold RefD.putNode
   rw [if_pos h0]
  rw [if_pos h0] at hpe
  unfold Abs.put
  rw [hpe,hb,if_neg h0]
  exact ⟨rfl,rfl⟩
theorem ref_dropN {st:RefD} (hs:qad st.N) (s:ByteArray):st.abs.dropNErr (ky s)=(st.dropNode s).1∧(st.dropNode s).2.abs=st.abs.dropN (ky s):=by
 have hi:=N_isSome st s
 unfold RefD.dropNode Abs.dropNErr Abs.dropN
 show (if (getL st.N (ky s)).isSome then (0:Int) else 4)=_∧_=if (getL st.N (ky s)).isSome then _ else _
 rw [← hi]
 cases h:qan (st.nodes.map (·.name)) s with
 | none=>exact ⟨rfl,rfl⟩
 | some i=>
  refine ⟨rfl,?_⟩
  obtain ⟨h1,h2,h3⟩:=qde (fun n:qu=>n.name) (fun n=>n.val) st.nodes s i h
  have hN:(st.nodes.eraseIdx i).map qg3=delL st.N (ky s):=by
   have:=erase_del (fun n:qu=>n.name) (fun n=>n.val) st.nodes i h1 hs
   rw [h2] at this
   exact this
  have hP:(st.pods.filter fun x=> !(x.node.toList==s.toList)).map podP=st.P.filter fun p=> !(p.2.node==ky s):=by
   unfold RefD.P
   rw [List.filter_map]
   congr 1
   apply List.filter_congr
   intro x _
   show (!(x.node.toList==s.toList))= !(ky x.node==ky s)
   rw [beq_ky]
  have hF:({ st with nodes:=st.nodes.eraseIdx i,pods:=st.pods.filter (fun x=> !(x.node.toList==s.toList)),touched:=st.touched.filter (fun t=> !(t.toList==s.toList)) }:RefD).F=delL st.F (ky s):=by
   refine F_ext (by show qad ((st.nodes.eraseIdx i).map qg3);rw [hN];exact qco hs _) (qco (sorted_F hs) _) fun j=> ?_
   show _=if (getL ((st.nodes.eraseIdx i).map qg3) j).isSome=true∧hasK (st.touched.filter fun t=> !(t.toList==s.toList)) j=true then some () else none
   rw [hN]
   by_cases e:j=ky s
   ·subst e
    rw [qdk,qdk,if_neg (by simp)]
   ·rw [qb0 _ e,qb0 _ e,getL_F hs]
    have hh:hasK (st.touched.filter fun t=> !(t.toList==s.toList)) j=hasK st.touched j:=by
     unfold hasK
     rw [List.any_filter]
     congr 1
     funext t
     rw [beq_ky]
     by_cases e':ky t=j
     ·have:(ky t==ky s)=false:=by rw [e'];simpa using e
      rw [this]
      simp
     ·have:(ky t==j)=false:=by simpa using e'
      rw [this,Bool.and_false]
    rw [hh]
  show Abs.mk st.hold st.now ((st.nodes.eraseIdx i).map qg3) ((st.pods.filter fun x=> !(x.node.toList==s.toList)).map podP) _ st.W=Abs.mk st.hold st.now (delL st.N (ky s)) (st.P.filter fun p=> !(p.2.node==ky s)) (delL st.F (ky s)) st.W
  rw [hN,hP]
  exact congrArg (fun F=>Abs.mk st.hold st.now (delL st.N (ky s)) (st.P.filter fun p=> !(p.2.node==ky s)) F st.W) hF
theorem ref_admits (st:RefD) (s:ByteArray):st.abs.admits (ky s)=st.admits s:=by
 unfold Abs.admits RefD.admits
 show (if (getL st.P (ky s)).isSome then (5:Int) else if 128≤st.P.length then 6 else 0)=_
 rw [← P_isSome,show st.P.length=st.pods.length from List.length_map ..]
 rfl
theorem ref_lay {st:RefD} (hs:qad st.N) {x:qax} (hn:getL st.P (ky x.p.name)=none) (hin:(getL st.N (ky x.node)).isSome=true):(st.lay x).abs=st.abs.lay (ky x.p.name) x.v:=by
 have hP:(qb8 (·.p.name) x st.pods).map podP=putL st.P (ky x.p.name) x.v:=insKey_put (fun x:qax=>x.p.name) (fun x=>x.v) x st.pods hn
 have hF:=F_touch (st:=st) (st':=st.lay x) hs hs (s:=x.node) hin rfl (fun _ _=>rfl)
 show Abs.mk st.hold st.now st.N ((qb8 (·.p.name) x st.pods).map podP) (st.lay x).F st.W=Abs.mk st.hold st.now st.N (putL st.P (ky x.p.name) x.v) (putL st.F (ky x.node) ()) st.W
 rw [hP,hF]
theorem ref_leave {st:RefD} (hs:qad st.N) (hp:qad st.P) {i:Nat} (hi:i < st.pods.length) (hin:(getL st.N (ky (st.pods[i]).node)).isSome=true):(st.leave i st.pods[i]).abs= { st.abs with P:=delL st.P (ky (st.pods[i]).p.name),F:=putL st.F (ky (st.pods[i]).node) () }:=by
 have hP:(st.pods.eraseIdx i).map podP=delL st.P (ky (st.pods[i]).p.name):=erase_del (fun x:qax=>x.p.name) (fun x=>x.v) st.pods i hi hp
 have hF:=F_touch (st:=st) (st':=st.leave i st.pods[i]) hs hs (s:=(st.pods[i]).node) hin rfl (fun _ _=>rfl)
 show Abs.mk st.hold st.now st.N ((st.pods.eraseIdx i).map podP) (st.leave i st.pods[i]).F st.W=_
 rw [hP,hF]
 rfl
theorem ref_bind {st:RefD} (hs:qad st.N) (p:PodD) (node:ByteArray):st.abs.bindErr p.name p.val (ky node)=(st.bind p node).1∧(st.bind p node).2.abs=st.abs.bind p.name p.val (ky node):=by
 have hbe:st.abs.bindErr p.name p.val (ky node)=if p.err≠0 then p.err else if (getL st.N (ky node)).isNone=true then 4 else st.admits p.name:=by
  unfold Abs.bindErr
  rw [← err_val p,ref_admits]
  rfl
 have hi:=N_isSome st node
 by_cases h0:p.err=0
 ·have h0n: ¬ p.err≠0:=by simpa using h0
  rw [if_neg h0n] at hbe
  by_cases h1:(qan (st.nodes.map (·.name)) node).isNone=true
  ·have hg:(getL st.N (ky node)).isNone=true:=by
    rw [Option.isNone_iff_eq_none] at h1 ⊢
    rw [h1] at hi
    cases e:getL st.N (ky node) with
    | none=>rfl
    | some u=>rw [e] at hi;cases hi
   have hb:st.bind p node=(4,st):=by
    unfold RefD.bind
    rw [if_neg h0n,if_pos h1]
   rw [if_pos hg] at hbe
   unfold Abs.bind
   rw [hbe,hb,if_neg (by decide)]
   exact ⟨rfl,rfl⟩
  ·have hin:(getL st.N (ky node)).isSome=true:=by
    rw [← hi]
    cases e:qan (st.nodes.map (·.name)) node with
    | none=>rw [e] at h1;simp at h1
    | some u=>rfl
   have hg: ¬ (getL st.N (ky node)).isNone=true:=by
    obtain ⟨u,hu⟩:=Option.isSome_iff_exists.1 hin
    rw [hu]
    simp
   rw [if_neg hg] at hbe
   by_cases h2:st.admits p.name=0
   ·have hb:st.bind p node=(0,st.lay ⟨p,node,true,0⟩):=by
     unfold RefD.bind
     rw [if_neg h0n,if_neg h1,if_neg (by simpa using h2)]
    have hn:getL st.P (ky p.name)=none:=by
     have h3:=ref_admits st p.name
     rw [h2] at h3
     unfold Abs.admits at h3
     cases e:getL st.P (ky p.name) with
     | none=>rfl
     | some u=>
      have e':getL st.abs.P (ky p.name)=some u:=e
      rw [e'] at h3
      simp at h3
    unfold Abs.bind
    rw [hbe,hb,if_pos h2]
    exact ⟨h2,ref_lay hs (x:=⟨p,node,true,0⟩) hn hin⟩
   ·have hb:st.bind p node=(st.admits p.name,st):=by
     unfold RefD.bind
     rw [if_neg h0n,if_neg h1,if_pos h2]
    unfold Abs.bind
    rw [hbe,hb,if_neg h2]
    exact ⟨rfl,rfl⟩
 ·have hb:st.bind p node=(p.err,st):=by
   unfold RefD.bind
   rw [if_pos h0]
  rw [if_pos h0] at hbe
  unfold Abs.bind
  rw [hbe,hb,if_neg h0]
  exact ⟨rfl,rfl⟩
theorem ref_drop {st:RefD} (hs:qad st.N) (hp:qad st.P) (hin: ∀ x∈st.pods,(getL st.N (ky x.node)).isSome=true) (s:ByteArray):st.abs.dropErr (ky s)=(st.drop s).1∧(st.drop s).2.abs=st.abs.drop (ky s):=by
 have hi:=P_isSome st s
 unfold RefD.drop Abs.dropErr Abs.drop
 show (if (getL st.P (ky s)).isSome then (0:Int) else 4)=_∧_=match getL st.P (ky s) with
  | some x=>_
  | none=>_
 cases h:qan (st.pods.map (·.p.name)) s with
 | none=>
  rw [h] at hi
  have hg:getL st.P (ky s)=none:=by
   cases e:getL st.P (ky s) with
   | none=>rfl
   | some u=>rw [e] at hi;cases hi
  rw [hg]
  exact ⟨rfl,rfl⟩
 | some i=>
  obtain ⟨h1,h2,h3⟩:=qde (fun x:qax=>x.p.name) (fun x=>x.v) st.pods s i h
  have hg:getL st.P (ky s)=some (st.pods[i]).v:=h3
  rw [hg]
  dsimp only
  rw [List.getElem?_eq_getElem h1]
  refine ⟨rfl,?_⟩
  have:=ref_leave hs hp h1 (hin _ (List.getElem_mem h1))
  rw [h2] at this
  exact this
end
section
open Go.RowKit Go.Maps
theorem gone_due (st:RefD) (x:qax):x.gone st=dueA st.hold st.now x.v:=rfl
theorem gone_same {st st':RefD} (h1:st'.hold=st.hold) (h2:st'.now=st.now) (x:qax):x.gone st'=x.gone st:=by
 unfold qax.gone
 rw [h1,h2]
structure TickAt (st:RefD) (j:Nat) (s:RefD):Prop where
 hold:s.hold=st.hold
 now:s.now=st.now
 nodes:s.nodes=st.nodes
 waiting:s.waiting=st.waiting
 pods:s.pods=st.pods.take (st.pods.length - j)++(st.pods.drop (st.pods.length - j)).filter fun x=> !x.gone st
 touched: ∀ k,hasK s.touched k=(hasK st.touched k || (st.pods.drop (st.pods.length - j)).any fun x=>x.gone st&&(ky x.node==k))
theorem tickAt (st:RefD): ∀ j,j≤st.pods.length→TickAt st j (RefD.tickTo st st.pods.length j)
 | 0,_=>⟨rfl,rfl,rfl,rfl,by simp [RefD.tickTo],fun k=>by simp [RefD.tickTo]⟩
 | j+1,hj=>by
  have ih:=tickAt st j (by omega)
  obtain ⟨m,hm⟩: ∃ m,m=st.pods.length - 1 - j:=⟨_,rfl⟩
  have hm1:st.pods.length - j=m+1:=by omega
  have hm2:st.pods.length - (j+1)=m:=by omega
  have hmL:m < st.pods.length:=by omega
  have htk:st.pods.take (m+1)=st.pods.take m++ [st.pods[m]]:=List.take_succ_eq_append_getElem hmL
  have hdr:st.pods.drop m=st.pods[m]::st.pods.drop (m+1):=List.drop_eq_getElem_cons hmL
  have hp:=ih.pods
  rw [hm1,htk] at hp
  have hget:(RefD.tickTo st st.pods.length j).pods[m]? =some st.pods[m]:=by
   rw [hp,List.append_assoc,List.getElem?_append_right (by rw [List.length_take];omega),List.length_take,Nat.min_eq_left (by omega),Nat.sub_self]
   rfl
  have hgs:(st.pods[m]).gone (RefD.tickTo st st.pods.length j)=(st.pods[m]).gone st:=gone_same ih.hold ih.now _
  show TickAt st (j+1) ((RefD.tickTo st st.pods.length j).tickStep (st.pods.length - 1 - j))
  unfold RefD.tickStep
  rw [← hm,hget]
  dsimp only
  rw [hgs]
  by_cases hg:(st.pods[m]).gone st=true
  ·rw [if_pos hg]
   refine ⟨ih.hold,ih.now,ih.nodes,ih.waiting,?_,fun k=> ?_⟩
   ·show (RefD.tickTo st st.pods.length j).pods.eraseIdx m=_
    rw [hm2,hdr,List.filter_cons,if_neg (by simp [hg]),hp,List.append_assoc,List.eraseIdx_append_of_length_le (by rw [List.length_take];omega),List.length_take,Nat.min_eq_left (by omega),Nat.sub_self]
    rfl
   ·show hasK ((RefD.tickTo st st.pods.length j).touched++ [(st.pods[m]).node]) k=_
    rw [hasK_snoc,ih.touched k,hm1,hm2,hdr,List.any_cons,hg,Bool.true_and,Bool.or_assoc]
    congr 1
    exact Bool.or_comm _ _
  ·have hg':(st.pods[m]).gone st=false:=by simpa using hg
   rw [if_neg hg]
   refine ⟨ih.hold,ih.now,ih.nodes,ih.waiting,?_,fun k=> ?_⟩
   ·rw [hm2,hdr,List.filter_cons,if_pos (by simp [hg']),hp,List.append_assoc]
    rfl
   ·rw [ih.touched k,hm1,hm2,hdr,List.any_cons,hg',Bool.false_and,Bool.false_or]
theorem ref_tick {st:RefD} (hs:qad st.N) (hin: ∀ x∈st.pods,(getL st.N (ky x.node)).isSome=true) (n:Int):st.abs.tickErr n=(st.tick n).1∧(st.tick n).2.abs=st.abs.tick n:=by
 unfold RefD.tick Abs.tick
 have he:st.abs.tickErr n=if n < 0∨100000 < n∨1099511627776 < st.now+n then 8 else 0:=by
  unfold Abs.tickErr
  show (if n < 0∨100000 < n∨1099511627776 - st.now < n then (8:Int) else 0)=_
  by_cases h:n < 0∨100000 < n∨1099511627776 < st.now+n
  ·rw [if_pos h,if_pos (by omega)]
  ·rw [if_neg h,if_neg (by omega)]
 rw [he]
 by_cases h:n < 0∨100000 < n∨1099511627776 < st.now+n
 ·rw [if_pos h,if_pos h,if_neg (by decide)]
  exact ⟨rfl,rfl⟩
 ·rw [if_neg h,if_neg h,if_pos rfl]
  refine ⟨rfl,?_⟩
  obtain ⟨s0,hs0⟩: ∃ s0:RefD,s0= { st with now:=st.now+n }:=⟨_,rfl⟩
  have T:=tickAt s0 s0.pods.length (Nat.le_refl _)
  have e0:s0.pods=st.pods:=by rw [hs0]
  have eN:s0.nodes=st.nodes:=by rw [hs0]
  have et:s0.touched=st.touched:=by rw [hs0]
  show (RefD.tickTo { st with now:=st.now+n } st.pods.length st.pods.length).abs=_
  rw [← hs0,show st.pods.length=s0.pods.length from by rw [e0]]
  obtain ⟨s,hsd⟩: ∃ s,s=RefD.tickTo s0 s0.pods.length s0.pods.length:=⟨_,rfl⟩
  rw [← hsd] at T ⊢
  have hpods:s.pods=st.pods.filter fun x=> !x.gone s0:=by
   rw [T.pods,Nat.sub_self,e0]
   simp
  have hP:s.P=st.P.filter fun p=> !dueA st.hold (st.now+n) p.2:=by
   unfold RefD.P
   rw [hpods,List.filter_map]
   congr 1
   apply List.filter_congr
   intro x _
   show (!x.gone s0)= !dueA st.hold (st.now+n) x.v
   rw [gone_due,hs0]
  have hN:s.N=st.N:=by unfold RefD.N;rw [T.nodes,eN]
  have hW:s.W=st.W:=by unfold RefD.W;rw [T.waiting,hs0]
  have hF:s.F=freshen st.F (st.P.filter fun p=>dueA st.hold (st.now+n) p.2):=by
   refine F_ext (by rw [hN];exact hs) (sorted_freshen _ (sorted_F hs)) fun j=> ?_
   rw [getL_freshen,T.touched j,Nat.sub_self,List.drop_zero,e0,et,hN]
   have ha:(st.P.filter fun p=>dueA st.hold (st.now+n) p.2).any (fun p=>p.2.node==j)=st.pods.any fun x=>x.gone s0&&(ky x.node==j):=by
    unfold RefD.P
    rw [List.filter_map,List.any_map,List.any_filter]
    congr 1
    funext x
    show (dueA st.hold (st.now+n) x.v&&(ky x.node==j))=_
    rw [gone_due,hs0]
   rw [ha,unit_if,getL_F hs]
   by_cases h1:(st.pods.any fun x=>x.gone s0&&(ky x.node==j))=true
   ·have hj:(getL st.N j).isSome=true:=by
     obtain ⟨x,hx,hx2⟩:=List.any_eq_true.1 h1
     rw [Bool.and_eq_true] at hx2
     have:=hin x hx
     rw [show ky x.node=j from by simpa using hx2.2] at this
     exact this
    rw [h1,if_pos (.inl rfl),if_pos ⟨hj,by simp⟩]
   ·have h1':(st.pods.any fun x=>x.gone s0&&(ky x.node==j))=false:=by simpa using h1
    rw [h1',Bool.or_false]
    by_cases h2:(getL st.N j).isSome=true∧hasK st.touched j=true
    ·rw [if_pos h2,if_pos (.inr rfl)]
    ·rw [if_neg h2,if_neg (by simp)]
  show Abs.mk s.hold s.now s.N s.P s.F s.W=Abs.mk st.hold (st.now+n) st.N (st.P.filter fun p=> !dueA st.hold (st.now+n) p.2) (freshen st.F (st.P.filter fun p=>dueA st.hold (st.now+n) p.2)) st.W
  rw [T.hold,T.now,hN,hP,hF,hW,hs0]
end
section
open Go.RowKit Go.Maps
theorem cntOf_snoc (l:List (qn×qag)) (p:qn×qag) (k:qn):qdf (l++ [p]) k=if p.2.node==k then qdf l k+1 else qdf l k:=by
 induction l with
 | nil=>rfl
 | cons q r ih=>
  rw [List.cons_append]
  unfold qdf
  rw [ih]
  by_cases e1:(q.2.node==k)=true<;>by_cases e2:(p.2.node==k)=true
  ·simp only [e1,e2,if_true]
  ·simp only [e1,e2,if_true,if_false,Bool.false_eq_true]
  ·simp only [e1,e2,if_true,if_false,Bool.false_eq_true]
  ·simp only [e1,e2,if_false,Bool.false_eq_true]
theorem used_ref (l:List qax) (s:ByteArray): ∀ k,k≤l.length→qa8 l s k=((qt ((l.take k).map podP) (ky s)).1,(qt ((l.take k).map podP) (ky s)).2.1,(qt ((l.take k).map podP) (ky s)).2.2,qdf ((l.take k).map podP) (ky s))
 | 0,_=>rfl
 | k+1,hk=>by
  have hlt:k < l.length:=by omega
  have ih:=used_ref l s k (by omega)
  have e:(l.take (k+1)).map podP=(l.take k).map podP++ [podP l[k]]:=by
   rw [List.take_succ_eq_append_getElem hlt,List.map_append]
   rfl
  unfold qa8
  rw [List.getElem?_eq_getElem hlt,e,qha,cntOf_snoc,ih]
  dsimp only
  rw [show ((podP l[k]).2.node==ky s)=(l[k].node.toList==s.toList) from (beq_ky l[k].node s).symm]
  split<;>rfl
theorem used_all (st:RefD) (s:ByteArray):qa8 st.pods s st.pods.length=((qt st.P (ky s)).1,(qt st.P (ky s)).2.1,(qt st.P (ky s)).2.2,qdf st.P (ky s)):=by
 have:=used_ref st.pods s st.pods.length (Nat.le_refl _)
 rw [List.take_length] at this
 exact this
theorem part_share (room used need:Int) (h1:0≤used) (h2:0≤need):qfc room used need=qd9 (room - used - need) room:=by
 unfold qfc qd9
 by_cases h:0 < room - used - need
 ·rw [if_pos h,if_neg (by omega),if_neg (by omega),Int.tdiv_eq_ediv_of_nonneg (by omega)]
 ·rw [if_neg h]
  by_cases hr:room=0
  ·rw [if_pos hr]
  ·rw [if_neg hr]
   by_cases hl:room - used - need < 0
   ·rw [if_pos hl]
   ·have:room - used - need=0:=by omega
    rw [if_neg hl,this]
    simp
theorem score_ref {st:RefD} (hq:qfi st.pods) (n:qu) (p:PodD) (hp:0≤p.n0∧0≤p.n1∧0≤p.n2):st.score n p=scoreI n.val.r0 n.val.r1 n.val.r2 (qt st.P (ky n.name)).1 (qt st.P (ky n.name)).2.1 (qt st.P (ky n.name)).2.2 p.val.n0 p.val.n1 p.val.n2:=by
 have hb:=qfa st.pods n.name hq st.pods.length
 unfold RefD.score scoreOf scoreI
 rw [used_all] at hb ⊢
 dsimp only at hb ⊢
 rw [part_share _ _ _ hb.1 hp.1,part_share _ _ _ hb.2.2.1 hp.2.1,part_share _ _ _ hb.2.2.2.2.1 hp.2.2]
 rfl
theorem room_ref (st:RefD) (n:qu) (p:PodD):qgq n p (qa8 st.pods n.name st.pods.length)=qbg n.val.r0 n.val.r1 n.val.r2 (qt st.P (ky n.name)).1 (qt st.P (ky n.name)).2.1 (qt st.P (ky n.name)).2.2 p.val.n0 p.val.n1 p.val.n2:=by
 rw [used_all]
 unfold qgq qbg
 show _=((decide (0 < p.n0)&&decide (n.r0 - (qt st.P (ky n.name)).1 < p.n0)) || ((decide (0 < p.n1)&&decide (n.r1 - (qt st.P (ky n.name)).2.1 < p.n1)) || (decide (0 < p.n2)&&decide (n.r2 - (qt st.P (ky n.name)).2.2 < p.n2))))
 have h: ∀ a b c:Int,decide (a < b+c)=decide (a - b < c):=fun a b c=>decide_eq_decide.2 (by omega)
 dsimp only
 rw [h,h,h,Bool.or_assoc]
theorem port_ref (st:RefD) (n:qu) (p:PodD) (hp:0≤p.port):qcz st.pods n p=(!(p.val.port==0)&&(onA st.P (ky n.name)).any fun q=>q.port==p.val.port):=by
 unfold qcz onA RefD.P
 rw [List.filter_map,List.map_map,List.any_map,List.any_filter]
 have hd:decide (0 < p.port)= !(p.port==0):=by
  by_cases h:p.port=0
  ·simp [h]
  ·have h1:0 < p.port:=by omega
   simp [h,h1]
 show (st.pods.any fun x=>(x.node.toList==n.name.toList)&&decide (0 < p.port)&&(x.p.port==p.port))=(!(p.port==0)&&st.pods.any fun x=>(ky x.node==ky n.name)&&(x.p.port==p.port))
 rw [hd]
 cases h:(p.port==0) with
 | true=>simp
 | false=>
  simp only [Bool.not_false,Bool.true_and,Bool.and_true]
  congr 1
  funext x
  rw [beq_ky]
theorem near_ref {st:RefD} (hs:qad st.N) (hin: ∀ x∈st.pods,(getL st.N (ky x.node)).isSome=true) {n:qu} (hn:n∈st.nodes) (f:qag→Bool):(st.pods.any fun x=>qfg st n x&&f x.v)=nearA st.N st.P (ky n.name) f:=by
 have hgn:getL st.N (ky n.name)=some n.val:=qac hs.distinct (List.mem_map.2 ⟨n,hn,rfl⟩)
 have hcl: ∀ x∈st.pods,qfg st n x=nbrB st.N (ky n.name) (ky x.node):=fun x hx=>by
  have hi:=N_isSome st x.node
  rw [hin x hx] at hi
  obtain ⟨i,h⟩:=Option.isSome_iff_exists.1 hi
  obtain ⟨h1,h2,h3⟩:=qde (fun n:qu=>n.name) (fun n=>n.val) st.nodes x.node i h
  have hg:getL st.N (ky x.node)=some (st.nodes[i]).val:=h3
  unfold qfg
  rw [h]
  dsimp only
  rw [List.getElem?_eq_getElem h1]
  dsimp only
  unfold nearB nbrB zoneAt
  rw [hgn,hg,beq_ky,h2]
  rfl
 rw [Bool.eq_iff_iff,nearA_iff hs.distinct,List.any_eq_true]
 constructor
 ·rintro ⟨x,hx,h⟩
  rw [Bool.and_eq_true,hcl x hx] at h
  obtain ⟨u,hu⟩:=Option.isSome_iff_exists.1 (hin x hx)
  refine ⟨ky x.node,u,hu,h.1,?_⟩
  rw [List.any_eq_true]
  exact ⟨x.v,List.mem_map.2 ⟨podP x,List.mem_filter.2 ⟨List.mem_map.2 ⟨x,hx,rfl⟩,by simp [podP,qax.v]⟩,rfl⟩,h.2⟩
 ·rintro ⟨j,u,h1,h2,h3⟩
  rw [List.any_eq_true] at h3
  obtain ⟨y,hy,hf⟩:=h3
  obtain ⟨q,hq,rfl⟩:=List.mem_map.1 hy
  obtain ⟨hq1,hq2⟩:=List.mem_filter.1 hq
  obtain ⟨x,hx,rfl⟩:=List.mem_map.1 hq1
  refine ⟨x,hx,?_⟩
  have e:ky x.node=j:=by simpa [podP,qax.v] using hq2
  rw [Bool.and_eq_true,hcl x hx,e]
  exact ⟨h2,hf⟩
theorem why_ref {st:RefD} (hs:qad st.N) (hin: ∀ x∈st.pods,(getL st.N (ky x.node)).isSome=true) {n:qu} (hn:n∈st.nodes) (p:PodD) (hp:0≤p.port):st.why n p=whyA st.N st.P (ky n.name) n.val p.val:=by
 unfold RefD.why whyA
 have h5:(!qdm st n p st.pods.length)=(decide (0 < p.val.near.length)&& !nearA st.N st.P (ky n.name) fun q=>qae p.val.near q.labels):=by
  unfold qdm
  rw [List.take_length,← near_ref hs hin hn]
  show (!((p.near.L.length==0) || st.pods.any fun x=>qfg st n x&&qae p.near.L x.p.labels.L))=(decide (0 < p.near.L.length)&& !st.pods.any fun x=>qfg st n x&&qae p.near.L x.p.labels.L)
  rw [Bool.not_or]
  congr 1
  cases h:p.near.L.length with
  | zero=>rfl
  | succ k=>simp
 have h6:qe2 st n p st.pods.length=nearA st.N st.P (ky n.name) fun q=>qbv p.val.apart q.labels || qbv q.apart p.val.labels:=by
  unfold qe2
  rw [List.take_length,← near_ref hs hin hn]
  congr 1
  funext x
  show ((qfg st n x&&decide (0 < p.apart.L.length)&&qae p.apart.L x.p.labels.L) || (qfg st n x&&decide (0 < x.p.apart.L.length)&&qae x.p.apart.L p.labels.L))=(qfg st n x&&((decide (0 < p.apart.L.length)&&qae p.apart.L x.p.labels.L) || (decide (0 < x.p.apart.L.length)&&qae x.p.apart.L p.labels.L)))
  cases qfg st n x<;>simp
 rw [room_ref,port_ref st n p hp,h5,h6]
 rfl
end
section
open Go.RowKit Go.Maps
def rsn (r:ByteArray×Int):qn×Int:=(ky r.1,r.2)
def qg8.rep (r:qg8):Rep:=⟨r.err,ky r.node,r.score,r.reasons.map rsn,r.fresh⟩
theorem whyA_range (N:List (qn×qbb)) (P:List (qn×qag)) (k:qn) (n:qbb) (v:PodV):0≤whyA N P k n v:=by
 unfold whyA
 repeat' split
 all_goals omega
theorem stepC_yes {N:List (qn×qbb)} {P:List (qn×qag)} {v:PodV} {k:qn} {n:qbb} (h:whyA N P k n v=0) (R:Rep):qev N P v R (k,n)=if R.err≠0∨R.score < scoreI n.r0 n.r1 n.r2 (qt P k).1 (qt P k).2.1 (qt P k).2.2 v.n0 v.n1 v.n2 then { R with err:=0,node:=k,score:=scoreI n.r0 n.r1 n.r2 (qt P k).1 (qt P k).2.1 (qt P k).2.2 v.n0 v.n1 v.n2 } else R:=by
 have ha:qbk N P k n v=(0,scoreI n.r0 n.r1 n.r2 (qt P k).1 (qt P k).2.1 (qt P k).2.2 v.n0 v.n1 v.n2):=by
  unfold qbk
  rw [if_pos h]
 unfold qev
 dsimp only
 rw [ha]
 rfl
theorem stepC_no {N:List (qn×qbb)} {P:List (qn×qag)} {v:PodV} {k:qn} {n:qbb} (h:whyA N P k n v≠0) (R:Rep):qev N P v R (k,n)= { R with reasons:=R.reasons++ [(k,whyA N P k n v)] }:=by
 have ha:qbk N P k n v=(whyA N P k n v,0):=by
  unfold qbk
  rw [if_neg h]
 unfold qev
 dsimp only
 rw [ha]
 dsimp only
 rw [if_pos h]
theorem schedTo_yes {st:RefD} {p:PodD} {k:Nat} (hk:k < st.nodes.length) (h:st.why st.nodes[k] p=0):qah st p (k+1)=if (qah st p k).2.1 < 0∨(qah st p k).2.2 < st.score st.nodes[k] p then ((qah st p k).1,(k:Int),st.score st.nodes[k] p) else qah st p k:=by
 conv=>lhs;unfold qah
 rw [List.getElem?_eq_getElem hk]
 dsimp only
 rw [h]
 rfl
theorem schedTo_no {st:RefD} {p:PodD} {k:Nat} (hk:k < st.nodes.length) (h:0 < st.why st.nodes[k] p):qah st p (k+1)=((qah st p k).1++ [((st.nodes[k]).name,st.why st.nodes[k] p)],(qah st p k).2):=by
 conv=>lhs;unfold qah
 rw [List.getElem?_eq_getElem hk]
 dsimp only
 rw [if_pos h]
structure LookAt (st:RefD) (p:PodD) (k:Nat) (R:Rep) (l:List (ByteArray×Int)) (b s:Int):Prop where
 rsn:R.reasons=l.map rsn
 fresh:R.fresh=0
 best:(b= -1∧R.err=9∧R.node= []∧s=0∧R.score=0)∨ ∃ (i:Nat) (h:i < st.nodes.length),b=(i:Int)∧R.err=0∧R.node=ky (st.nodes[i]).name∧R.score=s
theorem lookAt {st:RefD} (hs:qad st.N) (hin: ∀ x∈st.pods,(getL st.N (ky x.node)).isSome=true) (hq:qfi st.pods) (p:PodD) (hp:0≤p.port) (hpn:0≤p.n0∧0≤p.n1∧0≤p.n2): ∀ k,k≤st.nodes.length→LookAt st p k (qcx st.N st.P p.val k) (qah st p k).1 (qah st p k).2.1 (qah st p k).2.2
 | 0,_=>⟨rfl,rfl,.inl ⟨rfl,rfl,rfl,rfl,rfl⟩⟩
 | k+1,hk=>by
  have hlt:k < st.nodes.length:=by omega
  have ih:=lookAt hs hin hq p hp hpn k (by omega)
  have hltN:k < st.N.length:=by show k < (st.nodes.map qg3).length;rw [List.length_map];exact hlt
  have hNk:st.N[k]=qg3 st.nodes[k]:=List.getElem_map ..
  have hw:=why_ref hs hin (List.getElem_mem hlt) p hp
  have hsc:=score_ref hq st.nodes[k] p hpn
  have h0:=whyA_range st.N st.P (ky (st.nodes[k]).name) (st.nodes[k]).val p.val
  rw [loopC_succ _ _ _ hltN,hNk]
  unfold qg3
  by_cases hwz:whyA st.N st.P (ky (st.nodes[k]).name) (st.nodes[k]).val p.val=0
  ·rw [stepC_yes hwz,schedTo_yes hlt (by rw [hw];exact hwz),← hsc]
   have hc:((qcx st.N st.P p.val k).err≠0∨(qcx st.N st.P p.val k).score < st.score st.nodes[k] p)↔((qah st p k).2.1 < 0∨(qah st p k).2.2 < st.score st.nodes[k] p):=by
    rcases ih.best with ⟨e1,e2,e3,e4,e5⟩| ⟨i,hi,e1,e2,e3,e4⟩
    ·rw [e1,e2]
     constructor
     ·intro _;exact .inl (by decide)
     ·intro _;exact .inl (by decide)
    ·rw [e1,e2,e4]
     constructor
     ·rintro (h| h)
      ·exact absurd rfl h
      ·exact .inr h
     ·rintro (h| h)
      ·omega
      ·exact .inr h
   by_cases hcc:(qah st p k).2.1 < 0∨(qah st p k).2.2 < st.score st.nodes[k] p
   ·rw [if_pos hcc,if_pos (hc.2 hcc)]
    exact ⟨ih.rsn,ih.fresh,.inr ⟨k,hlt,rfl,rfl,rfl,rfl⟩⟩
   ·rw [if_neg hcc,if_neg (fun h=>hcc (hc.1 h))]
    exact ⟨ih.rsn,ih.fresh,ih.best⟩
  ·rw [stepC_no hwz,schedTo_no hlt (by rw [hw];omega),hw]
   exact ⟨by show (qcx st.N st.P p.val k).reasons++_=_;rw [ih.rsn,List.map_append];rfl,ih.fresh,ih.best⟩
theorem fresh_abs (st:RefD):st.fresh.2.abs= { st.abs with F:= [] }:=by
 show Abs.mk st.hold st.now st.N st.P ({ st with touched:= [] }:RefD).F st.W=_
 have:({ st with touched:= [] }:RefD).F= []:=by
  unfold RefD.F
  have:(st.nodes.filter fun n=>qbn [] n.name)= []:=List.filter_eq_nil_iff.2 fun n _=>by simp [qbn]
  rw [this]
  rfl
 rw [this]
 rfl
theorem fresh_len (st:RefD):st.fresh.1=(st.abs.F.length:Int):=by
 show (((st.nodes.filter fun n=>qbn st.touched n.name).length:Nat):Int)=(((st.nodes.filter fun n=>qbn st.touched n.name).map fun n=>(ky n.name,())).length:Nat)
 rw [List.length_map]
theorem ref_sched {st:RefD} (hs:qad st.N) (hin: ∀ x∈st.pods,(getL st.N (ky x.node)).isSome=true) (hq:qfi st.pods) (p:PodD):st.abs.sched p.name p.val=((st.sched p).1.rep,(st.sched p).2.abs):=by
 have hse:st.abs.schedErr p.name p.val=if p.err≠0 then p.err else st.admits p.name:=by
  unfold Abs.schedErr
  rw [← err_val p,ref_admits]
 by_cases h0:p.err=0
 ·have h0n: ¬ p.err≠0:=by simpa using h0
  rw [if_neg h0n] at hse
  by_cases h1:st.admits p.name=0
  ·have hb:st.sched p=st.fresh.2.schedIn p st.fresh.1:=by
    unfold RefD.sched
    rw [if_neg h0n,if_neg (by simpa using h1)]
   have ha:st.abs.sched p.name p.val=(({ qay st.N st.P p.val with fresh:=st.abs.F.length }:Rep),if (qay st.N st.P p.val).err=0 then ({ st.abs with F:= [] }:Abs).lay (ky p.name) (p.val.lies (qay st.N st.P p.val).node false st.now) else { st.abs with F:= [] }):=by
    unfold Abs.sched
    rw [if_neg (by rw [hse];simpa using h1)]
    rfl
   rw [ha,hb]
   obtain ⟨s1,hs1⟩: ∃ s1,s1=st.fresh.2:=⟨_,rfl⟩
   have eN:s1.N=st.N:=by rw [hs1];rfl
   have eP:s1.P=st.P:=by rw [hs1];rfl
   have ep:s1.pods=st.pods:=by rw [hs1];rfl
   have eab:s1.abs= { st.abs with F:= [] }:=by rw [hs1];exact fresh_abs st
   have enow:s1.now=st.now:=by rw [hs1];rfl
   have hport:0≤p.port:=((PodD.good_Good (PodD.err_good.1 h0)).port).1
   have hpn:0≤p.n0∧0≤p.n1∧0≤p.n2:=by
    have h:=(PodD.good_Good (PodD.err_good.1 h0)).need
    exact ⟨(h p.n0 (by simp)).1,(h p.n1 (by simp)).1,(h p.n2 (by simp)).1⟩
   have hq':qfi s1.pods:=by rw [ep];exact hq
   have hs':qad s1.N:=by rw [eN];exact hs
   have hin': ∀ x∈s1.pods,(getL s1.N (ky x.node)).isSome=true:=fun x hx=>by rw [eN];exact hin x (by rw [← ep];exact hx)
   have LA:=lookAt hs' hin' hq' p hport hpn s1.nodes.length (Nat.le_refl _)
   have hloop:qcx s1.N s1.P p.val s1.nodes.length=s1.N.foldl (qev s1.N s1.P p.val) rep0:=by
    unfold qcx
    rw [List.take_of_length_le (by show (s1.nodes.map qg3).length≤_;rw [List.length_map];exact Nat.le_refl _)]
   rw [hloop,eN,eP] at LA
   rw [← hs1,fresh_len]
   have hn:getL st.P (ky p.name)=none:=by
    have h3:=ref_admits st p.name
    rw [h1] at h3
    unfold Abs.admits at h3
    cases e:getL st.P (ky p.name) with
    | none=>rfl
    | some u=>
     have e':getL st.abs.P (ky p.name)=some u:=e
     rw [e'] at h3
     simp at h3
   unfold qay
   unfold RefD.schedIn
   generalize st.N.foldl (qev st.N st.P p.val) rep0=R at *
   generalize qah s1 p s1.nodes.length=T at *
   obtain ⟨l,b,s⟩:=T
   obtain ⟨e,nd,sc,rs,fr⟩:=R
   have hr:=LA.rsn
   rcases LA.best with ⟨b1,b2,b3,b4,b5⟩| ⟨i,hi,b1,b2,b3,b4⟩
   ·dsimp only at b1 b2 b3 b4 b5 hr
    subst b1 b2 b3 b4 b5 hr
    unfold Rep.done
    dsimp only
    rw [if_pos (by decide)]
    dsimp only
    rw [if_neg (by decide),if_pos (by decide)]
    dsimp only
    rw [eab]
    rfl
   ·dsimp only at b1 b2 b3 b4 hr
    subst b1 b2 b3 b4 hr
    unfold Rep.done
    dsimp only
    rw [if_neg (by decide)]
    dsimp only
    rw [if_pos rfl,if_neg (by omega),Int.toNat_natCast,List.getElem?_eq_getElem hi]
    dsimp only
    have hL:=ref_lay hs' (x:=⟨p,(s1.nodes[i]).name,false,s1.now⟩) (by rw [eP];exact hn) (by
     show (getL s1.N (ky (s1.nodes[i]).name)).isSome=true
     rw [qac hs'.distinct (List.mem_map.2 ⟨s1.nodes[i],List.getElem_mem hi,rfl⟩)]
     rfl)
    rw [hL,eab]
    unfold qg8.rep qax.v
    dsimp only
    rw [enow]
    rfl
  ·have hb:st.sched p=(.no (st.admits p.name),st):=by
    unfold RefD.sched
    rw [if_neg h0n,if_pos h1]
   unfold Abs.sched
   rw [hse,if_pos h1,hb]
   rfl
 ·have hb:st.sched p=(.no p.err,st):=by
   unfold RefD.sched
   rw [if_pos h0]
  rw [if_pos h0] at hse
  unfold Abs.sched
  rw [hse,if_pos h0,hb]
  rfl
def RefD.queue (st:RefD) (p:PodD):Int×RefD:=if p.err≠0 then (p.err,st) else if 127 < st.waiting.length then (6,st) else (0,{ st with waiting:=st.waiting++ [p] })
theorem ref_queue (st:RefD) (p:PodD):st.abs.queueErr p.name p.val=(st.queue p).1∧(st.queue p).2.abs=st.abs.queue p.name p.val:=by
 have hqe:st.abs.queueErr p.name p.val=if p.err≠0 then p.err else if 128≤st.waiting.length then 6 else 0:=by
  unfold Abs.queueErr
  rw [← err_val p,show st.abs.W.length=st.waiting.length from List.length_map ..]
 by_cases h0:p.err=0
 ·have h0n: ¬ p.err≠0:=by simpa using h0
  rw [if_neg h0n] at hqe
  by_cases h1:127 < st.waiting.length
  ·have hb:st.queue p=(6,st):=by
    unfold RefD.queue
    rw [if_neg h0n,if_pos h1]
   rw [if_pos (by omega)] at hqe
   unfold Abs.queue
   rw [hqe,hb,if_neg (by decide)]
   exact ⟨rfl,rfl⟩
  ·have hb:st.queue p=(0,{ st with waiting:=st.waiting++ [p] }):=by
    unfold RefD.queue
    rw [if_neg h0n,if_neg h1]
   rw [if_neg (by omega)] at hqe
   unfold Abs.queue
   rw [hqe,hb,if_pos rfl]
   refine ⟨rfl,?_⟩
   show Abs.mk st.hold st.now st.N st.P st.F ((st.waiting++ [p]).map _)=Abs.mk st.hold st.now st.N st.P st.F (st.waiting.map _++ [(p.name,p.val)])
   rw [List.map_append]
   rfl
 ·have hb:st.queue p=(p.err,st):=by
   unfold RefD.queue
   rw [if_pos h0]
  rw [if_pos h0] at hqe
  unfold Abs.queue
  rw [hqe,hb,if_neg h0]
  exact ⟨rfl,rfl⟩
end
end Go.Proofs.YtchddaafibjmgaaGreat
