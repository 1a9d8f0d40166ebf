import Derived.Test.YtchddaafibjmgaaGreatMA1
import Derived.Maps.RangeWalk
import Derived.Maps.Ext
set_option maxRecDepth 100000
set_option maxHeartbeats 20000000
namespace Go.Proofs.YtchddaafibjmgaaGreat
section
open Go.RowKit Go.Maps Go.ChangeMaps Go.MapKept
open Go.WideElems (Fit rd rg rd_val)
abbrev qn:Type:=List UInt8
def qct (v:Value):Option (DataW Value×List MemPlace):=some (.held v,[])
def qgv (p:qn×Value):Lit×DataW Value:=(.string p.1,.held p.2)
abbrev qgw (L:List (qn×Value)):DataW Value:= .map (L.map qgv)
def qai (P:Program) (w:World) (k:TypeId) (b:Nat) (L:List (qn×Value)):Prop:=w.ownsMap P k qct b L.length (qgw L)
def getL {α:Type}:List (qn×α)→qn→Option α
  | [],_=>none
  | p::r,k=>if p.1==k then some p.2 else getL r k
def delL {α:Type} (L:List (qn×α)) (k:qn):List (qn×α):=L.filter fun p=> !(p.1==k)
def insL {α:Type} (x:qn×α):List (qn×α)→List (qn×α)
  | []=> [x]
  | y::r=>if bytesBefore x.1 y.1 then x::y::r else y::insL x r
def putL {α:Type} (L:List (qn×α)) (k:qn) (v:α):List (qn×α):=insL (k,v) (delL L k)
def qad {α:Type} (L:List (qn×α)):Prop:=L.Pairwise fun p q=>bytesBefore p.1 q.1=true
theorem insert_entOf (x:qn×Value): ∀ L:List (qn×Value),DataW.insert (qgv x) (L.map qgv)=(insL x L).map qgv
  | []=>rfl
  | y::r=>by
    show (if (qgv x).1.before (qgv y).1 then _ else _)=_
    have:(qgv x).1.before (qgv y).1=bytesBefore x.1 y.1:=rfl
    rw [this]
    unfold insL
    cases bytesBefore x.1 y.1
    · simp [insert_entOf x r]
    · simp
theorem filter_entOf (k:qn): ∀ L:List (qn×Value),((L.map qgv).filter fun p=> !p.1.sameKey (.string k))=(delL L k).map qgv
  | []=>rfl
  | y::r=>by
    have:(qgv y).1.sameKey (.string k)=(y.1==k):=rfl
    have ih:=filter_entOf k r
    unfold delL at ih ⊢
    simp only [List.map_cons,List.filter_cons,this,ih]
    cases (y.1==k)<;>simp
theorem put_datOf (L:List (qn×Value)) (k:qn) (v:Value):(qgw L).put (.string k) (.held v)=qgw (putL L k v):=by
  show DataW.map (DataW.insert (qgv (k,v)) ((L.map qgv).filter fun p=> !p.1.sameKey (.string k)))=_
  rw [filter_entOf,insert_entOf]
  rfl
theorem del_datOf (L:List (qn×Value)) (k:qn):(qgw L).del (.string k)=qgw (delL L k):=by
  show DataW.map ((L.map qgv).filter fun p=> !p.1.sameKey (.string k))=_
  rw [filter_entOf]
theorem find_entOf (k:qn): ∀ L:List (qn×Value),((L.map qgv).find? fun p=>p.1.sameKey (.string k))=(getL L k).map fun v=>(.string k,.held v)
  | []=>rfl
  | y::r=>by
    have:(qgv y).1.sameKey (.string k)=(y.1==k):=rfl
    simp only [List.map_cons,List.find?_cons,this,getL,find_entOf k r]
    cases h:(y.1==k)
    · simp
    · simp only [beq_iff_eq] at h
      subst h
      rfl
theorem atKey_datOf (L:List (qn×Value)) (k:qn) (z:DataW Value):(qgw L).atKey (.string k) z=((getL L k).map DataW.held).getD z:=by
  simp only [DataW.atKey,find_entOf]
  cases getL L k<;>rfl
theorem qff (L:List (qn×Value)) (k:qn):Maps.has (qgw L) (.string k)=(getL L k).isSome:=by
  rw [Maps.has_eq,List.any_map]
  induction L with
  | nil=>rfl
  | cons y r ih=>
    have:((fun p:Lit×DataW Value=>p.1.sameKey (.string k))∘qgv) y=(y.1==k):=rfl
    simp only [List.any_cons,this,ih,getL]
    cases (y.1==k)<;>simp
theorem qdy (L:List (qn×Value)):Maps.size (qgw L)=L.length:=by simp [Maps.size_eq]
theorem has_other {L:List (qn×Value)} {kl:Lit} (h:Maps.has (qgw L) kl=true): ∃ p∈L,kl= .string p.1:=by
  rw [Maps.has_eq,List.any_map,List.any_eq_true] at h
  obtain ⟨p,hp,h⟩:=h
  exact ⟨p,hp,(WideAt.sameKey_eq h).symm⟩
theorem qfo {P:Program} {w:World} {k:TypeId} {b n:Nat} {L:List (qn×Value)} (h:w.ownsMap P k qct b n (qgw L)):qai P w k b L:=by
  obtain ⟨es,clock,hb,F,hs,hD⟩:=h
  refine ⟨es,clock,hb,F,?_,hD⟩
  have h1:=congrArg Maps.size hD
  rw [qdy,Maps.size_eq,length_sorted] at h1
  simp at h1
  omega
section
variable {P:Program} {w:World} {k:TypeId} {b:Nat} {L:List (qn×Value)}
theorem qai.isMap (h:qai P w k b L): ∃ es clock,w.heap[b]? =some (.map es clock):=by
  obtain ⟨es,clock,hb,_⟩:=h
  exact ⟨es,clock,hb⟩
theorem qai.lt (h:qai P w k b L):b < w.heap.size:=World.ownsMap.lt h
theorem qai.kept {F:Nat→Prop} {w':World} (h:qai P w k b L) (hk:Kept F w w') (hF: ¬ F b):qai P w' k b L:=by
  have hl:=h.lt
  obtain ⟨es,clock,hb,r⟩:=h
  exact ⟨es,clock,by rw [hk.block b hl hF];exact hb,r⟩
theorem qai.same {w':World} (h:qai P w k b L) (hk:w'.heap[b]? =w.heap[b]?):qai P w' k b L:=by
  obtain ⟨es,clock,hb,r⟩:=h
  exact ⟨es,clock,by rw [hk];exact hb,r⟩
theorem qai.made (P:Program) (w:World) (k:TypeId):qai P (w.alloc (.map #[] 0)) k w.heap.size []:=World.ownsMap_made w P k qct
theorem qai.sorted (h:qai P w k b L) (K:Keyed P k):qad L:=by
  obtain ⟨es,he,hp,_⟩:=World.ownsMap.canon h K
  simp only [DataW.map.injEq] at he
  subst he
  rw [List.pairwise_map] at hp
  exact hp
theorem Kept.turned {w':World} (h:w.mapTurned w' b):Kept (fun x=>x=b) w w':=by
  have g:=h.grown
  exact ⟨g.os,g.tape,g.output,g.size,fun i hi hF=>g.block i hi (fun e=>hF (Option.some.inj e))⟩
theorem qai.look_ok {t e:TypeId} (h:qai P w k b L) (K:Keyed P k) (ht:P.underlying t=some (.map k e)) {z:Value} (hz:(zeroValue e).run P w= .ok z w) {key:Value} {kl:qn} (hkey:keyOf P k key=some (.string kl)):
    (Instr.lookup t (.map (some b)) key true).run P w= .ok (.tuple #[(getL L kl).getD z,.bool (getL L kl).isSome]) w:=by
  obtain ⟨v,ps,hr,hv⟩:=World.ownsMap.look_ok (R:=qct) h K ht hz (zd:= .held z) (zp:= []) rfl hkey
  rw [hr,qff]
  rw [atKey_datOf] at hv
  simp only [qct,Option.some.injEq,Prod.mk.injEq] at hv
  have:v=(getL L kl).getD z:=by
    cases hg:getL L kl<;>simp [hg] at hv ⊢ <;>exact hv.1
  rw [this]
theorem qai.look {t e:TypeId} (h:qai P w k b L) (K:Keyed P k) (ht:P.underlying t=some (.map k e)) {z:Value} (hz:(zeroValue e).run P w= .ok z w) {key:Value} {kl:qn} (hkey:keyOf P k key=some (.string kl)):
    (Instr.lookup t (.map (some b)) key false).run P w= .ok ((getL L kl).getD z) w:=by
  obtain ⟨v,ps,hr,hv⟩:=World.ownsMap.lookup (R:=qct) h K ht hz (zd:= .held z) (zp:= []) rfl hkey
  rw [hr]
  rw [atKey_datOf] at hv
  simp only [qct,Option.some.injEq,Prod.mk.injEq] at hv
  have:v=(getL L kl).getD z:=by
    cases hg:getL L kl<;>simp [hg] at hv ⊢ <;>exact hv.1
  rw [this]
theorem qai.len {t e:TypeId} (h:qai P w k b L) (ht:P.underlying t=some (.map k e)) (ty:TypeId):(Builtin.len_ #[t] ty #[.map (some b)]).run P w= .ok (.int .i64 L.length) w:=by
  have:=World.ownsMap.len h ht ty
  rw [qdy] at this
  exact this
def qf5 (w w':World) (b:Nat):Prop:= ∃ es clock es',w.heap[b]? =some (.map es clock)∧w'.heap[b]? =some (.map es' clock)∧es'.toList.Sublist es.toList
theorem qf5.trans {w w' w'':World} {b:Nat} (h:qf5 w w' b) (h':qf5 w' w'' b):qf5 w w'' b:=by
  obtain ⟨es,c,es',h1,h2,h3⟩:=h
  obtain ⟨es1,c1,es2,g1,g2,g3⟩:=h'
  rw [h2] at g1
  simp only [Option.some.injEq,Obj.map.injEq] at g1
  obtain ⟨rfl,rfl⟩:=g1
  exact ⟨es,c,es2,h1,g2,g3.trans h3⟩
theorem qf5.kept {w w' w'':World} {b:Nat} (h:qf5 w w' b) (hk:w''.heap[b]? =w'.heap[b]?):qf5 w w'' b:=by
  obtain ⟨es,c,es',h1,h2,h3⟩:=h
  exact ⟨es,c,es',h1,hk.trans h2,h3⟩
theorem qf5.from {w w' w'':World} {b:Nat} (h:qf5 w' w'' b) (hk:w'.heap[b]? =w.heap[b]?):qf5 w w'' b:=by
  obtain ⟨es,c,es',h1,h2,h3⟩:=h
  exact ⟨es,c,es',hk.symm.trans h1,h2,h3⟩
theorem qai.drop {t e:TypeId} (h:qai P w k b L) (K:Keyed P k) (ht:P.underlying t=some (.map k e)) {key:Value} {kl:qn} (hkey:keyOf P k key=some (.string kl)) (ty:TypeId):
    ∃ w',(Builtin.delete_ #[t,k] ty #[.map (some b),key]).run P w= .ok (.tuple #[]) w'∧qai P w' k b (delL L kl)∧w.mapTurned w' b∧qf5 w w' b:=by
  obtain ⟨es,clock,hb,F,hs,hD⟩:=h
  obtain ⟨es',hrun,F',hle,hdel,hsub,_⟩:=fit_drop_who (ty:=ty) K ht hb F hkey
  refine ⟨_,hrun,qfo (n:=L.length) ⟨es',clock,heap_setBlock_same hb _,F',Nat.le_trans hle hs,?_⟩,⟨es,clock,es',clock,hb,rfl⟩,⟨es,clock,es',hb,heap_setBlock_same hb _,hsub⟩⟩
  rw [← del_datOf,hD,DataW.del_eq,hdel]
theorem qai.store {t e:TypeId} (h:qai P w k b L) (K:Keyed P k) (ht:P.underlying t=some (.map k e)) (hn:L.length < maxLen) {key val:Value} {kl:qn} (hkey:keyOf P k key=some (.string kl)):
    ∃ w',(Instr.mapUpdate t (.map (some b)) key val).run P w= .ok () w'∧qai P w' k b (putL L kl val)∧w.mapTurned w' b:=by
  obtain ⟨w',hr,h1,h2⟩:=World.ownsMap.store (R:=qct) h K ht hn hkey (val:=val) (d:= .held val) (ps:= []) rfl
  rw [put_datOf] at h1
  exact ⟨w',hr,qfo h1,h2⟩
theorem qai.clear {t e:TypeId} (h:qai P w k b L) (ht:P.underlying t=some (.map k e)) (ty:TypeId):
    ∃ w',(Builtin.clear_ #[t] ty #[.map (some b)]).run P w= .ok (.tuple #[]) w'∧qai P w' k b []∧w.mapTurned w' b:=by
  obtain ⟨es,clock,hb,F,hs,hD⟩:=h
  refine ⟨setBlock w b (.map #[] clock),?_,⟨#[],clock,heap_setBlock_same hb _,⟨by simp,stamped_empty clock,by simp⟩,Nat.le_refl _,rfl⟩,⟨es,clock,#[],clock,hb,rfl⟩⟩
  simp [Builtin.clear_,run_underlying ht,MapKept.run_getObj_map hb,MapKept.run_setObj_map _ hb,Result.andThen,setBlock]
end
section
variable {P:Program} (w:World) {ops:Array Oper} {rest:List Oper} {o:Oper} {a:Act} {Q:Exit→Act→World→Prop}
theorem qbw (hg:o.guard=none) (m x:Operand) (t:TypeId) (hop:o.op=Op.lookup t m x true) (k e:TypeId) (K:Keyed P k) (ht:P.underlying t=some (.map k e)) {z:Value} (hz:(zeroValue e).run P w= .ok z w) (b:Nat) (L:List (qn×Value))
    (hm:a.eval m= .map (some b)) (hown:qai P w k b L) (key:Value) (kl:qn) (hx:a.eval x=key) (hkey:keyOf P k key=some (.string kl)) (v:Value) (hv:getL L kl=some v)
    (hK:wpList P ops Q rest (a.put o.dst (.tuple #[v,.bool true])) w):wpList P ops Q (o::rest) a w:=by
  refine wpList_plain hg fun K' hK'=> ?_
  have hrun:=hown.look_ok K ht hz hkey
  rw [hv] at hrun
  unfold Oper.wp
  simp [execOp,hop,hm,hx,hrun,Result.andThen]
  exact hK' _ _ hK
theorem qbx (hg:o.guard=none) (m x:Operand) (t:TypeId) (hop:o.op=Op.lookup t m x true) (k e:TypeId) (K:Keyed P k) (ht:P.underlying t=some (.map k e)) {z:Value} (hz:(zeroValue e).run P w= .ok z w) (b:Nat) (L:List (qn×Value))
    (hm:a.eval m= .map (some b)) (hown:qai P w k b L) (key:Value) (kl:qn) (hx:a.eval x=key) (hkey:keyOf P k key=some (.string kl)) (hv:getL L kl=none)
    (hK:wpList P ops Q rest (a.put o.dst (.tuple #[z,.bool false])) w):wpList P ops Q (o::rest) a w:=by
  refine wpList_plain hg fun K' hK'=> ?_
  have hrun:=hown.look_ok K ht hz hkey
  rw [hv] at hrun
  unfold Oper.wp
  simp [execOp,hop,hm,hx,hrun,Result.andThen]
  exact hK' _ _ hK
theorem qdp (hg:o.guard=none) (m x:Operand) (t:TypeId) (hop:o.op=Op.lookup t m x false) (k e:TypeId) (K:Keyed P k) (ht:P.underlying t=some (.map k e)) {z:Value} (hz:(zeroValue e).run P w= .ok z w) (b:Nat) (L:List (qn×Value))
    (hm:a.eval m= .map (some b)) (hown:qai P w k b L) (key:Value) (kl:qn) (hx:a.eval x=key) (hkey:keyOf P k key=some (.string kl)) (v:Value) (hv:getL L kl=some v)
    (hK:wpList P ops Q rest (a.put o.dst v) w):wpList P ops Q (o::rest) a w:=by
  refine wpList_plain hg fun K' hK'=> ?_
  have hrun:=hown.look K ht hz hkey
  rw [hv] at hrun
  unfold Oper.wp
  simp [execOp,hop,hm,hx,hrun,Result.andThen]
  exact hK' _ _ hK
theorem wpL_get (hg:o.guard=none) (m x:Operand) (t:TypeId) (hop:o.op=Op.lookup t m x false) (k e:TypeId) (K:Keyed P k) (ht:P.underlying t=some (.map k e)) {z:Value} (hz:(zeroValue e).run P w= .ok z w) (b:Nat) (L:List (qn×Value))
    (hm:a.eval m= .map (some b)) (hown:qai P w k b L) (key:Value) (kl:qn) (hx:a.eval x=key) (hkey:keyOf P k key=some (.string kl)) (v:Value) (hv:(getL L kl).getD z=v)
    (hK:wpList P ops Q rest (a.put o.dst v) w):wpList P ops Q (o::rest) a w:=by
  refine wpList_plain hg fun K' hK'=> ?_
  have hrun:=hown.look K ht hz hkey
  rw [hv] at hrun
  unfold Oper.wp
  simp [execOp,hop,hm,hx,hrun,Result.andThen]
  exact hK' _ _ hK
theorem wpL_len (hg:o.guard=none) (m:Operand) (t:TypeId) (hop:o.op=Op.call { callee:=Callee.builtin Builtin.len,args:= #[m],argTypes:= #[t] }) (k e:TypeId) (ht:P.underlying t=some (.map k e)) (b:Nat) (L:List (qn×Value))
    (hm:a.eval m= .map (some b)) (hown:qai P w k b L) (hK:wpList P ops Q rest (a.put o.dst (.int .i64 L.length)) w):wpList P ops Q (o::rest) a w:=by
  refine wpList_plain hg fun K' hK'=> ?_
  unfold Oper.wp
  simp [execOp,hop,resolve,invoke,builtin,hm,hown.len ht o.type,Result.andThen]
  exact hK' _ _ hK
theorem wpL_drop (hg:o.guard=none) (m x:Operand) (t k:TypeId) (hop:o.op=Op.call { callee:=Callee.builtin Builtin.delete,args:= #[m,x],argTypes:= #[t,k] }) (e:TypeId) (K:Keyed P k) (ht:P.underlying t=some (.map k e)) (b:Nat) (L:List (qn×Value))
    (hm:a.eval m= .map (some b)) (hown:qai P w k b L) (key:Value) (kl:qn) (hx:a.eval x=key) (hkey:keyOf P k key=some (.string kl))
    (hK: ∀ w',qai P w' k b (delL L kl)→w.mapTurned w' b→qf5 w w' b→wpList P ops Q rest (a.put o.dst (.tuple #[])) w'):wpList P ops Q (o::rest) a w:=by
  refine wpList_plain hg fun K' hK'=> ?_
  obtain ⟨w',hrun,r1,r2,r3⟩:=hown.drop K ht hkey o.type
  unfold Oper.wp
  simp [execOp,hop,resolve,invoke,builtin,hm,hx,hrun,Result.andThen]
  exact hK' _ _ (hK w' r1 r2 r3)
theorem wpL_store (hg:o.guard=none) (m x v:Operand) (t:TypeId) (hop:o.op=Op.mapUpdate t m x v) (k e:TypeId) (K:Keyed P k) (ht:P.underlying t=some (.map k e)) (b:Nat) (L:List (qn×Value))
    (hm:a.eval m= .map (some b)) (hown:qai P w k b L) (hn:L.length < maxLen) (key val:Value) (kl:qn) (hx:a.eval x=key) (hv:a.eval v=val) (hkey:keyOf P k key=some (.string kl))
    (hK: ∀ w',qai P w' k b (putL L kl val)→w.mapTurned w' b→wpList P ops Q rest (a.put o.dst undef) w'):wpList P ops Q (o::rest) a w:=by
  refine wpList_plain hg fun K' hK'=> ?_
  obtain ⟨w',hrun,r1,r2⟩:=hown.store K ht hn (val:=val) hkey
  unfold Oper.wp
  simp [execOp,hop,hm,hx,hv,hrun,Result.andThen]
  exact hK' _ _ (hK w' r1 r2)
end
end
section
open Go.RowKit Go.Maps Go.ChangeMaps Go.MapKept
open Go.WideElems (Fit rd rg rd_val)
def qdx (P:Program) (w:World) (k:TypeId) (b r:Nat) (L:List (qn×Value)) (todo:qn→Bool):Prop:=
  ∃ left cnt n,w.ranges P k qct b r n (qgw L) left cnt∧ ∀ x,left (.string x)=todo x
section
variable {P:Program} {w:World} {k:TypeId} {b r:Nat} {L:List (qn×Value)} {todo:qn→Bool}
theorem qdx.map (h:qdx P w k b r L todo):qai P w k b L:=by
  obtain ⟨left,cnt,n,h,_⟩:=h
  exact qfo h.owns
theorem qdx.ne (h:qdx P w k b r L todo):r≠b:=by
  obtain ⟨left,cnt,n,h,_⟩:=h
  exact h.ne
theorem qdx.lt (h:qdx P w k b r L todo):r < w.heap.size:=by
  obtain ⟨left,cnt,n,h,_⟩:=h
  exact h.lt
theorem qdx.kept {F:Nat→Prop} {w':World} (h:qdx P w k b r L todo) (hk:Kept F w w') (hb: ¬ F b) (hr: ¬ F r):qdx P w' k b r L todo:=by
  have l1:=h.map.lt
  have l2:=h.lt
  obtain ⟨left,cnt,n,⟨es,clock,since,seen,c0,h1,h2,h3,h4,h5,h6⟩,ht⟩:=h
  exact ⟨left,cnt,n,⟨es,clock,since,seen,c0,by rw [hk.block b l1 hb];exact h1,h2,h3,h4,by rw [hk.block r l2 hr];exact h5,h6⟩,ht⟩
theorem qal {F:Nat→Prop} {w':World} (h:qdx P w k b r L todo) (hk:Kept F w w') (hb: ¬ F b) (hr: ¬ F r):w'.rangeLeft b r=w.rangeLeft b r:=by
  unfold World.rangeLeft
  rw [hk.block b h.map.lt hb,hk.block r h.lt hr]
theorem qdx.there (h:qdx P w k b r L todo) {x:qn} (hx:todo x=true):(getL L x).isSome=true:=by
  obtain ⟨left,cnt,n,hr,ht⟩:=h
  have hm:qai P w k b L:=qfo hr.owns
  obtain ⟨es,clock,since,seen,c0,h1,F,h3,h4,h5,h6,h7,h8,h9,h10⟩:=hr
  obtain ⟨e,he,hek⟩:=h9 (.string x) (by rw [ht];exact hx)
  rw [← qff,h4,Maps.has_eq,List.any_eq_true]
  exact ⟨rg P k qct e,(mem_sorted).2 (List.mem_map.2 ⟨e,he,rfl⟩),by rw [hek];exact WideAt.sameKey_self trivial⟩
theorem qdx.shrunk {w':World} {L':List (qn×Value)} (h:qdx P w k b r L todo) (hs:qf5 w w' b) (hm:qai P w' k b L') (hr:w'.heap[r]? =w.heap[r]?):
    qdx P w' k b r L' (fun x=>todo x&&(getL L' x).isSome)∧w'.rangeLeft b r≤w.rangeLeft b r:=by
  have hne:=h.ne
  obtain ⟨left,cnt,n,⟨es,clock,since,seen,c0,h1,F,h3,h4,h5,h6,h7,h8,h9,h10,h11⟩,ht⟩:=h
  obtain ⟨es0,clk,es',g1,g2,g3⟩:=hs
  rw [h1] at g1
  simp only [Option.some.injEq,Obj.map.injEq] at g1
  obtain ⟨rfl,rfl⟩:=g1
  obtain ⟨es1,clk1,m1,F',m3,m4⟩:=hm
  rw [g2] at m1
  simp only [Option.some.injEq,Obj.map.injEq] at m1
  obtain ⟨rfl,rfl⟩:=m1
  have hsz: ∀ a:Array MapEntry,(leftOf a seen).size=(a.toList.filter fun e=> !seen.contains e.born).length:=fun a=>by
    unfold leftOf
    rw [← Array.toList_filter,Array.length_toList]
  have hkey: ∀ e∈es'.toList,∃ x,(rg P k qct e).1= .string x∧(getL L' x).isSome=true:=fun e he=>by
    have hmem:rg P k qct e∈L'.map qgv:=by
      simp only [DataW.map.injEq] at m4
      rw [m4]
      exact (mem_sorted).2 (List.mem_map.2 ⟨e,he,rfl⟩)
    obtain ⟨p,hp,hpe⟩:=List.mem_map.1 hmem
    refine ⟨p.1,by rw [← hpe];rfl,?_⟩
    rw [← qff,Maps.has_eq,List.any_eq_true]
    exact ⟨qgv p,List.mem_map.2 ⟨p,hp,rfl⟩,WideAt.sameKey_self trivial⟩
  have hins: ∀ {p:Lit×DataW Value},p∈L'.map qgv→ ∃ e∈es'.toList,rg P k qct e=p:=fun {p} hp=>by
    simp only [DataW.map.injEq] at m4
    rw [m4] at hp
    obtain ⟨e,he,hpe⟩:=List.mem_map.1 ((mem_sorted).1 hp)
    exact ⟨e,he,hpe⟩
  constructor
  · refine ⟨fun z=>left z&&Maps.has (qgw L') z,_,L'.length,⟨es',clock,since,seen,c0,g2,F',m3,m4,by rw [hr];exact h5,fun x hx=>h6 x (g3.subset hx),rfl,fun x hx=> ?_,fun kl hkl=> ?_,h10,h11⟩,fun x=>by show (left (.string x)&&Maps.has (qgw L') (.string x))=_;rw [qff,ht]⟩
    · obtain ⟨y,hy1,hy2⟩:=hkey x hx
      show (left (rg P k qct x).1&&Maps.has (qgw L') (rg P k qct x).1)=_
      rw [h8 x (g3.subset hx),hy1,qff,hy2,Bool.and_true]
    · simp only [Bool.and_eq_true] at hkl
      obtain ⟨p,hp,rfl⟩:=has_other hkl.2
      obtain ⟨e,he,hpe⟩:=hins (List.mem_map.2 ⟨p,hp,rfl⟩)
      exact ⟨e,he,by rw [hpe];rfl⟩
  · unfold World.rangeLeft
    rw [g2,hr,h1,h5]
    simp only [hsz]
    exact (g3.filter _).length_le
end
section
variable {P:Program} (w:World) {ops:Array Oper} {rest:List Oper} {o:Oper} {a:Act} {Q:Exit→Act→World→Prop}
theorem qgz (hg:o.guard=none) (m:Operand) (t:TypeId) (hop:o.op=Op.range t m) (k e:TypeId) (K:Keyed P k) (ht:P.underlying t=some (.map k e)) (b:Nat) (L:List (qn×Value))
    (hm:a.eval m= .map (some b)) (hown:qai P w k b L)
    (hK: ∀ w',qdx P w' k b w.heap.size L (fun x=>(getL L x).isSome)→Below w.heap.size w w'→w'.heap.size=w.heap.size+1→wpList P ops Q rest (a.put o.dst (.pointer (some ⟨w.heap.size,0,none⟩))) w'):
    wpList P ops Q (o::rest) a w:=
  wpList_range_own w hg m t hop k e K ht qct b L.length (qgw L) hm hown fun w' h1 h2 h3=>
    hK w' ⟨_,_,_,h1,fun x=>qff L x⟩ ⟨h2.os,h2.tape,h2.output,h2.size,fun i hi=>h2.block i hi (by simp)⟩ h3
theorem qe5 {α β:Type} (hg:o.guard=none) (it:Operand) (hop:o.op=Op.next it false) (k:TypeId) (K:Keyed P k) (mkK:α→Value) (mkV:β→Value) (b r:Nat) (L:List (qn×Value)) (todo:qn→Bool)
    (invK: ∀ key kl,keyOf P k key=some kl→ ∃ x,key=mkK x) (invV: ∀ kb v,getL L kb=some v→ ∃ c,v=mkV c)
    (hit:a.eval it= .pointer (some ⟨r,0,none⟩)) (h:qdx P w k b r L todo)
    (hDone:(∀ x,todo x=false)→wpList P ops Q rest (a.put o.dst (.tuple #[.bool false])) w)
    (hMore: ∀ (x:α) (c:β) (kb:qn) (w':World),keyOf P k (mkK x)=some (.string kb)→todo kb=true→getL L kb=some (mkV c)→qdx P w' k b r L (fun z=>todo z&& !(z==kb))→w'.rangeLeft b r < w.rangeLeft b r→
      Kept (fun i=>i=r) w w'→w'.heap.size=w.heap.size→(Instr.entry (.pointer (some ⟨r,0,none⟩))).run P w'= .ok (.tuple #[mkK x,mkV c]) w'→wpList P ops Q rest (a.put o.dst (.tuple #[.bool true,mkK x,mkV c])) w'):
    wpList P ops Q (o::rest) a w:=by
  refine wpList_plain hg fun K' hK'=> ?_
  unfold Oper.wp
  have H:=h
  obtain ⟨left,cnt,n,hr,ht⟩:=h
  rcases hr.next K o.type with ⟨h0,hl,hrun⟩| ⟨key,v,kl,y,w',cnt',hkey,hlk,hv,hat,hrun,hrg,hlt,hgr,hsz,hen⟩
  · simp [execOp,hop,hit,hrun,Result.andThen]
    exact hK' _ _ (hDone fun x=>by rw [← ht];exact hl _)
  · have hhas:Maps.has (qgw L) kl=true:=Maps.has_true_of_atKey hat
    obtain ⟨p,hp,rfl⟩:=has_other hhas
    have hget:getL L p.1=some v:=by
      have h1:=hat (.held undef)
      rw [atKey_datOf] at h1
      simp only [qct,Option.some.injEq] at hv
      subst hv
      cases hg:getL L p.1
      · rw [qff,hg] at hhas
        cases hhas
      · rw [hg] at h1
        simpa using h1
    obtain ⟨x,rfl⟩:=invK key _ hkey
    obtain ⟨c,rfl⟩:=invV _ _ hget
    simp [execOp,hop,hit,hrun,Result.andThen]
    refine hK' _ _ (hMore x c p.1 w' hkey (by rw [← ht];exact hlk) hget ⟨_,_,_,hrg,fun z=> ?_⟩ (by rw [hrg.left_eq,hr.left_eq];exact hlt) ⟨hgr.os,hgr.tape,hgr.output,hgr.size,fun i hi hF=>hgr.block i hi (fun e=>hF (Option.some.inj e))⟩ hsz hen)
    rw [ht]
    rfl
end
end
section
section
variable {α β:Type}
theorem qec {L:List (qn×α)} {k:qn}:getL L k=none↔ ∀ p∈L,p.1≠k:=by
  induction L with
  | nil=>simp [getL]
  | cons p r ih=>
    unfold getL
    by_cases h:p.1=k
    · simp [h]
    · simp [h,ih]
theorem qar {L:List (qn×α)} {k:qn} {v:α} (h:getL L k=some v):(k,v)∈L:=by
  induction L with
  | nil=>simp [getL] at h
  | cons p r ih=>
    unfold getL at h
    by_cases hp:p.1=k
    · subst hp
      simp at h
      subst h
      exact List.mem_cons_self
    · simp [hp] at h
      exact List.mem_cons_of_mem _ (ih h)
theorem qcs: ∀ k:qn,bytesBefore k k=false
  | []=>rfl
  | x::r=>by
    simp [bytesBefore,qcs r]
theorem qad.distinct {L:List (qn×α)} (h:qad L):L.Pairwise fun p q=>p.1≠q.1:=
  List.Pairwise.imp (fun {p q} hb e=>by rw [e,qcs] at hb;cases hb) h
theorem qac {L:List (qn×α)} (hs:L.Pairwise fun p q=>p.1≠q.1) {k:qn} {v:α} (h:(k,v)∈L):getL L k=some v:=by
  induction L with
  | nil=>simp at h
  | cons p r ih=>
    rw [List.pairwise_cons] at hs
    unfold getL
    rcases List.mem_cons.1 h with rfl| h
    · simp
    · have:p.1≠k:=hs.1 _ h
      simp [this,ih hs.2 h]
theorem qdk (L:List (qn×α)) (k:qn):getL (delL L k) k=none:=by
  rw [qec]
  intro p hp
  unfold delL at hp
  simp at hp
  exact hp.2
theorem qb0 (L:List (qn×α)) {k k':qn} (h:k'≠k):getL (delL L k) k'=getL L k':=by
  induction L with
  | nil=>rfl
  | cons p r ih=>
    unfold delL at ih ⊢
    rw [List.filter_cons]
    by_cases hp:p.1=k
    · have:p.1≠k':=fun e=>h (by rw [← e,hp])
      simp [hp] at ih ⊢
      rw [ih]
      simp [getL,this]
    · simp [hp] at ih ⊢
      simp only [getL,ih]
theorem getL_insL_same {L:List (qn×α)} {k:qn} (v:α) (h:getL L k=none):getL (insL (k,v) L) k=some v:=by
  induction L with
  | nil=>simp [insL,getL]
  | cons p r ih=>
    unfold getL at h
    by_cases hp:p.1=k
    · simp [hp] at h
    · simp [hp] at h
      unfold insL
      split
      · simp [getL]
      · simp [getL,hp,ih h]
theorem getL_insL_other (L:List (qn×α)) {k k':qn} (v:α) (h:k'≠k):getL (insL (k,v) L) k'=getL L k':=by
  induction L with
  | nil=>simp [insL,getL,Ne.symm h]
  | cons p r ih=>
    unfold insL
    split
    · simp [getL,Ne.symm h]
    · simp only [getL,ih]
theorem qap (L:List (qn×α)) (k:qn) (v:α):getL (putL L k v) k=some v:=getL_insL_same v (qdk L k)
theorem qaj (L:List (qn×α)) {k k':qn} (v:α) (h:k'≠k):getL (putL L k v) k'=getL L k':=by
  unfold putL
  rw [getL_insL_other _ _ h,qb0 _ h]
theorem length_insL (x:qn×α) (L:List (qn×α)):(insL x L).length=L.length+1:=by
  induction L with
  | nil=>rfl
  | cons p r ih=>
    unfold insL
    split
    · rfl
    · simp [ih]
theorem qgj {L:List (qn×α)} {k:qn} (h:getL L k=none):delL L k=L:=by
  unfold delL
  rw [List.filter_eq_self]
  intro p hp
  simpa using qec.1 h p hp
theorem length_delL {L:List (qn×α)} (hs:L.Pairwise fun p q=>p.1≠q.1) {k:qn} (h:(getL L k).isSome=true):(delL L k).length+1=L.length:=by
  induction L with
  | nil=>simp [getL] at h
  | cons p r ih=>
    rw [List.pairwise_cons] at hs
    unfold getL at h
    unfold delL at ih ⊢
    by_cases hp:p.1=k
    · have:getL r k=none:=qec.2 fun q hq e=>hs.1 q hq (hp.trans e.symm)
      have h2:=qgj this
      unfold delL at h2
      rw [List.filter_cons]
      simp only [hp,beq_self_eq_true,Bool.not_true,Bool.false_eq_true,if_false,h2,List.length_cons]
    · simp [hp] at h
      rw [List.filter_cons]
      simp [hp] at ih ⊢
      exact ih hs.2 h
theorem length_putL_none {L:List (qn×α)} {k:qn} (v:α) (h:getL L k=none):(putL L k v).length=L.length+1:=by
  unfold putL
  rw [length_insL,qgj h]
theorem length_putL_some {L:List (qn×α)} (hs:L.Pairwise fun p q=>p.1≠q.1) {k:qn} (v:α) (h:(getL L k).isSome=true):(putL L k v).length=L.length:=by
  unfold putL
  rw [length_insL,length_delL hs h]
theorem qgu (L:List (qn×α)) (k:qn):(delL L k).length≤L.length:=List.length_filter_le _ _
theorem mem_insL {x y:qn×α} {L:List (qn×α)}:y∈insL x L↔y=x∨y∈L:=by
  induction L with
  | nil=>simp [insL]
  | cons p r ih=>
    unfold insL
    split
    · simp
    · simp only [List.mem_cons,ih]
      constructor
      · rintro (h| h| h)<;>simp [h]
      · rintro (h| h| h)<;>simp [h]
theorem qfp {L:List (qn×α)} {k:qn} {v:α} {y:qn×α}:y∈putL L k v↔y=(k,v)∨(y∈L∧y.1≠k):=by
  unfold putL
  rw [mem_insL]
  unfold delL
  simp
theorem qd7 {L:List (qn×α)} {k:qn} {y:qn×α}:y∈delL L k↔y∈L∧y.1≠k:=by
  unfold delL
  simp
def RelL (R:α→β→Prop):List (qn×α)→List (qn×β)→Prop
  | [],[]=>True
  | p::r,q::s=>p.1=q.1∧R p.2 q.2∧RelL R r s
  | _,_=>False
variable {R:α→β→Prop}
theorem RelL.length: ∀ {L:List (qn×α)} {M:List (qn×β)},RelL R L M→L.length=M.length
  | [],[],_=>rfl
  | _::r,_::s,h=>by simp [RelL.length (L:=r) (M:=s) h.2.2]
  | [],_::_,h=>h.elim
  | _::_,[],h=>h.elim
theorem RelL.mono {R':α→β→Prop}: ∀ {L:List (qn×α)} {M:List (qn×β)},RelL R L M→(∀ p∈L,∀ q∈M,p.1=q.1→R p.2 q.2→R' p.2 q.2)→RelL R' L M
  | [],[],_,_=>trivial
  | _::r,_::s,h,hm=>⟨h.1,hm _ List.mem_cons_self _ List.mem_cons_self h.1 h.2.1,RelL.mono (L:=r) (M:=s) h.2.2 fun p hp q hq=>hm p (List.mem_cons_of_mem _ hp) q (List.mem_cons_of_mem _ hq)⟩
  | [],_::_,h,_=>h.elim
  | _::_,[],h,_=>h.elim
theorem RelL.getSome: ∀ {L:List (qn×α)} {M:List (qn×β)},RelL R L M→ ∀ {k:qn} {v:α},getL L k=some v→ ∃ x,getL M k=some x∧R v x
  | [],[],_,k,v,h=>by simp [getL] at h
  | p::r,q::s,h,k,v,hv=>by
    unfold getL at hv ⊢
    rw [← h.1]
    cases hp:(p.1==k)
    · simp [hp] at hv
      simpa using RelL.getSome (L:=r) (M:=s) h.2.2 hv
    · simp [hp] at hv
      subst hv
      exact ⟨q.2,by simp,h.2.1⟩
  | [],_::_,h,_,_,_=>h.elim
  | _::_,[],h,_,_,_=>h.elim
theorem RelL.getOf: ∀ {L:List (qn×α)} {M:List (qn×β)},RelL R L M→ ∀ {k:qn} {x:β},getL M k=some x→ ∃ v,getL L k=some v∧R v x
  | [],[],_,k,v,h=>by simp [getL] at h
  | p::r,q::s,h,k,v,hv=>by
    unfold getL at hv ⊢
    rw [h.1]
    cases hp:(q.1==k)
    · simp [hp] at hv
      simpa using RelL.getOf (L:=r) (M:=s) h.2.2 hv
    · simp [hp] at hv
      subst hv
      exact ⟨p.2,by simp,h.2.1⟩
  | [],_::_,h,_,_,_=>h.elim
  | _::_,[],h,_,_,_=>h.elim
theorem RelL.isSome {L:List (qn×α)} {M:List (qn×β)} (h:RelL R L M) (k:qn):(getL L k).isSome=(getL M k).isSome:=by
  cases h1:getL L k with
  | some v=>
    obtain ⟨x,hx,_⟩:=h.getSome h1
    rw [hx];rfl
  | none=>
    cases h2:getL M k with
    | none=>rfl
    | some x=>
      obtain ⟨v,hv,_⟩:=h.getOf h2
      rw [h1] at hv
      cases hv
theorem RelL.filter (f:qn→Bool): ∀ {L:List (qn×α)} {M:List (qn×β)},RelL R L M→RelL R (L.filter fun p=>f p.1) (M.filter fun p=>f p.1)
  | [],[],_=>trivial
  | p::r,q::s,h=>by
    rw [List.filter_cons,List.filter_cons,← h.1]
    cases f p.1
    · simpa using RelL.filter f (L:=r) (M:=s) h.2.2
    · simpa using ⟨h.1,h.2.1,RelL.filter f (L:=r) (M:=s) h.2.2⟩
  | [],_::_,h=>h.elim
  | _::_,[],h=>h.elim
theorem RelL.del {L:List (qn×α)} {M:List (qn×β)} (h:RelL R L M) (k:qn):RelL R (delL L k) (delL M k):=h.filter fun x=> !(x==k)
theorem RelL.ins {k:qn} {v:α} {x:β} (hv:R v x): ∀ {L:List (qn×α)} {M:List (qn×β)},RelL R L M→RelL R (insL (k,v) L) (insL (k,x) M)
  | [],[],_=>⟨rfl,hv,trivial⟩
  | p::r,q::s,h=>by
    unfold insL
    simp only [← h.1]
    split
    · exact ⟨rfl,hv,h⟩
    · exact ⟨h.1,h.2.1,RelL.ins hv (L:=r) (M:=s) h.2.2⟩
  | [],_::_,h=>h.elim
  | _::_,[],h=>h.elim
theorem RelL.put {L:List (qn×α)} {M:List (qn×β)} (h:RelL R L M) (k:qn) {v:α} {x:β} (hv:R v x):RelL R (putL L k v) (putL M k x):=RelL.ins hv (h.del k)
theorem sortedL_keys {L:List (qn×α)} {M:List (qn×β)} (h:L.map (·.1)=M.map (·.1)) (hs:qad L):qad M:=by
  have h1:(L.map (·.1)).Pairwise fun x y=>bytesBefore x y=true:=List.pairwise_map.2 hs
  rw [h] at h1
  exact List.pairwise_map.1 h1
theorem qad.filter {L:List (qn×α)} (h:qad L) (f:qn×α→Bool):qad (L.filter f):=List.Pairwise.filter f h
end
end
end Go.Proofs.YtchddaafibjmgaaGreat
