import Derived.Test.YtchddaafibjmgaaGreatMD14
import Derived.Deep.RegionHeld3
import Derived.Great.Frames
import Derived.Great.BuildSlice
set_option maxRecDepth 100000
set_option maxHeartbeats 20000000
namespace Go.Proofs.YtchddaafibjmgaaGreat
section
open Go.RowKit
section
variable {P:Program} {ops:Array Oper} {Q:Exit→Act→World→Prop} {md:Region.Mode} {S:World→Prop} {m:Nat}
def qbh (P:Program) (md:Region.Mode) (ops:Array Oper) (Q:Exit→Act→World→Prop) (S:World→Prop) (m:Nat):Nat→Array Bool→Act→World→Prop
 | 0,listed,a,w=>Region.ready md ops listed= []∧Q .normal a w
 | fuel+1,listed,a,w=>(Region.ready md ops listed= []→Q .normal a w)∧ ∀ i∈Region.ready md ops listed,wpOp P ops Q i (fun a' w'=>(i≠m→S w')∧qbh P md ops Q S m fuel (listed.setIfInBounds i true) a' w') a w
theorem any_of_upto: ∀ (fuel:Nat) (listed:Array Bool) (a:Act) (w:World),qbh P md ops Q S m fuel listed a w→wpAny P md ops Q fuel listed a w
 | 0,_,_,_,h=>h
 | n+1,_,_,_,h=>And.intro h.1 fun i hi=>wpOp_mono (fun a' w' h'=>any_of_upto n _ a' w' h'.2) (h.2 i hi)
theorem qfy (m:Nat) (S:World→Prop) (listed:Array Bool) {id:Nat} {a:Act} {w:World} (hm:P.follows .mixedOrders=true) (hl:Array.replicate ops.size false=listed) (h:qbh P .any ops Q S m ops.size listed a w.drew):(Code.region id ops true).wp P Q a w:=
 wp_region_any hm (any_of_upto _ _ _ _ (hl▸h))
def waitsFor (md:Region.Mode) (ops:Array Oper) (i c:Nat):Bool:=((ops[c]?).map fun o=>o.after.any fun e=>Region.binds md e&&e.on==i).getD false
def leadsTo (md:Region.Mode) (ops:Array Oper):List Nat→Nat→Nat→Bool
 | [],i,m=>waitsFor md ops i m
 | c::cs,i,m=>waitsFor md ops i c&&leadsTo md ops cs c m
def closedB (md:Region.Mode) (ops:Array Oper) (listed:Array Bool):Bool:=(List.range ops.size).all fun j=> !listed.getD j false || ((ops[j]?).map fun o=>o.after.all fun e=> !Region.binds md e || listed.getD e.on false).getD true
theorem waits_spec {i c:Nat} (h:waitsFor md ops i c=true): ∃ o,ops[c]? =some o∧ ∃ e∈o.after,Region.binds md e=true∧e.on=i:=by
 unfold waitsFor at h
 cases ho:ops[c]? with
 | none=>rw [ho] at h;simp at h
 | some o=>
  rw [ho] at h
  simp only [Option.map_some,Option.getD_some] at h
  obtain ⟨e,he,hb⟩:=Array.any_eq_true'.1 h
  simp only [Bool.and_eq_true,beq_iff_eq] at hb
  exact ⟨o,rfl,e,he,hb.1,hb.2⟩
theorem closed_spec {listed:Array Bool} (h:closedB md ops listed=true) {c:Nat} {o:Oper} (ho:ops[c]? =some o) (hl:listed.getD c false=true) {e:Edge} (he:e∈o.after) (hb:Region.binds md e=true):listed.getD e.on false=true:=by
 unfold closedB at h
 rw [List.all_eq_true] at h
 have h1:=h c (List.mem_range.2 (Array.getElem?_eq_some_iff.1 ho).1)
 rw [hl,ho] at h1
 simp only [Bool.not_true,Bool.false_or,Option.map_some,Option.getD_some] at h1
 have h2:=Array.all_eq_true_iff_forall_mem.1 h1 e he
 rw [hb] at h2
 simpa using h2
def Closed (md:Region.Mode) (ops:Array Oper) (listed:Array Bool):Prop:= ∀ c o,ops[c]? =some o→listed.getD c false=true→ ∀ e∈o.after,Region.binds md e=true→listed.getD e.on false=true
theorem Closed.step {listed:Array Bool} (h:Closed md ops listed) {j:Nat} (hj:j∈Region.ready md ops listed):Closed md ops (listed.setIfInBounds j true):=by
 intro c o ho hl e he hb
 obtain ⟨_,o',ho',hall⟩:=mem_ready.1 hj
 refine getD_set_true ?_
 by_cases hjc:j=c
 ·subst hjc
  rw [ho] at ho'
  cases ho'
  exact hall e he hb
 ·rw [getD_set_ne false hjc] at hl
  exact h c o ho hl e he hb
theorem Closed.notReady {listed:Array Bool} (h:Closed md ops listed): ∀ (cs:List Nat) (i m:Nat),leadsTo md ops cs i m=true→listed.getD i false=false→m∉Region.ready md ops listed
 | [],i,m,hl,hi,hm=>by
  obtain ⟨o,ho,e,he,hb,rfl⟩:=waits_spec hl
  obtain ⟨_,o',ho',hall⟩:=mem_ready.1 hm
  rw [ho] at ho'
  cases ho'
  rw [hall e he hb] at hi
  cases hi
 | c::cs,i,m,hl,hi,hm=>by
  unfold leadsTo at hl
  rw [Bool.and_eq_true] at hl
  obtain ⟨o,ho,e,he,hb,rfl⟩:=waits_spec hl.1
  refine Closed.notReady h cs c m hl.2 ?_ hm
  cases hc:listed.getD c false with
  | false=>rfl
  | true=>rw [h c o ho hc e he hb] at hi;cases hi
theorem unlisted {listed:Array Bool} {i:Nat} (h:listed.getD i true=false):listed.getD i false=false:=by
 rcases Nat.lt_or_ge i listed.size with h'| h'
 ·simp [h'] at h ⊢
  exact h
 ·simp [Array.getElem?_eq_none h'] at h
theorem wpUpto_first {i:Nat} {oi:Oper} {v:Value} {cs:List Nat} (hi:ops[i]? =some oi) (hsel: ∀ (j:Nat) (o:Oper) cs b,ops[j]? =some o→o.op≠ .select cs b) (hQ: ∀ c a w,Q (.panic c) (a.put oi.dst v) w→Q (.panic c) a w) (hl:leadsTo md ops cs i m=true):
  ∀ (fuel:Nat) (listed:Array Bool) (a:Act) (w:World),Closed md ops listed→
   (∀ j oj,ops[j]? =some oj→j≠i→listed.getD j true=false→(∀ e∈oj.after,Region.binds md e=true→e.on≠i)→oi.apart ops oj=true)→
   i∈Region.ready md ops listed→YieldsIf P ops S oi v a→S w→qbh P md ops Q S m fuel (listed.setIfInBounds i true) (a.put oi.dst v) w→qbh P md ops Q S m (fuel+1) listed a w:=by
 intro fuel
 induction fuel with
 | zero=>
  intro listed a w _ _ hr hy hS H
  refine And.intro (fun h=>by rw [h] at hr;cases hr) fun j hj=> ?_
  by_cases e:j=i
  ·subst e
   exact hy.wpOp hi hS ⟨fun _=>hS,H⟩
  ·have:=ready_mono hj e
   rw [H.1] at this
   cases this
 | succ n ih=>
  intro listed a w hc hfree hr hy hS H
  refine And.intro (fun h=>by rw [h] at hr;cases hr) fun j hj=> ?_
  by_cases e:j=i
  ·subst e
   exact hy.wpOp hi hS ⟨fun _=>hS,H⟩
  ·have hun:=(mem_ready.1 hr).1
   have hjm:j≠m:=fun ejm=>by
    subst ejm
    exact hc.notReady cs i j hl (unlisted hun) hj
   obtain ⟨hjun,oj,hoj,hall⟩:=mem_ready.1 hj
   have hnot: ∀ e∈oj.after,Region.binds md e=true→e.on≠i:=fun e' he' hb' heq=>by
    have h1:=hall e' he' hb'
    rw [heq,unlisted hun] at h1
    cases h1
   have h2:=wpOp_putIf hoj (hfree j oj hoj e hjun hnot) (fun cs b=>hsel i oi cs b hi) (fun cs b=>hsel j oj cs b hoj) hQ hy (H.2 j (ready_mono hj e))
   refine wpOp_mono (fun a' w' h3=>⟨h3.2.1,ih (listed.setIfInBounds j true) a' w' (hc.step hj) (fun k ok hk hki hku hno=>hfree k ok hk hki ?_ hno) (ready_mono hr (Ne.symm e)) h3.1 (h3.2.1 hjm) ?_⟩) h2
   ·by_cases hjk:j=k
    ·subst hjk
     exact hjun
    ·rw [getD_set_ne true hjk] at hku
     exact hku
   ·rw [Array.setIfInBounds_comm _ _ e]
    exact h3.2.2
theorem closed_of {listed:Array Bool} (h:closedB md ops listed=true):Closed md ops listed:=fun _ _ ho hl _ he hb=>closed_spec h ho hl he hb
theorem qr (i:Nat) (cs:List Nat) (d:Option Tmp) (v:Value) {fuel:Nat} {listed:Array Bool} {a:Act} {w:World} (hd:(ops[i]?).map (fun o=>o.dst)=some d) (hs:(Region.noSelect ops&&Region.free md ops listed i&&(Region.ready md ops listed).contains i&&leadsTo md ops cs i m&&closedB md ops listed)=true)
  (hQ: ∀ c a w,Q (.panic c) (a.put d v) w→Q (.panic c) a w) (hy: ∀ oi,ops[i]? =some oi→YieldsIf P ops S oi v a) (hS:S w) (h:qbh P md ops Q S m fuel (listed.setIfInBounds i true) (a.put d v) w):qbh P md ops Q S m (fuel+1) listed a w:=by
 obtain ⟨oi,hoi,rfl⟩:=Option.map_eq_some_iff.1 hd
 simp only [Bool.and_eq_true] at hs
 obtain ⟨⟨⟨⟨s1,s2⟩,s3⟩,s4⟩,s5⟩:=hs
 exact wpUpto_first hoi (Region.noSelect_spec s1) hQ s4 fuel listed a w (closed_of s5) (Region.free_spec hoi s2) (by simpa using s3) (hy oi hoi) hS h
def qaa (P:Program) (md:Region.Mode) (ops:Array Oper) (Q:Exit→Act→World→Prop) (S:World→Prop) (m fuel:Nat) (listed:Array Bool) (a:Act) (w:World) (rs:List Nat):Prop:=
 ∀ i∈rs,wpOp P ops Q i (fun a' w'=>(i≠m→S w')∧qbh P md ops Q S m fuel (listed.setIfInBounds i true) a' w') a w
theorem qaa.nil {fuel:Nat} {listed:Array Bool} {a:Act} {w:World}:qaa P md ops Q S m fuel listed a w []:=fun _ h=>by cases h
theorem qaa.cons {fuel:Nat} {listed:Array Bool} {a:Act} {w:World} {i:Nat} {rs:List Nat} (hi:(ops[i]?).isSome=true)
  (h: ∀ o,ops[i]? =some o→ ∀ K':Act→World→Prop,Shut (∀ a w,(i≠m→S w)→((i≠m→S w)→qbh P md ops Q S m fuel (listed.setIfInBounds i true) a w)→K' a w)→if Region.wanted o (yielded ops a.tmps)=true then Oper.wp P o a w K' Q else K' (a.put o.dst undef) w)
  (hs:qaa P md ops Q S m fuel listed a w rs):qaa P md ops Q S m fuel listed a w (i::rs):=fun j hj=>by
 rcases List.mem_cons.1 hj with rfl| hj
 ·obtain ⟨o,ho⟩:=Option.isSome_iff_exists.1 hi
  exact wpOp_step ho fun K' hK=>h o ho K' fun a w hS hW=>hK a w ⟨hS,hW hS⟩
 ·exact hs j hj
theorem qaf (listed:Array Bool) (rs:List Nat) {fuel:Nat} {a:Act} {w:World} (hr:Region.ready md ops listed=rs) (hne:rs≠ []) (h:qaa P md ops Q S m fuel listed a w rs):qbh P md ops Q S m (fuel+1) listed a w:=
 And.intro (fun h0=>absurd (hr▸h0) hne) (hr▸h)
theorem qfu {listed:Array Bool} {a:Act} {w:World} (hr:Region.ready md ops listed= []) (h:Q .normal a w): ∀ fuel,qbh P md ops Q S m fuel listed a w
 | 0=>And.intro hr h
 | _+1=>And.intro (fun _=>h) (by rw [hr];simp)
end
def qeh (e le:TypeId) (mk:List Value) (u v:Value) (c n:Nat) (xs:List Value) (X i:Nat) (w w':World):Prop:=
 ∃ w1 W3 W ao cp l,w'=W.setCell ⟨X,i,none⟩ (.slice ao (c+4) cp)∧Kept (fun b=>u.ownBlock=some b) w w1∧MG e mk w1 u.ownBlock W3 l∧Kept (fun b=>v.ownBlock=some b) W3 W∧l.length=4∧(∀ x∈l,x.n≤n+3)∧W.ownsRow 0 le 1 (.slice ao (c+4) cp) (c+4) (xs++l.map Bk.val)∧
  ((Value.slice ao (c+4) cp).ownBlock=v.ownBlock∨ ∀ k,(Value.slice ao (c+4) cp).ownBlock=some k→w.heap.size≤k)
theorem qeh.kept {e le:TypeId} {mk:List Value} {u v:Value} {c n:Nat} {xs:List Value} {X i:Nat} {w w':World} (h:qeh e le mk u v c n xs X i w w'):Kept (fun b=>u.ownBlock=some b∨v.ownBlock=some b∨b=X) w w':=by
 obtain ⟨w1,W3,W,ao,cp,l,rfl,k1,M,k3,_⟩:=h
 exact (((k1.mono fun b _ h=> .inl h).trans M.kept fun b _ h=> .inl h).trans k3 fun b _ h=> .inr (.inl h)).setCell (p:=⟨X,i,none⟩) (fun _=> .inr (.inr rfl)) _
theorem keep_close {X i:Nat} {e le:TypeId} {mk:List Value} {w wr W3 W4:World} {oo ao1 ao2 ao3 ao4:Option Addr} {k oc cp1 cp2 cp3 cp4:Nat} {l0 l1 l2 l3:List Bk} {v0:Value} {c:Nat} {xs:List Value} {ob:Obj}
  (h0:l0= [⟨oo,k,oc⟩]) (h1:l1=l0++ [⟨ao1,k+1,cp1⟩]) (h2:l2=l1++ [⟨ao2,k+2,cp2⟩]) (h3:l3=l2++ [⟨ao3,k+3,cp3⟩]) (M3:MG e mk wr (Value.slice oo k oc).ownBlock W3 l3) (K:Kept (fun b=>(Value.slice oo k oc).ownBlock=some b) w wr) (K4:Kept (fun b=>v0.ownBlock=some b) (W3.alloc ob) W4)
  (R4:W4.ownsRow 0 le 1 (.slice ao4 (c+4) cp4) (c+4) (xs++ [.slice oo k oc,.slice ao1 (k+1) cp1,.slice ao2 (k+2) cp2,.slice ao3 (k+3) cp3])) (F4:(Value.slice ao4 (c+4) cp4).ownBlock=v0.ownBlock∨ ∀ q,(Value.slice ao4 (c+4) cp4).ownBlock=some q→(W3.alloc ob).heap.size≤q):
  qeh e le mk (.slice oo k oc) v0 c k xs X i w (W4.setCell ⟨X,i,none⟩ (.slice ao4 (c+4) cp4)):=by
 subst h0 h1 h2 h3
 refine ⟨wr,W3,W4,ao4,cp4,_,rfl,K,M3,((Kept.refl _ _).alloc ob).trans K4 fun _ _ h=>h,rfl,fun x hx=> ?_,R4,F4.imp id fun h q hq=> ?_⟩
 ·simp only [List.cons_append,List.nil_append,List.mem_cons,List.not_mem_nil,or_false] at hx
  rcases hx with rfl| rfl| rfl| rfl<;>dsimp only<;>omega
 ·have h1:=h q hq
  have h2:=K.size
  have h3:=M3.kept.size
  simp at h1
  omega
end
section
open Go.RowKit
theorem qeh.before {e le:TypeId} {mk:List Value} {u v:Value} {c n:Nat} {xs:List Value} {X i:Nat} {w0 w w':World} (h:qeh e le mk u v c n xs X i w w') (hb:Below w0.heap.size w0 w):qeh e le mk u v c n xs X i w0 w':=by
 obtain ⟨w1,W3,W,ao,cp,l,rfl,k1,M,k3,h4,hn,hr,hv⟩:=h
 exact ⟨w1,W3,W,ao,cp,l,rfl,(Kept.of_below hb).trans k1 fun _ _ h=>h,M,k3,h4,hn,hr,hv.imp id fun h k hk=>Nat.le_trans hb.size (h k hk)⟩
theorem qeh.box {e le t:TypeId} {mk:List Value} {u v:Value} {c n:Nat} {xs:List Value} {X i:Nat} {w w':World} {cs:Array Value} (h:qeh e le mk u v c n xs X i w w') (hX:w.heap[X]? =some (.cells cs t (0,0))) (hu:u.ownBlock≠some X) (hv: ¬ v.ownBlock=some X): ∃ v',w'.heap[X]? =some (.cells (cs.setIfInBounds i v') t (0,0)):=by
 obtain ⟨w1,W3,W,ao,cp,l,rfl,k1,M,k3,_⟩:=h
 have lX:=qo hX
 refine ⟨_,qs (i:=i) ?_ _⟩
 rw [k3.block X (Nat.lt_of_lt_of_le lX (Nat.le_trans k1.size M.kept.size)) hv,M.kept.block X (Nat.lt_of_lt_of_le lX k1.size) hu,k1.block X lX hu]
 exact hX
theorem step_run {P:Program} {ops:Array Oper} {o:Oper} {a:Act} {w:World} {K:Act→World→Prop} {Q:Exit→Act→World→Prop} {E:Prop} (v:Value) (w':World) (hg:o.guard=none) (hr:(execOp a.eval o).run P w= .ok (.value v) w') (hK:K (a.put o.dst v) w'):if Region.wanted o (yielded ops a.tmps)=true then Oper.wp P o a w K Q else E:=by
 have hw:Region.wanted o (yielded ops a.tmps)=true:=by simp [Region.wanted,hg]
 rw [if_pos hw]
 unfold Oper.wp
 rw [hr]
 exact hK
end
section
open Go.RowKit Go.Maps
theorem pt {α:Type}:(∀ (l:List α) (i:Nat) (a:α),l.toArray.setIfInBounds i a=(l.set i a).toArray)∧(∀ (x:α) (xs:List α) (a:α),(x::xs).set 0 a=a::xs)∧ ∀ (x:α) (xs:List α) (n:Nat) (a:α),(x::xs).set (n+1) a=x::xs.set n a:=
 ⟨fun _ _ _=>List.setIfInBounds_toArray ..,fun _ _ _=>rfl,fun _ _ _ _=>rfl⟩
theorem qhr {P:Program} {md:Region.Mode} {ops:Array Oper} {Q:Exit→Act→World→Prop} {S:World→Prop} {m fuel:Nat} {listed:Array Bool} {a:Act} {w:World} (hS:S w) (i:Nat) (d:Option Tmp) (cs:List Nat) {v:Value} (h:qbh P md ops Q S m fuel (listed.setIfInBounds i true) (a.put d v) w)
  (hy: ∀ oi,ops[i]? =some oi→YieldsIf P ops S oi v a:=by
   intro oi hoi
   simp only [List.getElem?_toArray,List.getElem?_cons_succ,List.getElem?_cons_zero,Option.some.injEq] at hoi
   subst hoi
   refine Or.inl ⟨rfl,fun w hSw=> ?_⟩
   (try dsimp only at hSw)
   first| (go_simp;done)| (go_simp;with_reducible rfl))
  (hd:(ops[i]?).map (fun o=>o.dst)=some d:=by rfl) (hs:(Region.noSelect ops&&Region.free md ops listed i&&(Region.ready md ops listed).contains i&&leadsTo md ops cs i m&&closedB md ops listed)=true:=by kernel_rfl)
  (hQ: ∀ c a w,Q (.panic c) (a.put d v) w→Q (.panic c) a w:=by exact fun _ _ _ h=>h):qbh P md ops Q S m (fuel+1) listed a w:=
 qr i cs d v hd hs hQ hy hS h
end
section
open Go.RowKit
def pO (d:Nat) (x:Option Value) (a:Act):Act:=match x with
 | none=>a
 | some v=>a.put (some d) v
def lO (i:Nat) (x:Bool) (l:Array Bool):Array Bool:=match x with
 | false=>l
 | true=>l.setIfInBounds i true
theorem qgs (d:Nat) (x:Option Value) (a:Act):(pO d x a).tmps.size=a.tmps.size:=by
 cases x with
 | none=>rfl
 | some v=>exact Act.size_put _ _ _
theorem qbe {d d':Nat} (h:d≠d') (x:Option Value) (a:Act) (v:Value):(pO d x a).put (some d') v=pO d x (a.put (some d') v):=by
 cases x with
 | none=>rfl
 | some u=>exact Act.put_comm a u v fun e h1 h2=>h (Option.some.inj (h1.trans h2.symm))
theorem qf9 {d j:Nat} (h:d≠j) (x:Option Value) (a:Act):(pO d x a).eval (.tmp j)=a.eval (.tmp j):=by
 cases x with
 | none=>rfl
 | some u=>exact Act.eval_put_ne a d j u h
theorem qgt {d:Nat} (v:Value) {a:Act} (h:d < a.tmps.size):(pO d (some v) a).eval (.tmp d)=v:=Act.eval_put_same a d v h
theorem qbf {i j:Nat} (h:i≠j) (x:Bool) (l:Array Bool):(lO i x l).setIfInBounds j true=lO i x (l.setIfInBounds j true):=by
 cases x with
 | false=>rfl
 | true=>exact Array.setIfInBounds_comm _ _ h
def act6 (a:Act) (d1 d2 d3 e1 e2 e3:Nat) (x1 x2 x3 y1 y2 y3:Option Value):Act:=pO d1 x1 (pO d2 x2 (pO d3 x3 (pO e1 y1 (pO e2 y2 (pO e3 y3 a)))))
def lst6 (l:Array Bool) (b1 b2 b3 c1 c2 c3:Nat) (x1 x2 x3 y1 y2 y3:Bool):Array Bool:=lO b1 x1 (lO b2 x2 (lO b3 x3 (lO c1 y1 (lO c2 y2 (lO c3 y3 l)))))
theorem act6_size (a:Act) (d1 d2 d3 e1 e2 e3:Nat) (x1 x2 x3 y1 y2 y3:Option Value):(act6 a d1 d2 d3 e1 e2 e3 x1 x2 x3 y1 y2 y3).tmps.size=a.tmps.size:=by
 unfold act6
 simp only [qgs]
theorem act6_out {a:Act} {d1 d2 d3 e1 e2 e3 j:Nat} (h1:d1≠j) (h2:d2≠j) (h3:d3≠j) (h4:e1≠j) (h5:e2≠j) (h6:e3≠j) (x1 x2 x3 y1 y2 y3:Option Value):(act6 a d1 d2 d3 e1 e2 e3 x1 x2 x3 y1 y2 y3).eval (.tmp j)=a.eval (.tmp j):=by
 unfold act6
 rw [qf9 h1,qf9 h2,qf9 h3,qf9 h4,qf9 h5,qf9 h6]
theorem qak {l:List Nat} (h:l.Nodup) (i j:Nat) (hij:i < j) (hj:j < l.length):l[i]≠l[j]:=List.pairwise_iff_getElem.1 h i j (Nat.lt_trans hij hj) hj hij
theorem qfr {a:Act} {d1 d2 d3 d4 e1 e2 e3 e4 j:Nat} (h:j∉ [d1,d2,d3,d4,e1,e2,e3,e4]) (x1 x2 x3 y1 y2 y3:Option Value):(act6 a d1 d2 d3 e1 e2 e3 x1 x2 x3 y1 y2 y3).eval (.tmp j)=a.eval (.tmp j):=by
 simp only [List.mem_cons,List.not_mem_nil,or_false,not_or] at h
 obtain ⟨h1,h2,h3,h4,h5,h6,h7,h8⟩:=h
 exact act6_out (Ne.symm h1) (Ne.symm h2) (Ne.symm h3) (Ne.symm h5) (Ne.symm h6) (Ne.symm h7) _ _ _ _ _ _
section
variable {P:Program} {ops:Array Oper} {Q:Exit→Act→World→Prop} {md:Region.Mode} {S:World→Prop} {m:Nat}
theorem qaa.cons' {fuel:Nat} {listed:Array Bool} {a:Act} {w:World} {i:Nat} {rs:List Nat} (h:wpOp P ops Q i (fun a' w'=>(i≠m→S w')∧qbh P md ops Q S m fuel (listed.setIfInBounds i true) a' w') a w)
  (hs:qaa P md ops Q S m fuel listed a w rs):qaa P md ops Q S m fuel listed a w (i::rs):=fun j hj=>by
 rcases List.mem_cons.1 hj with rfl| hj
 ·exact h
 ·exact hs j hj
theorem qbo {i d fuel:Nat} {listed l':Array Bool} {a a':Act} {w:World} {o:Oper} (ho:ops[i]? =some o) (hg:o.guard=none∧o.dst=some d) (v:Value) (w':World) (hr:(execOp a.eval o).run P w= .ok (.value v) w') (hS:S w')
  (hl:listed.setIfInBounds i true=l') (ha:a.put (some d) v=a') (h:qbh P md ops Q S m fuel l' a' w'):wpOp P ops Q i (fun a' w'=>(i≠m→S w')∧qbh P md ops Q S m fuel (listed.setIfInBounds i true) a' w') a w:=by
 subst hl ha
 refine wpOp_step ho fun K' hK=>step_run v w' hg.1 hr (hK _ _ ⟨fun _=>hS,?_⟩)
 rw [hg.2]
 exact h
theorem qdg {o:Oper} {a:Act} {W:World} {t e:TypeId} {len:Nat} {parts:Array (Nat×Operand)} {z:Value} {size bytes:Nat} {cells:Array Value} (ho:o.op= .buildSlice t len parts) (hu:P.underlying t=some (.slice e)) (hI:(P.info? e).map (fun i=>(i.zero,i.size,i.bytes))=some (some z,size,bytes))
  (hsmall: ¬ len * size > 2 ^ 24) (hpos: ¬ len * size=0) (h:Instr.fill (fun i=>some (i * size,size)) ((Array.range (len * size)).map (z.cells[· % z.cells.size]!)) (parts.map fun (i,x)=>(i,a.eval x)).toList=some cells):
  (execOp a.eval o).run P W= .ok (.value (.slice (some ⟨W.heap.size,0,none⟩) len len)) (W.alloc (.cells cells e)):=by
 obtain ⟨i,hi,hz,hsize,hby⟩:=info_parts hI
 subst hsize
 unfold execOp
 simp only [ho,Sem.run_bind,run_buildSlice W t e len _ cells i z hu hi hz hsmall hpos h,Result.andThen_ok]
 rfl
theorem qge {i d fuel:Nat} {listed l':Array Bool} {a:Act} {w:World} {o:Oper} (ho:ops[i]? =some o) (hg:o.guard=none∧o.dst=some d) {s x:Nat} {t:TypeId} (hop:o.op=Op.call { callee:=Callee.builtin Builtin.append,args:= #[.tmp s,.tmp x],argTypes:= #[t,t] })
  {sv xv:Value} (hs:a.eval (.tmp s)=sv) (hx:a.eval (.tmp x)=xv) (hl:listed.setIfInBounds i true=l') (hK: ∃ v' w',(Builtin.append_ #[t,t] o.type #[sv,xv]).run P w= .ok v' w'∧(S w'∧qbh P md ops Q S m fuel l' (a.put (some d) v') w')):
  wpOp P ops Q i (fun a' w'=>(i≠m→S w')∧qbh P md ops Q S m fuel (listed.setIfInBounds i true) a' w') a w:=by
 subst hl
 obtain ⟨v',w',hr,hS,h⟩:=hK
 refine wpOp_step ho fun K' hK=>step_append_ex hg.1 _ _ t hop sv xv hs hx ⟨v',w',hr,hK _ _ ⟨fun _=>hS,?_⟩⟩
 rw [hg.2]
 exact h
theorem keep_draw {L:Array Bool} {fuel:Nat} {a0:Act} {wr W0:World} {e le tr tl te tle:TypeId} {mk:List Value} {oo ax:Option Addr} {k oc c kx:Nat} {xs:List Value} {z zl:Value} {bytes:Nat} {Lend:Array Bool}
  (b1 b2 b3 b4 c1 c2 c3 c4 d1 d2 d3 d4 e1 e2 e3 e4 s1 s2 s3 s4:Nat) {o1 o2 o3 o4 p1 p2 p3 p4:Oper}
  (ho1:ops[b1]? =some o1) (ho2:ops[b2]? =some o2) (ho3:ops[b3]? =some o3) (ho4:ops[b4]? =some o4) (hp1:ops[c1]? =some p1) (hp2:ops[c2]? =some p2) (hp3:ops[c3]? =some p3) (hp4:ops[c4]? =some p4)
  (go1:o1.guard=none∧o1.dst=some d1) (go2:o2.guard=none∧o2.dst=some d2) (go3:o3.guard=none∧o3.dst=some d3) (go4:o4.guard=none∧o4.dst=some d4)
  (gp1:p1.guard=none∧p1.dst=some e1) (gp2:p2.guard=none∧p2.dst=some e2) (gp3:p3.guard=none∧p3.dst=some e3) (gp4:p4.guard=none∧p4.dst=some e4)
  (hsz: [d1,d2,d3,d4,e1,e2,e3,e4].all (fun d=>decide (d < a0.tmps.size))=true) (hnd: [d1,d2,d3,d4,e1,e2,e3,e4].Nodup) (hsd: ∀ s∈ [s1,s2,s3,s4],s∉ [d1,d2,d3,d4,e1,e2,e3,e4]) (hbd: [b1,b2,b3,c1,c2,c3].Nodup)
  (B_1: ∀ (a:Act) (W:World),(∀ j,j∉ [d1,d2,d3,d4,e1,e2,e3,e4]→a.eval (.tmp j)=a0.eval (.tmp j))→(execOp a.eval o1).run P W= .ok (.value (.slice (some ⟨W.heap.size,0,none⟩) 1 1)) (W.alloc (.cells (qdt mk 1).toArray te)))
  (B_2: ∀ (a:Act) (W:World),(∀ j,j∉ [d1,d2,d3,d4,e1,e2,e3,e4]→a.eval (.tmp j)=a0.eval (.tmp j))→(execOp a.eval o2).run P W= .ok (.value (.slice (some ⟨W.heap.size,0,none⟩) 2 2)) (W.alloc (.cells (qdt mk 2).toArray te)))
  (B_3: ∀ (a:Act) (W:World),(∀ j,j∉ [d1,d2,d3,d4,e1,e2,e3,e4]→a.eval (.tmp j)=a0.eval (.tmp j))→(execOp a.eval o3).run P W= .ok (.value (.slice (some ⟨W.heap.size,0,none⟩) 3 3)) (W.alloc (.cells (qdt mk 3).toArray te)))
  (B_4: ∀ (a:Act) (W:World) (q1 q2 q3:Option Addr) (n1 n2 n3 m1 m2 m3:Nat),(∀ j,j∉ [d1,d2,d3,d4,e1,e2,e3,e4]→a.eval (.tmp j)=a0.eval (.tmp j))→a.eval (.tmp e1)= .slice q1 n1 m1→a.eval (.tmp e2)= .slice q2 n2 m2→a.eval (.tmp e3)= .slice q3 n3 m3→(execOp a.eval o4).run P W= .ok (.value (.slice (some ⟨W.heap.size,0,none⟩) 4 4)) (W.alloc (.cells #[.slice oo k oc,.slice q1 n1 m1,.slice q2 n2 m2,.slice q3 n3 m3] tle)))
  (A_1:p1.op=Op.call { callee:=Callee.builtin Builtin.append,args:= #[.tmp s1,.tmp d1],argTypes:= #[tr,tr] }) (A_2:p2.op=Op.call { callee:=Callee.builtin Builtin.append,args:= #[.tmp s2,.tmp d2],argTypes:= #[tr,tr] })
  (A_3:p3.op=Op.call { callee:=Callee.builtin Builtin.append,args:= #[.tmp s3,.tmp d3],argTypes:= #[tr,tr] }) (A_4:p4.op=Op.call { callee:=Callee.builtin Builtin.append,args:= #[.tmp s4,.tmp d4],argTypes:= #[tl,tl] })
  (V_1:a0.eval (.tmp s1)= .slice oo k oc) (V_2:a0.eval (.tmp s2)= .slice oo k oc) (V_3:a0.eval (.tmp s3)= .slice oo k oc) (V_4:a0.eval (.tmp s4)= .slice ax c kx)
  (ht:P.underlying tr=some (.slice e)) (hI:(P.info? e).map (fun i=>(i.zero,i.size,i.bytes))=some (some z,mk.length,bytes)) (hzs:z.cells.size=mk.length) (hbb:bytes≤1000) (hmk:0 < mk.length) (hone: ∀ u∈mk,u.oneCell'=true)
  (htl:P.underlying tl=some (.slice le)) (hIl:(P.info? le).map (fun i=>(i.zero,i.size,i.bytes))=some (some zl,1,24)) (hzl:zl.cells.size=1)
  (hk:k≤990) (hc:c≤4000000000000) (hrow:wr.ownsRow 0 le 1 (.slice ax c kx) c xs) (hne: ∀ b,(Value.slice ax c kx).ownBlock=some b→(Value.slice oo k oc).ownBlock≠some b)
  (M0:MG e mk wr (Value.slice oo k oc).ownBlock W0 [⟨oo,k,oc⟩]) (hS: ∀ W,Kept (fun b=>(Value.slice oo k oc).ownBlock=some b∨(Value.slice ax c kx).ownBlock=some b) wr W→S W)
  (r3_111:Region.ready md ops (lst6 L b1 b2 b3 c1 c2 c3 true true true true true true)= [b4])
  (r2_111:Region.ready md ops (lst6 L b1 b2 b3 c1 c2 c3 true true true true true false)= [c3])
  (r2_110:Region.ready md ops (lst6 L b1 b2 b3 c1 c2 c3 true true false true true false)= [b3])
  (r1_111:Region.ready md ops (lst6 L b1 b2 b3 c1 c2 c3 true true true true false false)= [c2])
  (r1_110:Region.ready md ops (lst6 L b1 b2 b3 c1 c2 c3 true true false true false false)= [c2,b3])
  (r1_101:Region.ready md ops (lst6 L b1 b2 b3 c1 c2 c3 true false true true false false)= [b2])
  (r1_100:Region.ready md ops (lst6 L b1 b2 b3 c1 c2 c3 true false false true false false)= [b2,b3])
  (r0_111:Region.ready md ops (lst6 L b1 b2 b3 c1 c2 c3 true true true false false false)= [c1])
  (r0_110:Region.ready md ops (lst6 L b1 b2 b3 c1 c2 c3 true true false false false false)= [c1,b3])
  (r0_101:Region.ready md ops (lst6 L b1 b2 b3 c1 c2 c3 true false true false false false)= [c1,b2])
  (r0_011:Region.ready md ops (lst6 L b1 b2 b3 c1 c2 c3 false true true false false false)= [b1])
  (r0_100:Region.ready md ops (lst6 L b1 b2 b3 c1 c2 c3 true false false false false false)= [c1,b2,b3])
  (r0_010:Region.ready md ops (lst6 L b1 b2 b3 c1 c2 c3 false true false false false false)= [b1,b3])
  (r0_001:Region.ready md ops (lst6 L b1 b2 b3 c1 c2 c3 false false true false false false)= [b1,b2])
  (r0_000:Region.ready md ops (lst6 L b1 b2 b3 c1 c2 c3 false false false false false false)= [b1,b2,b3])
  (r4:Region.ready md ops ((lst6 L b1 b2 b3 c1 c2 c3 true true true true true true).setIfInBounds b4 true)= [c4]) (hLend:((lst6 L b1 b2 b3 c1 c2 c3 true true true true true true).setIfInBounds b4 true).setIfInBounds c4 true=Lend)
  (hEnd: ∀ (B1 B2 B3 B4:Nat) (ao1:Option Addr) (cp1:Nat) (ao2:Option Addr) (cp2:Nat) (ao3:Option Addr) (cp3:Nat) (ao4:Option Addr) (cp4:Nat) (W3 W4:World) (ob:Obj),MG e mk wr (Value.slice oo k oc).ownBlock W3 [⟨oo,k,oc⟩,⟨ao1,k+1,cp1⟩,⟨ao2,k+2,cp2⟩,⟨ao3,k+3,cp3⟩]→Kept (fun b=>(Value.slice ax c kx).ownBlock=some b) (W3.alloc ob) W4→
   W4.ownsRow 0 le 1 (.slice ao4 (c+4) cp4) (c+4) (xs++ [.slice oo k oc,(.slice ao1 (k+1) cp1),(.slice ao2 (k+2) cp2),(.slice ao3 (k+3) cp3)])→((Value.slice ao4 (c+4) cp4).ownBlock=(Value.slice ax c kx).ownBlock∨ ∀ q,(Value.slice ao4 (c+4) cp4).ownBlock=some q→(W3.alloc ob).heap.size≤q)→Kept (fun b=>(Value.slice oo k oc).ownBlock=some b∨(Value.slice ax c kx).ownBlock=some b) wr W4→
   qbh P md ops Q S m fuel Lend (((act6 a0 d1 d2 d3 e1 e2 e3 (some (.slice (some ⟨B1,0,none⟩) 1 1)) (some (.slice (some ⟨B2,0,none⟩) 2 2)) (some (.slice (some ⟨B3,0,none⟩) 3 3)) (some (.slice ao1 (k+1) cp1)) (some (.slice ao2 (k+2) cp2)) (some (.slice ao3 (k+3) cp3))).put (some d4) (.slice (some ⟨B4,0,none⟩) 4 4)).put (some e4) (.slice ao4 (c+4) cp4)) W4):
  qbh P md ops Q S m (fuel+8) L a0 W0:=by
 simp only [List.all_cons,List.all_nil,Bool.and_true,Bool.and_eq_true,decide_eq_true_eq] at hsz
 obtain ⟨z1,z2,z3,z4,z5,z6,z7,z8⟩:=hsz
 have AG: ∀ (x1 x2 x3 y1 y2 y3:Option Value) (j:Nat),j∉ [d1,d2,d3,d4,e1,e2,e3,e4]→(act6 a0 d1 d2 d3 e1 e2 e3 x1 x2 x3 y1 y2 y3).eval (.tmp j)=a0.eval (.tmp j):=fun x1 x2 x3 y1 y2 y3 j hj=>qfr hj _ _ _ _ _ _
 have KS: ∀ {W l},MG e mk wr (Value.slice oo k oc).ownBlock W l→Kept (fun b=>(Value.slice oo k oc).ownBlock=some b∨(Value.slice ax c kx).ownBlock=some b) wr W:=fun M=>M.kept.mono fun _ _ h=> .inl h
 have n_d1_d2:d1≠d2:=qak hnd 0 1 (by decide) (by simp)
 have n_d1_d3:d1≠d3:=qak hnd 0 2 (by decide) (by simp)
 have n_d1_d4:d1≠d4:=qak hnd 0 3 (by decide) (by simp)
 have n_d1_e1:d1≠e1:=qak hnd 0 4 (by decide) (by simp)
 have n_d1_e2:d1≠e2:=qak hnd 0 5 (by decide) (by simp)
 have n_d1_e3:d1≠e3:=qak hnd 0 6 (by decide) (by simp)
 have n_d1_e4:d1≠e4:=qak hnd 0 7 (by decide) (by simp)
 have n_d2_d3:d2≠d3:=qak hnd 1 2 (by decide) (by simp)
 have n_d2_d4:d2≠d4:=qak hnd 1 3 (by decide) (by simp)
 have n_d2_e1:d2≠e1:=qak hnd 1 4 (by decide) (by simp)
 have n_d2_e2:d2≠e2:=qak hnd 1 5 (by decide) (by simp)
 have n_d2_e3:d2≠e3:=qak hnd 1 6 (by decide) (by simp)
 have n_d2_e4:d2≠e4:=qak hnd 1 7 (by decide) (by simp)
 have n_d3_d4:d3≠d4:=qak hnd 2 3 (by decide) (by simp)
 have n_d3_e1:d3≠e1:=qak hnd 2 4 (by decide) (by simp)
 have n_d3_e2:d3≠e2:=qak hnd 2 5 (by decide) (by simp)
 have n_d3_e3:d3≠e3:=qak hnd 2 6 (by decide) (by simp)
 have n_d3_e4:d3≠e4:=qak hnd 2 7 (by decide) (by simp)
 have n_d4_e1:d4≠e1:=qak hnd 3 4 (by decide) (by simp)
 have n_d4_e2:d4≠e2:=qak hnd 3 5 (by decide) (by simp)
 have n_d4_e3:d4≠e3:=qak hnd 3 6 (by decide) (by simp)
 have n_d4_e4:d4≠e4:=qak hnd 3 7 (by decide) (by simp)
 have n_e1_e2:e1≠e2:=qak hnd 4 5 (by decide) (by simp)
 have n_e1_e3:e1≠e3:=qak hnd 4 6 (by decide) (by simp)
 have n_e1_e4:e1≠e4:=qak hnd 4 7 (by decide) (by simp)
 have n_e2_e3:e2≠e3:=qak hnd 5 6 (by decide) (by simp)
 have n_e2_e4:e2≠e4:=qak hnd 5 7 (by decide) (by simp)
 have n_e3_e4:e3≠e4:=qak hnd 6 7 (by decide) (by simp)
 have n_b1_b2:b1≠b2:=qak hbd 0 1 (by decide) (by simp)
 have n_b1_b3:b1≠b3:=qak hbd 0 2 (by decide) (by simp)
 have n_b1_c1:b1≠c1:=qak hbd 0 3 (by decide) (by simp)
 have n_b1_c2:b1≠c2:=qak hbd 0 4 (by decide) (by simp)
 have n_b1_c3:b1≠c3:=qak hbd 0 5 (by decide) (by simp)
 have n_b2_b3:b2≠b3:=qak hbd 1 2 (by decide) (by simp)
 have n_b2_c1:b2≠c1:=qak hbd 1 3 (by decide) (by simp)
 have n_b2_c2:b2≠c2:=qak hbd 1 4 (by decide) (by simp)
 have n_b2_c3:b2≠c3:=qak hbd 1 5 (by decide) (by simp)
 have n_b3_c1:b3≠c1:=qak hbd 2 3 (by decide) (by simp)
 have n_b3_c2:b3≠c2:=qak hbd 2 4 (by decide) (by simp)
 have n_b3_c3:b3≠c3:=qak hbd 2 5 (by decide) (by simp)
 have n_c1_c2:c1≠c2:=qak hbd 3 4 (by decide) (by simp)
 have n_c1_c3:c1≠c3:=qak hbd 3 5 (by decide) (by simp)
 have n_c2_c3:c2≠c3:=qak hbd 4 5 (by decide) (by simp)
 have D3_111: ∀ (B1:Nat) (B2:Nat) (B3:Nat) (ao1:Option Addr) (cp1:Nat) (ao2:Option Addr) (cp2:Nat) (ao3:Option Addr) (cp3:Nat) (W:World),MG e mk wr (Value.slice oo k oc).ownBlock W [⟨oo,k,oc⟩,⟨ao1,k+1,cp1⟩,⟨ao2,k+2,cp2⟩,⟨ao3,k+3,cp3⟩]→qbh P md ops Q S m (fuel+2) (lst6 L b1 b2 b3 c1 c2 c3 true true true true true true) (act6 a0 d1 d2 d3 e1 e2 e3 (some (.slice (some ⟨B1,0,none⟩) 1 1)) (some (.slice (some ⟨B2,0,none⟩) 2 2)) (some (.slice (some ⟨B3,0,none⟩) 3 3)) (some (.slice ao1 (k+1) cp1)) (some (.slice ao2 (k+2) cp2)) (some (.slice ao3 (k+3) cp3))) W:=by
  intro B1 B2 B3 ao1 cp1 ao2 cp2 ao3 cp3 W M
  refine qaf _ [b4] r3_111 (by simp) (qaa.cons' ?_ qaa.nil)
  refine qbo ho4 go4 _ _ (B_4 _ _ ao1 ao2 ao3 (k+1) (k+2) (k+3) cp1 cp2 cp3 (AG _ _ _ _ _ _) ?_ ?_ ?_) (hS _ ((KS M).alloc _)) rfl rfl ?_
  ·unfold act6
   rw [qf9 n_d1_e1,qf9 n_d2_e1,qf9 n_d3_e1]
   exact qgt _ (by simp only [qgs];exact z5)
  ·unfold act6
   rw [qf9 n_d1_e2,qf9 n_d2_e2,qf9 n_d3_e2,qf9 n_e1_e2]
   exact qgt _ (by simp only [qgs];exact z6)
  ·unfold act6
   rw [qf9 n_d1_e3,qf9 n_d2_e3,qf9 n_d3_e3,qf9 n_e1_e3,qf9 n_e2_e3]
   exact qgt _ z7
  refine qaf _ [c4] r4 (by simp) (qaa.cons' ?_ qaa.nil)
  refine qge hp4 gp4 A_4 (sv:= .slice ax c kx) (xv:= .slice (some ⟨W.heap.size,0,none⟩) 4 4) ?_ ?_ hLend ?_
  ·rw [Act.eval_put_ne _ _ _ _ (fun h=>hsd s4 (by simp) (by simp [h])),qfr (hsd s4 (by simp)),V_4]
  ·exact Act.eval_put_same _ _ _ (by rw [act6_size];exact z4)
  refine list_then (w1:=wr) ((M.kept.alloc _).ownsRow hrow hne) htl hIl hzl rfl (qcd.here (news:= [.slice oo k oc,(.slice ao1 (k+1) cp1),(.slice ao2 (k+2) cp2),(.slice ao3 (k+3) cp3)]) M.kept.size rfl rfl) (by simp [Value.oneCell']) (by unfold maxLen;omega) (by omega) ?_
  intro ao4 cp4 W4 R4 hk4 f4
  have K4:=((KS M).alloc _).trans (hk4.mono fun _ _ h=> .inr h) fun _ _ h=>h
  exact ⟨hS _ K4,hEnd _ _ _ _ _ _ _ _ _ _ _ _ _ _ _ M hk4 R4 f4 K4⟩
 have D2_111: ∀ (B1:Nat) (B2:Nat) (B3:Nat) (ao1:Option Addr) (cp1:Nat) (ao2:Option Addr) (cp2:Nat) (W:World),MG e mk wr (Value.slice oo k oc).ownBlock W [⟨oo,k,oc⟩,⟨ao1,k+1,cp1⟩,⟨ao2,k+2,cp2⟩]→qcd (qdt mk 3) wr W B3→qbh P md ops Q S m (fuel+3) (lst6 L b1 b2 b3 c1 c2 c3 true true true true true false) (act6 a0 d1 d2 d3 e1 e2 e3 (some (.slice (some ⟨B1,0,none⟩) 1 1)) (some (.slice (some ⟨B2,0,none⟩) 2 2)) (some (.slice (some ⟨B3,0,none⟩) 3 3)) (some (.slice ao1 (k+1) cp1)) (some (.slice ao2 (k+2) cp2)) none) W:=by
  intro B1 B2 B3 ao1 cp1 ao2 cp2 W M S3
  refine qaf _ [c3] r2_111 (by simp) ?_
  refine qaa.cons' ?_ (qaa.nil)
  ·refine qge hp3 gp3 A_3 (sv:= .slice oo k oc) (xv:=(.slice (some ⟨B3,0,none⟩) 3 3)) ?_ (by unfold act6;rw [qf9 n_d1_d3,qf9 n_d2_d3];exact qgt _ (by simp only [qgs];exact z3)) (by unfold lst6;rw [qbf n_b1_c3,qbf n_b2_c3,qbf n_b3_c3,qbf n_c1_c3,qbf n_c2_c3];try rfl) ?_
   ·rw [qfr (hsd s3 (by simp)),V_3]
   refine MG.then M hmk hone ht hI hzs (by simp) rfl ?_ S3 (by omega) hbb ?_
   ·intro y hy
    simp only [List.mem_cons,List.not_mem_nil,or_false] at hy
    rcases hy with rfl| rfl| rfl<;>dsimp only<;>omega
   ·intro ao' cp' W' M' hk'
    refine ⟨hS _ (KS M'),?_⟩
    rw [show (act6 a0 d1 d2 d3 e1 e2 e3 (some (.slice (some ⟨B1,0,none⟩) 1 1)) (some (.slice (some ⟨B2,0,none⟩) 2 2)) (some (.slice (some ⟨B3,0,none⟩) 3 3)) (some (.slice ao1 (k+1) cp1)) (some (.slice ao2 (k+2) cp2)) none).put (some e3) (.slice ao' (k+3) cp')=act6 a0 d1 d2 d3 e1 e2 e3 (some (.slice (some ⟨B1,0,none⟩) 1 1)) (some (.slice (some ⟨B2,0,none⟩) 2 2)) (some (.slice (some ⟨B3,0,none⟩) 3 3)) (some (.slice ao1 (k+1) cp1)) (some (.slice ao2 (k+2) cp2)) (some (.slice ao' (k+3) cp')) from by unfold act6;rw [qbe n_d1_e3,qbe n_d2_e3,qbe n_d3_e3,qbe n_e1_e3,qbe n_e2_e3];rfl]
    exact D3_111 B1 B2 B3 ao1 cp1 ao2 cp2 _ _ _ M'
 have D2_110: ∀ (B1:Nat) (B2:Nat) (ao1:Option Addr) (cp1:Nat) (ao2:Option Addr) (cp2:Nat) (W:World),MG e mk wr (Value.slice oo k oc).ownBlock W [⟨oo,k,oc⟩,⟨ao1,k+1,cp1⟩,⟨ao2,k+2,cp2⟩]→qbh P md ops Q S m (fuel+4) (lst6 L b1 b2 b3 c1 c2 c3 true true false true true false) (act6 a0 d1 d2 d3 e1 e2 e3 (some (.slice (some ⟨B1,0,none⟩) 1 1)) (some (.slice (some ⟨B2,0,none⟩) 2 2)) none (some (.slice ao1 (k+1) cp1)) (some (.slice ao2 (k+2) cp2)) none) W:=by
  intro B1 B2 ao1 cp1 ao2 cp2 W M
  refine qaf _ [b3] r2_110 (by simp) ?_
  refine qaa.cons' ?_ (qaa.nil)
  ·exact qbo ho3 go3 _ _ (B_3 _ _ (AG _ _ _ _ _ _)) (hS _ ((KS M).alloc _)) (by unfold lst6;rw [qbf n_b1_b3,qbf n_b2_b3];try rfl) (by unfold act6;rw [qbe n_d1_d3,qbe n_d2_d3];try rfl) (D2_111 B1 B2 _ ao1 cp1 ao2 cp2 _ (M.alloc _) (qcd.here M.kept.size rfl (by simp)))
 have D1_111: ∀ (B1:Nat) (B2:Nat) (B3:Nat) (ao1:Option Addr) (cp1:Nat) (W:World),MG e mk wr (Value.slice oo k oc).ownBlock W [⟨oo,k,oc⟩,⟨ao1,k+1,cp1⟩]→qcd (qdt mk 2) wr W B2→qcd (qdt mk 3) wr W B3→qbh P md ops Q S m (fuel+4) (lst6 L b1 b2 b3 c1 c2 c3 true true true true false false) (act6 a0 d1 d2 d3 e1 e2 e3 (some (.slice (some ⟨B1,0,none⟩) 1 1)) (some (.slice (some ⟨B2,0,none⟩) 2 2)) (some (.slice (some ⟨B3,0,none⟩) 3 3)) (some (.slice ao1 (k+1) cp1)) none none) W:=by
  intro B1 B2 B3 ao1 cp1 W M S2 S3
  refine qaf _ [c2] r1_111 (by simp) ?_
  refine qaa.cons' ?_ (qaa.nil)
  ·refine qge hp2 gp2 A_2 (sv:= .slice oo k oc) (xv:=(.slice (some ⟨B2,0,none⟩) 2 2)) ?_ (by unfold act6;rw [qf9 n_d1_d2];exact qgt _ (by simp only [qgs];exact z2)) (by unfold lst6;rw [qbf n_b1_c2,qbf n_b2_c2,qbf n_b3_c2,qbf n_c1_c2];try rfl) ?_
   ·rw [qfr (hsd s2 (by simp)),V_2]
   refine MG.then M hmk hone ht hI hzs (by simp) rfl ?_ S2 (by omega) hbb ?_
   ·intro y hy
    simp only [List.mem_cons,List.not_mem_nil,or_false] at hy
    rcases hy with rfl| rfl<;>dsimp only<;>omega
   ·intro ao' cp' W' M' hk'
    refine ⟨hS _ (KS M'),?_⟩
    rw [show (act6 a0 d1 d2 d3 e1 e2 e3 (some (.slice (some ⟨B1,0,none⟩) 1 1)) (some (.slice (some ⟨B2,0,none⟩) 2 2)) (some (.slice (some ⟨B3,0,none⟩) 3 3)) (some (.slice ao1 (k+1) cp1)) none none).put (some e2) (.slice ao' (k+2) cp')=act6 a0 d1 d2 d3 e1 e2 e3 (some (.slice (some ⟨B1,0,none⟩) 1 1)) (some (.slice (some ⟨B2,0,none⟩) 2 2)) (some (.slice (some ⟨B3,0,none⟩) 3 3)) (some (.slice ao1 (k+1) cp1)) (some (.slice ao' (k+2) cp')) none from by unfold act6;rw [qbe n_d1_e2,qbe n_d2_e2,qbe n_d3_e2,qbe n_e1_e2];rfl]
    exact D2_111 B1 B2 B3 ao1 cp1 _ _ _ M' (S3.kept hk' M.olt)
 have D1_110: ∀ (B1:Nat) (B2:Nat) (ao1:Option Addr) (cp1:Nat) (W:World),MG e mk wr (Value.slice oo k oc).ownBlock W [⟨oo,k,oc⟩,⟨ao1,k+1,cp1⟩]→qcd (qdt mk 2) wr W B2→qbh P md ops Q S m (fuel+5) (lst6 L b1 b2 b3 c1 c2 c3 true true false true false false) (act6 a0 d1 d2 d3 e1 e2 e3 (some (.slice (some ⟨B1,0,none⟩) 1 1)) (some (.slice (some ⟨B2,0,none⟩) 2 2)) none (some (.slice ao1 (k+1) cp1)) none none) W:=by
  intro B1 B2 ao1 cp1 W M S2
  refine qaf _ [c2,b3] r1_110 (by simp) ?_
  refine qaa.cons' ?_ (qaa.cons' ?_ (qaa.nil))
  ·refine qge hp2 gp2 A_2 (sv:= .slice oo k oc) (xv:=(.slice (some ⟨B2,0,none⟩) 2 2)) ?_ (by unfold act6;rw [qf9 n_d1_d2];exact qgt _ (by simp only [qgs];exact z2)) (by unfold lst6;rw [qbf n_b1_c2,qbf n_b2_c2,qbf n_b3_c2,qbf n_c1_c2];try rfl) ?_
   ·rw [qfr (hsd s2 (by simp)),V_2]
   refine MG.then M hmk hone ht hI hzs (by simp) rfl ?_ S2 (by omega) hbb ?_
   ·intro y hy
    simp only [List.mem_cons,List.not_mem_nil,or_false] at hy
    rcases hy with rfl| rfl<;>dsimp only<;>omega
   ·intro ao' cp' W' M' hk'
    refine ⟨hS _ (KS M'),?_⟩
    rw [show (act6 a0 d1 d2 d3 e1 e2 e3 (some (.slice (some ⟨B1,0,none⟩) 1 1)) (some (.slice (some ⟨B2,0,none⟩) 2 2)) none (some (.slice ao1 (k+1) cp1)) none none).put (some e2) (.slice ao' (k+2) cp')=act6 a0 d1 d2 d3 e1 e2 e3 (some (.slice (some ⟨B1,0,none⟩) 1 1)) (some (.slice (some ⟨B2,0,none⟩) 2 2)) none (some (.slice ao1 (k+1) cp1)) (some (.slice ao' (k+2) cp')) none from by unfold act6;rw [qbe n_d1_e2,qbe n_d2_e2,qbe n_d3_e2,qbe n_e1_e2];rfl]
    exact D2_110 B1 B2 ao1 cp1 _ _ _ M'
  ·exact qbo ho3 go3 _ _ (B_3 _ _ (AG _ _ _ _ _ _)) (hS _ ((KS M).alloc _)) (by unfold lst6;rw [qbf n_b1_b3,qbf n_b2_b3];try rfl) (by unfold act6;rw [qbe n_d1_d3,qbe n_d2_d3];try rfl) (D1_111 B1 B2 _ ao1 cp1 _ (M.alloc _) (S2.alloc _) (qcd.here M.kept.size rfl (by simp)))
 have D1_101: ∀ (B1:Nat) (B3:Nat) (ao1:Option Addr) (cp1:Nat) (W:World),MG e mk wr (Value.slice oo k oc).ownBlock W [⟨oo,k,oc⟩,⟨ao1,k+1,cp1⟩]→qcd (qdt mk 3) wr W B3→qbh P md ops Q S m (fuel+5) (lst6 L b1 b2 b3 c1 c2 c3 true false true true false false) (act6 a0 d1 d2 d3 e1 e2 e3 (some (.slice (some ⟨B1,0,none⟩) 1 1)) none (some (.slice (some ⟨B3,0,none⟩) 3 3)) (some (.slice ao1 (k+1) cp1)) none none) W:=by
  intro B1 B3 ao1 cp1 W M S3
  refine qaf _ [b2] r1_101 (by simp) ?_
  refine qaa.cons' ?_ (qaa.nil)
  ·exact qbo ho2 go2 _ _ (B_2 _ _ (AG _ _ _ _ _ _)) (hS _ ((KS M).alloc _)) (by unfold lst6;rw [qbf n_b1_b2];try rfl) (by unfold act6;rw [qbe n_d1_d2];try rfl) (D1_111 B1 _ B3 ao1 cp1 _ (M.alloc _) (qcd.here M.kept.size rfl (by simp)) (S3.alloc _))
 have D1_100: ∀ (B1:Nat) (ao1:Option Addr) (cp1:Nat) (W:World),MG e mk wr (Value.slice oo k oc).ownBlock W [⟨oo,k,oc⟩,⟨ao1,k+1,cp1⟩]→qbh P md ops Q S m (fuel+6) (lst6 L b1 b2 b3 c1 c2 c3 true false false true false false) (act6 a0 d1 d2 d3 e1 e2 e3 (some (.slice (some ⟨B1,0,none⟩) 1 1)) none none (some (.slice ao1 (k+1) cp1)) none none) W:=by
  intro B1 ao1 cp1 W M
  refine qaf _ [b2,b3] r1_100 (by simp) ?_
  refine qaa.cons' ?_ (qaa.cons' ?_ (qaa.nil))
  ·exact qbo ho2 go2 _ _ (B_2 _ _ (AG _ _ _ _ _ _)) (hS _ ((KS M).alloc _)) (by unfold lst6;rw [qbf n_b1_b2];try rfl) (by unfold act6;rw [qbe n_d1_d2];try rfl) (D1_110 B1 _ ao1 cp1 _ (M.alloc _) (qcd.here M.kept.size rfl (by simp)))
  ·exact qbo ho3 go3 _ _ (B_3 _ _ (AG _ _ _ _ _ _)) (hS _ ((KS M).alloc _)) (by unfold lst6;rw [qbf n_b1_b3,qbf n_b2_b3];try rfl) (by unfold act6;rw [qbe n_d1_d3,qbe n_d2_d3];try rfl) (D1_101 B1 _ ao1 cp1 _ (M.alloc _) (qcd.here M.kept.size rfl (by simp)))
 have D0_111: ∀ (B1:Nat) (B2:Nat) (B3:Nat) (W:World),MG e mk wr (Value.slice oo k oc).ownBlock W [⟨oo,k,oc⟩]→qcd (qdt mk 1) wr W B1→qcd (qdt mk 2) wr W B2→qcd (qdt mk 3) wr W B3→qbh P md ops Q S m (fuel+5) (lst6 L b1 b2 b3 c1 c2 c3 true true true false false false) (act6 a0 d1 d2 d3 e1 e2 e3 (some (.slice (some ⟨B1,0,none⟩) 1 1)) (some (.slice (some ⟨B2,0,none⟩) 2 2)) (some (.slice (some ⟨B3,0,none⟩) 3 3)) none none none) W:=by
  intro B1 B2 B3 W M S1 S2 S3
  refine qaf _ [c1] r0_111 (by simp) ?_
  refine qaa.cons' ?_ (qaa.nil)
  ·refine qge hp1 gp1 A_1 (sv:= .slice oo k oc) (xv:=(.slice (some ⟨B1,0,none⟩) 1 1)) ?_ (by unfold act6;exact qgt _ (by simp only [qgs];exact z1)) (by unfold lst6;rw [qbf n_b1_c1,qbf n_b2_c1,qbf n_b3_c1];try rfl) ?_
   ·rw [qfr (hsd s1 (by simp)),V_1]
   refine MG.then M hmk hone ht hI hzs (by simp) rfl ?_ S1 (by omega) hbb ?_
   ·intro y hy
    simp only [List.mem_cons,List.not_mem_nil,or_false] at hy
    rcases hy with rfl<;>dsimp only<;>omega
   ·intro ao' cp' W' M' hk'
    refine ⟨hS _ (KS M'),?_⟩
    rw [show (act6 a0 d1 d2 d3 e1 e2 e3 (some (.slice (some ⟨B1,0,none⟩) 1 1)) (some (.slice (some ⟨B2,0,none⟩) 2 2)) (some (.slice (some ⟨B3,0,none⟩) 3 3)) none none none).put (some e1) (.slice ao' (k+1) cp')=act6 a0 d1 d2 d3 e1 e2 e3 (some (.slice (some ⟨B1,0,none⟩) 1 1)) (some (.slice (some ⟨B2,0,none⟩) 2 2)) (some (.slice (some ⟨B3,0,none⟩) 3 3)) (some (.slice ao' (k+1) cp')) none none from by unfold act6;rw [qbe n_d1_e1,qbe n_d2_e1,qbe n_d3_e1];rfl]
    exact D1_111 B1 B2 B3 _ _ _ M' (S2.kept hk' M.olt) (S3.kept hk' M.olt)
 have D0_110: ∀ (B1:Nat) (B2:Nat) (W:World),MG e mk wr (Value.slice oo k oc).ownBlock W [⟨oo,k,oc⟩]→qcd (qdt mk 1) wr W B1→qcd (qdt mk 2) wr W B2→qbh P md ops Q S m (fuel+6) (lst6 L b1 b2 b3 c1 c2 c3 true true false false false false) (act6 a0 d1 d2 d3 e1 e2 e3 (some (.slice (some ⟨B1,0,none⟩) 1 1)) (some (.slice (some ⟨B2,0,none⟩) 2 2)) none none none none) W:=by
  intro B1 B2 W M S1 S2
  refine qaf _ [c1,b3] r0_110 (by simp) ?_
  refine qaa.cons' ?_ (qaa.cons' ?_ (qaa.nil))
  ·refine qge hp1 gp1 A_1 (sv:= .slice oo k oc) (xv:=(.slice (some ⟨B1,0,none⟩) 1 1)) ?_ (by unfold act6;exact qgt _ (by simp only [qgs];exact z1)) (by unfold lst6;rw [qbf n_b1_c1,qbf n_b2_c1,qbf n_b3_c1];try rfl) ?_
   ·rw [qfr (hsd s1 (by simp)),V_1]
   refine MG.then M hmk hone ht hI hzs (by simp) rfl ?_ S1 (by omega) hbb ?_
   ·intro y hy
    simp only [List.mem_cons,List.not_mem_nil,or_false] at hy
    rcases hy with rfl<;>dsimp only<;>omega
   ·intro ao' cp' W' M' hk'
    refine ⟨hS _ (KS M'),?_⟩
    rw [show (act6 a0 d1 d2 d3 e1 e2 e3 (some (.slice (some ⟨B1,0,none⟩) 1 1)) (some (.slice (some ⟨B2,0,none⟩) 2 2)) none none none none).put (some e1) (.slice ao' (k+1) cp')=act6 a0 d1 d2 d3 e1 e2 e3 (some (.slice (some ⟨B1,0,none⟩) 1 1)) (some (.slice (some ⟨B2,0,none⟩) 2 2)) none (some (.slice ao' (k+1) cp')) none none from by unfold act6;rw [qbe n_d1_e1,qbe n_d2_e1,qbe n_d3_e1];rfl]
    exact D1_110 B1 B2 _ _ _ M' (S2.kept hk' M.olt)
  ·exact qbo ho3 go3 _ _ (B_3 _ _ (AG _ _ _ _ _ _)) (hS _ ((KS M).alloc _)) (by unfold lst6;rw [qbf n_b1_b3,qbf n_b2_b3];try rfl) (by unfold act6;rw [qbe n_d1_d3,qbe n_d2_d3];try rfl) (D0_111 B1 B2 _ _ (M.alloc _) (S1.alloc _) (S2.alloc _) (qcd.here M.kept.size rfl (by simp)))
 have D0_101: ∀ (B1:Nat) (B3:Nat) (W:World),MG e mk wr (Value.slice oo k oc).ownBlock W [⟨oo,k,oc⟩]→qcd (qdt mk 1) wr W B1→qcd (qdt mk 3) wr W B3→qbh P md ops Q S m (fuel+6) (lst6 L b1 b2 b3 c1 c2 c3 true false true false false false) (act6 a0 d1 d2 d3 e1 e2 e3 (some (.slice (some ⟨B1,0,none⟩) 1 1)) none (some (.slice (some ⟨B3,0,none⟩) 3 3)) none none none) W:=by
  intro B1 B3 W M S1 S3
  refine qaf _ [c1,b2] r0_101 (by simp) ?_
  refine qaa.cons' ?_ (qaa.cons' ?_ (qaa.nil))
  ·refine qge hp1 gp1 A_1 (sv:= .slice oo k oc) (xv:=(.slice (some ⟨B1,0,none⟩) 1 1)) ?_ (by unfold act6;exact qgt _ (by simp only [qgs];exact z1)) (by unfold lst6;rw [qbf n_b1_c1,qbf n_b2_c1,qbf n_b3_c1];try rfl) ?_
   ·rw [qfr (hsd s1 (by simp)),V_1]
   refine MG.then M hmk hone ht hI hzs (by simp) rfl ?_ S1 (by omega) hbb ?_
   ·intro y hy
    simp only [List.mem_cons,List.not_mem_nil,or_false] at hy
    rcases hy with rfl<;>dsimp only<;>omega
   ·intro ao' cp' W' M' hk'
    refine ⟨hS _ (KS M'),?_⟩
    rw [show (act6 a0 d1 d2 d3 e1 e2 e3 (some (.slice (some ⟨B1,0,none⟩) 1 1)) none (some (.slice (some ⟨B3,0,none⟩) 3 3)) none none none).put (some e1) (.slice ao' (k+1) cp')=act6 a0 d1 d2 d3 e1 e2 e3 (some (.slice (some ⟨B1,0,none⟩) 1 1)) none (some (.slice (some ⟨B3,0,none⟩) 3 3)) (some (.slice ao' (k+1) cp')) none none from by unfold act6;rw [qbe n_d1_e1,qbe n_d2_e1,qbe n_d3_e1];rfl]
    exact D1_101 B1 B3 _ _ _ M' (S3.kept hk' M.olt)
  ·exact qbo ho2 go2 _ _ (B_2 _ _ (AG _ _ _ _ _ _)) (hS _ ((KS M).alloc _)) (by unfold lst6;rw [qbf n_b1_b2];try rfl) (by unfold act6;rw [qbe n_d1_d2];try rfl) (D0_111 B1 _ B3 _ (M.alloc _) (S1.alloc _) (qcd.here M.kept.size rfl (by simp)) (S3.alloc _))
 have D0_011: ∀ (B2:Nat) (B3:Nat) (W:World),MG e mk wr (Value.slice oo k oc).ownBlock W [⟨oo,k,oc⟩]→qcd (qdt mk 2) wr W B2→qcd (qdt mk 3) wr W B3→qbh P md ops Q S m (fuel+6) (lst6 L b1 b2 b3 c1 c2 c3 false true true false false false) (act6 a0 d1 d2 d3 e1 e2 e3 none (some (.slice (some ⟨B2,0,none⟩) 2 2)) (some (.slice (some ⟨B3,0,none⟩) 3 3)) none none none) W:=by
  intro B2 B3 W M S2 S3
  refine qaf _ [b1] r0_011 (by simp) ?_
  refine qaa.cons' ?_ (qaa.nil)
  ·exact qbo ho1 go1 _ _ (B_1 _ _ (AG _ _ _ _ _ _)) (hS _ ((KS M).alloc _)) (rfl) (rfl) (D0_111 _ B2 B3 _ (M.alloc _) (qcd.here M.kept.size rfl (by simp)) (S2.alloc _) (S3.alloc _))
 have D0_100: ∀ (B1:Nat) (W:World),MG e mk wr (Value.slice oo k oc).ownBlock W [⟨oo,k,oc⟩]→qcd (qdt mk 1) wr W B1→qbh P md ops Q S m (fuel+7) (lst6 L b1 b2 b3 c1 c2 c3 true false false false false false) (act6 a0 d1 d2 d3 e1 e2 e3 (some (.slice (some ⟨B1,0,none⟩) 1 1)) none none none none none) W:=by
  intro B1 W M S1
  refine qaf _ [c1,b2,b3] r0_100 (by simp) ?_
  refine qaa.cons' ?_ (qaa.cons' ?_ (qaa.cons' ?_ (qaa.nil)))
  ·refine qge hp1 gp1 A_1 (sv:= .slice oo k oc) (xv:=(.slice (some ⟨B1,0,none⟩) 1 1)) ?_ (by unfold act6;exact qgt _ (by simp only [qgs];exact z1)) (by unfold lst6;rw [qbf n_b1_c1,qbf n_b2_c1,qbf n_b3_c1];try rfl) ?_
   ·rw [qfr (hsd s1 (by simp)),V_1]
   refine MG.then M hmk hone ht hI hzs (by simp) rfl ?_ S1 (by omega) hbb ?_
   ·intro y hy
    simp only [List.mem_cons,List.not_mem_nil,or_false] at hy
    rcases hy with rfl<;>dsimp only<;>omega
   ·intro ao' cp' W' M' hk'
    refine ⟨hS _ (KS M'),?_⟩
    rw [show (act6 a0 d1 d2 d3 e1 e2 e3 (some (.slice (some ⟨B1,0,none⟩) 1 1)) none none none none none).put (some e1) (.slice ao' (k+1) cp')=act6 a0 d1 d2 d3 e1 e2 e3 (some (.slice (some ⟨B1,0,none⟩) 1 1)) none none (some (.slice ao' (k+1) cp')) none none from by unfold act6;rw [qbe n_d1_e1,qbe n_d2_e1,qbe n_d3_e1];rfl]
    exact D1_100 B1 _ _ _ M'
  ·exact qbo ho2 go2 _ _ (B_2 _ _ (AG _ _ _ _ _ _)) (hS _ ((KS M).alloc _)) (by unfold lst6;rw [qbf n_b1_b2];try rfl) (by unfold act6;rw [qbe n_d1_d2];try rfl) (D0_110 B1 _ _ (M.alloc _) (S1.alloc _) (qcd.here M.kept.size rfl (by simp)))
  ·exact qbo ho3 go3 _ _ (B_3 _ _ (AG _ _ _ _ _ _)) (hS _ ((KS M).alloc _)) (by unfold lst6;rw [qbf n_b1_b3,qbf n_b2_b3];try rfl) (by unfold act6;rw [qbe n_d1_d3,qbe n_d2_d3];try rfl) (D0_101 B1 _ _ (M.alloc _) (S1.alloc _) (qcd.here M.kept.size rfl (by simp)))
 have D0_010: ∀ (B2:Nat) (W:World),MG e mk wr (Value.slice oo k oc).ownBlock W [⟨oo,k,oc⟩]→qcd (qdt mk 2) wr W B2→qbh P md ops Q S m (fuel+7) (lst6 L b1 b2 b3 c1 c2 c3 false true false false false false) (act6 a0 d1 d2 d3 e1 e2 e3 none (some (.slice (some ⟨B2,0,none⟩) 2 2)) none none none none) W:=by
  intro B2 W M S2
  refine qaf _ [b1,b3] r0_010 (by simp) ?_
  refine qaa.cons' ?_ (qaa.cons' ?_ (qaa.nil))
  ·exact qbo ho1 go1 _ _ (B_1 _ _ (AG _ _ _ _ _ _)) (hS _ ((KS M).alloc _)) (rfl) (rfl) (D0_110 _ B2 _ (M.alloc _) (qcd.here M.kept.size rfl (by simp)) (S2.alloc _))
  ·exact qbo ho3 go3 _ _ (B_3 _ _ (AG _ _ _ _ _ _)) (hS _ ((KS M).alloc _)) (by unfold lst6;rw [qbf n_b1_b3,qbf n_b2_b3];try rfl) (by unfold act6;rw [qbe n_d1_d3,qbe n_d2_d3];try rfl) (D0_011 B2 _ _ (M.alloc _) (S2.alloc _) (qcd.here M.kept.size rfl (by simp)))
 have D0_001: ∀ (B3:Nat) (W:World),MG e mk wr (Value.slice oo k oc).ownBlock W [⟨oo,k,oc⟩]→qcd (qdt mk 3) wr W B3→qbh P md ops Q S m (fuel+7) (lst6 L b1 b2 b3 c1 c2 c3 false false true false false false) (act6 a0 d1 d2 d3 e1 e2 e3 none none (some (.slice (some ⟨B3,0,none⟩) 3 3)) none none none) W:=by
  intro B3 W M S3
  refine qaf _ [b1,b2] r0_001 (by simp) ?_
  refine qaa.cons' ?_ (qaa.cons' ?_ (qaa.nil))
  ·exact qbo ho1 go1 _ _ (B_1 _ _ (AG _ _ _ _ _ _)) (hS _ ((KS M).alloc _)) (rfl) (rfl) (D0_101 _ B3 _ (M.alloc _) (qcd.here M.kept.size rfl (by simp)) (S3.alloc _))
  ·exact qbo ho2 go2 _ _ (B_2 _ _ (AG _ _ _ _ _ _)) (hS _ ((KS M).alloc _)) (by unfold lst6;rw [qbf n_b1_b2];try rfl) (by unfold act6;rw [qbe n_d1_d2];try rfl) (D0_011 _ B3 _ (M.alloc _) (qcd.here M.kept.size rfl (by simp)) (S3.alloc _))
 have D0_000: ∀  (W:World),MG e mk wr (Value.slice oo k oc).ownBlock W [⟨oo,k,oc⟩]→qbh P md ops Q S m (fuel+8) (lst6 L b1 b2 b3 c1 c2 c3 false false false false false false) (act6 a0 d1 d2 d3 e1 e2 e3 none none none none none none) W:=by
  intro W M
  refine qaf _ [b1,b2,b3] r0_000 (by simp) ?_
  refine qaa.cons' ?_ (qaa.cons' ?_ (qaa.cons' ?_ (qaa.nil)))
  ·exact qbo ho1 go1 _ _ (B_1 _ _ (AG _ _ _ _ _ _)) (hS _ ((KS M).alloc _)) (rfl) (rfl) (D0_100 _ _ (M.alloc _) (qcd.here M.kept.size rfl (by simp)))
  ·exact qbo ho2 go2 _ _ (B_2 _ _ (AG _ _ _ _ _ _)) (hS _ ((KS M).alloc _)) (by unfold lst6;rw [qbf n_b1_b2];try rfl) (by unfold act6;rw [qbe n_d1_d2];try rfl) (D0_010 _ _ (M.alloc _) (qcd.here M.kept.size rfl (by simp)))
  ·exact qbo ho3 go3 _ _ (B_3 _ _ (AG _ _ _ _ _ _)) (hS _ ((KS M).alloc _)) (by unfold lst6;rw [qbf n_b1_b3,qbf n_b2_b3];try rfl) (by unfold act6;rw [qbe n_d1_d3,qbe n_d2_d3];try rfl) (D0_001 _ _ (M.alloc _) (qcd.here M.kept.size rfl (by simp)))
 exact D0_000 W0 M0
end
end
end Go.Proofs.YtchddaafibjmgaaGreat
