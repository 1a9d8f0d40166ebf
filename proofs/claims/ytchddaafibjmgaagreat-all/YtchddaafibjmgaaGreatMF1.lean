import Derived.Test.YtchddaafibjmgaaGreatME1
import Derived.Test.YtchddaafibjmgaaGreatME4
import Derived.Test.YtchddaafibjmgaaGreatME5
import Derived.Test.YtchddaafibjmgaaGreatME3
import Derived.Deep.RegionHeld3
set_option maxRecDepth 100000
set_option maxHeartbeats 20000000
namespace Go.Proofs.YtchddaafibjmgaaGreat
section
open Go.RowKit
section
variable {P:Program} {ops:Array Oper} {Q:Exit→Act→World→Prop} {md:Region.Mode} {S:World→Prop} {m:Nat}
theorem qg0 {i d fuel:Nat} {listed l':Array Bool} {a:Act} {w:World} {o:Oper} {fid:FuncId} {args:Array Value} (ho:ops[i]? =some o) (hg:o.guard=none∧o.dst=some d) (hr:(execOp a.eval o).run P w= .ok (.enter fid args) w)
  (hl:listed.setIfInBounds i true=l') (hK:Calls P fid args w fun e w'=> ∃ v,e= .returned v∧(S w'∧qbh P md ops Q S m fuel l' (a.put (some d) v) w')):
  wpOp P ops Q i (fun a' w'=>(i≠m→S w')∧qbh P md ops Q S m fuel (listed.setIfInBounds i true) a' w') a w:=by
 subst hl
 refine wpOp_step ho fun K' hK'=> ?_
 have hw:Region.wanted o (yielded ops a.tmps)=true:=by simp [Region.wanted,hg.1]
 rw [if_pos hw]
 unfold Oper.wp
 rw [hr,Oper.upon_enter]
 refine hK.mono ?_
 rintro e w' ⟨v,rfl,hS,h⟩
 dsimp only
 rw [hg.2]
 exact hK' _ _ ⟨fun _=>hS,h⟩
theorem run_enter {o : Oper} {a : Act} {w : World} {f : FuncId} {fn : Func} {x y : Nat} {ts : Array TypeId} {xv yv : Value} (hop : o.op = .call { callee := .value (.func f), args := #[.tmp x, .tmp y], argTypes := ts }) (hf : P.funcs[f]? = some fn) (hname : (fn.name == "runtime.NumGoroutine") = false) (hb : fn.body.isNone = false)
  (hx:a.eval (.tmp x)=xv) (hy:a.eval (.tmp y)=yv):(execOp a.eval o).run P w= .ok (.enter f #[xv,yv]) w:=by
 have h1 : ¬ fn.name = "runtime.NumGoroutine" := by simpa using hname
 have h2: ¬ fn.body=none:=by cases hx:fn.body<;>simp_all
 have e1:a.eval (.func f)= .func (.func f) #[] #[]:=rfl
 unfold execOp
 simp [hop,resolve,Deferred.ofValue,invoke,callFunc,hf,h1,h2,hx,hy,e1]
theorem run_made {o:Oper} {a:Act} {W:World} {e:TypeId} {z:Value} {size bytes:Nat} (hop:o.op= .alloc e) (hI:(P.info? e).map (fun i=>(i.zero,i.size,i.bytes))=some (some z,size,bytes)) {zs:Array Value} (hz:z.cells=zs):
  (execOp a.eval o).run P W= .ok (.value (.pointer (some ⟨W.heap.size,0,none⟩))) (W.alloc (.cells zs e)):=by
 subst hz
 obtain ⟨i,hi,hz,_,_⟩:=info_parts hI
 unfold execOp
 simp [hop,Instr.alloc,zeroValue,typeInfo,hi,hz,newVar,newRow]
theorem float_draw {L Lend:Array Bool} {fuel:Nat} {a0:Act} {W0:World} {zs:Array Value} {t:TypeId} (i1 i2 i3 d1 d2 d3:Nat) {o1 o2 o3:Oper} {f g:FuncId} {A1:Array Value} {A2:Value→Array Value}
  (J0:Option Nat→World→Prop) (J1 J2:Option Nat→Value→World→Prop)
  (ho1:ops[i1]? =some o1) (ho2:ops[i2]? =some o2) (ho3:ops[i3]? =some o3) (g1:o1.guard=none∧o1.dst=some d1) (g2:o2.guard=none∧o2.dst=some d2) (g3:o3.guard=none∧o3.dst=some d3)
  (hsz: [d1,d2,d3].all (fun d=>decide (d < a0.tmps.size))=true) (hnd: [d1,d2,d3].Nodup) (hid: [i1,i2,i3].Nodup)
  (E1: ∀ (a:Act) (W:World),(∀ j,j∉ [d1,d2,d3]→a.eval (.tmp j)=a0.eval (.tmp j))→(execOp a.eval o1).run P W= .ok (.enter f A1) W)
  (E2: ∀ (a:Act) (W:World) (v:Value),(∀ j,j∉ [d1,d2,d3]→a.eval (.tmp j)=a0.eval (.tmp j))→a.eval (.tmp d1)=v→(execOp a.eval o2).run P W= .ok (.enter g (A2 v)) W)
  (E3: ∀ (a:Act) (W:World),(execOp a.eval o3).run P W= .ok (.value (.pointer (some ⟨W.heap.size,0,none⟩))) (W.alloc (.cells zs t)))
  (h1: ∀ x W,J0 x W→Calls P f A1 W fun e W'=> ∃ v,e= .returned v∧J1 x v W') (h2: ∀ x v W,J1 x v W→Calls P g (A2 v) W fun e W'=> ∃ u,e= .returned u∧J2 x u W')
  (k0: ∀ W,J0 none W→J0 (some W.heap.size) (W.alloc (.cells zs t))) (k1: ∀ v W,J1 none v W→J1 (some W.heap.size) v (W.alloc (.cells zs t))) (k2: ∀ u W,J2 none u W→J2 (some W.heap.size) u (W.alloc (.cells zs t)))
  (s0: ∀ x W,J0 x W→S W) (s1: ∀ x v W,J1 x v W→S W) (s2: ∀ x u W,J2 x u W→S W)
  (r0:Region.ready md ops L= [i1,i3]) (r1:Region.ready md ops (L.setIfInBounds i1 true)= [i2,i3]) (r2:Region.ready md ops ((L.setIfInBounds i1 true).setIfInBounds i2 true)= [i3])
  (q0:Region.ready md ops (L.setIfInBounds i3 true)= [i1]) (q1:Region.ready md ops ((L.setIfInBounds i1 true).setIfInBounds i3 true)= [i2])
  (hL:((L.setIfInBounds i1 true).setIfInBounds i2 true).setIfInBounds i3 true=Lend) (hJ:J0 none W0)
  (hEnd: ∀ B u v W,J2 (some B) u W→qbh P md ops Q S m fuel Lend (((a0.put (some d1) v).put (some d2) u).put (some d3) (.pointer (some ⟨B,0,none⟩))) W):
  qbh P md ops Q S m (fuel+3) L a0 W0:=by
 have n12:d1≠d2:=qak hnd 0 1 (by decide) (by simp)
 have n13:d1≠d3:=qak hnd 0 2 (by decide) (by simp)
 have n23:d2≠d3:=qak hnd 1 2 (by decide) (by simp)
 have m12:i1≠i2:=qak hid 0 1 (by decide) (by simp)
 have m13:i1≠i3:=qak hid 0 2 (by decide) (by simp)
 have m23:i2≠i3:=qak hid 1 2 (by decide) (by simp)
 simp only [List.all_cons,List.all_nil,Bool.and_true,Bool.and_eq_true,decide_eq_true_eq] at hsz
 have PC: ∀ (a:Act) (d d':Nat) (v v':Value),d≠d'→(a.put (some d) v).put (some d') v'=(a.put (some d') v').put (some d) v:=fun a d d' v v' h=>Act.put_comm a v v' fun e h1 h2=>h (Option.some.inj (h1.trans h2.symm))
 have AP: ∀ (a:Act) (d:Nat) (v:Value),d∈ [d1,d2,d3]→(∀ j,j∉ [d1,d2,d3]→a.eval (.tmp j)=a0.eval (.tmp j))→ ∀ j,j∉ [d1,d2,d3]→(a.put (some d) v).eval (.tmp j)=a0.eval (.tmp j):=fun a d v hd h j hj=>(Act.eval_put_ne a d j v fun e=>hj (e▸hd)).trans (h j hj)
 -- behind g
 have X2: ∀ v u W,J2 none u W→qbh P md ops Q S m (fuel+1) ((L.setIfInBounds i1 true).setIfInBounds i2 true) ((a0.put (some d1) v).put (some d2) u) W:=by
  intro v u W hJ2
  refine qaf _ [i3] r2 (by simp) (qaa.cons' ?_ qaa.nil)
  exact qbo ho3 g3 _ _ (E3 _ W) (s2 _ _ _ (k2 u W hJ2)) hL rfl (hEnd _ u v _ (k2 u W hJ2))
 -- f and the variable are done
 have Y1: ∀ B v W,J1 (some B) v W→qbh P md ops Q S m (fuel+1) ((L.setIfInBounds i1 true).setIfInBounds i3 true) ((a0.put (some d1) v).put (some d3) (.pointer (some ⟨B,0,none⟩))) W:=by
  intro B v W hJ1
  refine qaf _ [i2] q1 (by simp) (qaa.cons' ?_ qaa.nil)
  refine qg0 ho2 g2 (E2 _ W v (AP _ _ _ (by simp) (AP _ _ _ (by simp) fun _ _=>rfl)) ?_) ?_ ((h2 _ v W hJ1).mono ?_) (l':=Lend)
  ·rw [Act.eval_put_ne _ _ _ _ n13.symm]
   exact Act.eval_put_same _ _ _ hsz.1
  ·rw [Array.setIfInBounds_comm _ _ m23.symm]
   exact hL
  ·rintro e W' ⟨u,rfl,hJ2⟩
   refine ⟨u,rfl,s2 _ _ _ hJ2,?_⟩
   rw [PC _ d3 d2 _ _ n23.symm]
   exact hEnd B u v W' hJ2
 have Y0: ∀ B W,J0 (some B) W→qbh P md ops Q S m (fuel+2) (L.setIfInBounds i3 true) (a0.put (some d3) (.pointer (some ⟨B,0,none⟩))) W:=by
  intro B W hJ0
  refine qaf _ [i1] q0 (by simp) (qaa.cons' ?_ qaa.nil)
  refine qg0 ho1 g1 (E1 _ W (AP _ _ _ (by simp) fun _ _=>rfl)) (Array.setIfInBounds_comm _ _ m13.symm) ((h1 _ W hJ0).mono ?_)
  rintro e W' ⟨v,rfl,hJ1⟩
  refine ⟨v,rfl,s1 _ _ _ hJ1,?_⟩
  rw [PC _ d3 d1 _ _ n13.symm]
  exact Y1 B v W' hJ1
 have X1: ∀ v W,J1 none v W→qbh P md ops Q S m (fuel+2) (L.setIfInBounds i1 true) (a0.put (some d1) v) W:=by
  intro v W hJ1
  refine qaf _ [i2,i3] r1 (by simp) (qaa.cons' ?_ (qaa.cons' ?_ qaa.nil))
  ·refine qg0 ho2 g2 (E2 _ W v (AP _ _ _ (by simp) fun _ _=>rfl) (Act.eval_put_same _ _ _ hsz.1)) rfl ((h2 _ v W hJ1).mono ?_)
   rintro e W' ⟨u,rfl,hJ2⟩
   exact ⟨u,rfl,s2 _ _ _ hJ2,X2 v u W' hJ2⟩
  ·exact qbo ho3 g3 _ _ (E3 _ W) (s1 _ _ _ (k1 v W hJ1)) rfl rfl (Y1 _ v _ (k1 v W hJ1))
 refine qaf _ [i1,i3] r0 (by simp) (qaa.cons' ?_ (qaa.cons' ?_ qaa.nil))
 ·refine qg0 ho1 g1 (E1 _ W0 fun _ _=>rfl) rfl ((h1 _ W0 hJ).mono ?_)
  rintro e W' ⟨v,rfl,hJ1⟩
  exact ⟨v,rfl,s1 _ _ _ hJ1,X1 v W' hJ1⟩
 ·exact qbo ho3 g3 _ _ (E3 _ W0) (s0 _ _ (k0 W0 hJ)) rfl rfl (Y0 _ _ (k0 W0 hJ))
theorem float_draw1 {L Lend:Array Bool} {fuel:Nat} {a0:Act} {W0:World} {zs:Array Value} {t:TypeId} (i1 i3 d1 d3:Nat) {o1 o3:Oper} {f:FuncId} {A1:Array Value} (J0:Option Nat→World→Prop) (J1:Option Nat→Value→World→Prop)
  (ho1:ops[i1]? =some o1) (ho3:ops[i3]? =some o3) (g1:o1.guard=none∧o1.dst=some d1) (g3:o3.guard=none∧o3.dst=some d3) (hnd:d1≠d3) (hid:i1≠i3)
  (E1: ∀ (a:Act) (W:World),(∀ j,j∉ [d1,d3]→a.eval (.tmp j)=a0.eval (.tmp j))→(execOp a.eval o1).run P W= .ok (.enter f A1) W)
  (E3: ∀ (a:Act) (W:World),(execOp a.eval o3).run P W= .ok (.value (.pointer (some ⟨W.heap.size,0,none⟩))) (W.alloc (.cells zs t)))
  (h1: ∀ x W,J0 x W→Calls P f A1 W fun e W'=> ∃ v,e= .returned v∧J1 x v W')
  (k0: ∀ W,J0 none W→J0 (some W.heap.size) (W.alloc (.cells zs t))) (k1: ∀ v W,J1 none v W→J1 (some W.heap.size) v (W.alloc (.cells zs t)))
  (s0: ∀ x W,J0 x W→S W) (s1: ∀ x v W,J1 x v W→S W)
  (r0:Region.ready md ops L= [i1,i3]) (r1:Region.ready md ops (L.setIfInBounds i1 true)= [i3]) (q0:Region.ready md ops (L.setIfInBounds i3 true)= [i1])
  (hL:(L.setIfInBounds i1 true).setIfInBounds i3 true=Lend) (hJ:J0 none W0)
  (hEnd: ∀ B v W,J1 (some B) v W→qbh P md ops Q S m fuel Lend ((a0.put (some d1) v).put (some d3) (.pointer (some ⟨B,0,none⟩))) W):
  qbh P md ops Q S m (fuel+2) L a0 W0:=by
 have PC: ∀ (a:Act) (d d':Nat) (v v':Value),d≠d'→(a.put (some d) v).put (some d') v'=(a.put (some d') v').put (some d) v:=fun a d d' v v' h=>Act.put_comm a v v' fun e h1 h2=>h (Option.some.inj (h1.trans h2.symm))
 refine qaf _ [i1,i3] r0 (by simp) (qaa.cons' ?_ (qaa.cons' ?_ qaa.nil))
 ·refine qg0 ho1 g1 (E1 _ W0 fun _ _=>rfl) rfl ((h1 _ W0 hJ).mono ?_)
  rintro e W' ⟨v,rfl,hJ1⟩
  refine ⟨v,rfl,s1 _ _ _ hJ1,?_⟩
  refine qaf _ [i3] r1 (by simp) (qaa.cons' ?_ qaa.nil)
  exact qbo ho3 g3 _ _ (E3 _ W') (s1 _ _ _ (k1 v W' hJ1)) hL rfl (hEnd _ v _ (k1 v W' hJ1))
 ·refine qbo ho3 g3 _ _ (E3 _ W0) (s0 _ _ (k0 W0 hJ)) rfl rfl ?_
  refine qaf _ [i1] q0 (by simp) (qaa.cons' ?_ qaa.nil)
  refine qg0 ho1 g1 (E1 _ _ fun j hj=>Act.eval_put_ne _ _ _ _ fun e=>hj (by simp [e])) ((Array.setIfInBounds_comm _ _ hid.symm).trans hL) ((h1 _ _ (k0 W0 hJ)).mono ?_)
  rintro e W' ⟨v,rfl,hJ1⟩
  refine ⟨v,rfl,s1 _ _ _ hJ1,?_⟩
  rw [PC _ d3 d1 _ _ hnd.symm]
  exact hEnd _ v W' hJ1
end
end
section
open Go.RowKit Go.Maps
attribute [local go_sem] Go.wp_at_zero Go.wp_at_succ
theorem repV_rep (r:qg8) (oo:Option Addr) (oc:Nat):repV r.rep oo oc= .agg #[.int .i64 r.err,.string r.node,.int .i64 r.score,.slice oo r.reasons.length oc,.int .i64 r.fresh]:=by
 unfold repV qg8.rep
 rw [bs_ky,List.length_map]
section
variable {C:Nat→Prop} {w:World} {Zp Yp Yr Lp X:Nat} {F P:Nat→Prop} {v4 v5 v6 v7:Value} {st:RefD} {its:List Item}
theorem pod_pair {a:Abs} (H:qas C w Zp Yp Yr Lp X F P v4 v5 v6 v7 a st its) {p:PodD} (hp:p.ok w) (hpC: ∀ x∈p.lists,x.inC C) (hits:its.length≤800):
  Calls Tryz.prog 22 #[.pointer (some ⟨Lp,0,none⟩),.agg p.cells] w fun e w'=> ∃ q its',e= .returned (.agg q.cells)∧p.sent its' q∧q.ok w'∧qas C w' Zp Yp Yr Lp X F (grow P w w') v4 v5 v6 v7 a st its'∧
   qaw (qx Zp F Yr v4 v5 v6 v7 P) (qx Zp F Yr v4 v5 v6 v7 (grow P w w')) w w'∧its'.length≤its.length+5:=by
 refine (pod_any C P w Lp its p H.lent H.cp H.cl H.pl hp hpC (by omega)).mono ?_
 rintro e w' ⟨q,its',rfl,hs,L,K,hn⟩
 obtain ⟨H',T⟩:=H.lend K L
 exact ⟨q,its',rfl,hs,(hs.ok hp L).1,H',T,hn⟩
theorem psched_pair (H:qas C w Zp Yp Yr Lp X F P v4 v5 v6 v7 st.abs st its) {p q:PodD} (hs:p.sent its q) (hq:q.ok w):
  Calls Tryz.prog 53 #[.pointer (some ⟨Yp,0,none⟩),.agg q.cells] w fun e w'=> ∃ F' oo oc,e= .returned (.agg #[.int .i64 (st.sched p).1.err,.string (st.sched p).1.node,.int .i64 (st.sched p).1.score,.slice oo (st.sched p).1.reasons.length oc,.int .i64 (st.sched p).1.fresh])∧
   qas C w' Zp Yp Yr Lp X F' P v4 v5 v6 v7 (st.sched p).2.abs st its∧qaw (qx Zp F Yr v4 v5 v6 v7 P) (qx Zp F' Yr v4 v5 v6 v7 P) w w'∧w'.ownsRow 0 88 2 (.slice oo (st.sched p).1.reasons.length oc) (st.sched p).1.reasons.length ((st.sched p).1.rep.reasons.flatMap qfb)∧
   ∀ b,(Value.slice oo (st.sched p).1.reasons.length oc).ownBlock=some b→w.heap.size≤b∧ ¬ F' b:=by
 have hr:=ref_sched H.sn H.hin H.sound.needs p
 refine (spec_sched H.bst q hq).mono ?_
 rintro e w' ⟨F',oo,oc,rfl,L,R⟩
 rw [hs.val.1,hs.val.2,hr] at L R ⊢
 have hl:(st.sched p).1.rep.reasons.length=(st.sched p).1.reasons.length:=List.length_map ..
 have R1:=R.rsn
 have R2:=R.rnew
 dsimp only at R1 R2 L
 rw [hl] at R1 R2
 obtain ⟨H',T⟩:=H.prog L
 exact ⟨F',oo,oc,by rw [repV_rep],H',T,R1,R2⟩
theorem rsched_pair {a:Abs} (H:qas C w Zp Yp Yr Lp X F P v4 v5 v6 v7 a st its) {p:PodD} (hp:p.ok w) (hpC: ∀ x∈p.lists,x.inC C) (ht:st.touched.length≤8000000000000):
  Calls Tryz.prog 54 #[.pointer (some ⟨Yr,0,none⟩),.agg p.cells] w fun e w'=> ∃ ro rc u4 u5 u6 u7,e= .returned (.agg #[.int .i64 (st.sched p).1.err,.string (st.sched p).1.node,.int .i64 (st.sched p).1.score,.slice ro (st.sched p).1.reasons.length rc,.int .i64 (st.sched p).1.fresh])∧
   qas C w' Zp Yp Yr Lp X F P u4 u5 u6 u7 a (st.sched p).2 its∧qaw (qx Zp F Yr v4 v5 v6 v7 P) (qx Zp F Yr u4 u5 u6 u7 P) w w'∧w'.ownsRow 0 165 2 (.slice ro (st.sched p).1.reasons.length rc) (st.sched p).1.reasons.length ((st.sched p).1.reasons.flatMap qdr):=by
 refine (sched_any C Yr st v4 v5 v6 v7 p w H.ref H.sound H.cr hp hpC H.cl (by omega)).mono ?_
 rintro e w' ⟨rv,u4,u5,u6,u7,rfl,h1,_,R,K,hu⟩
 obtain ⟨ro,rc,rfl⟩:=qv h1
 obtain ⟨H',T⟩:=H.doc R K hu (H.sound.sched p hp hpC) (H.wt.of (qho st p))
 exact ⟨ro,rc,u4,u5,u6,u7,rfl,H',T,h1⟩
end
end
section
open Go.RowKit Go.Maps
attribute [local go_sem] Go.wp_at_zero Go.wp_at_succ
theorem infoRT:(Tryz.prog.info? 97).map (fun i=>(i.zero,i.size,i.bytes))=some (some (.agg #[.int .i64 0,.string ⟨#[]⟩,.int .i64 0,.slice none 0 0,.int .i64 0]),5,64):=by kernel_rfl
theorem infoRRT:(Tryz.prog.info? 138).map (fun i=>(i.zero,i.size,i.bytes))=some (some (.agg #[.int .i64 0,.string ⟨#[]⟩,.int .i64 0,.slice none 0 0,.int .i64 0]),5,64):=by kernel_rfl
theorem sets_all {g:Nat} {e:TypeId} {us:List Value} {w:World} {cur:Array Value} (h:w.heap[g]? =some (.cells cur e (0,0))) (hl:us.length=cur.size):(sets g us 0 w).heap[g]? =some (.cells us.toArray e (0,0)):=by
 obtain ⟨cur',h1,h2,h3⟩:=sets_block g e us 0 w cur h
 rw [h1]
 have:cur'=us.toArray:=by
  apply Array.ext_getElem?
  intro t
  by_cases ht:t < cur.size
  ·rw [h3 t ht,if_pos (by omega)]
   simp
  ·rw [Array.getElem?_eq_none (by omega),Array.getElem?_eq_none (by simp;omega)]
 rw [this]
theorem schedTo_few (st:RefD) (p:PodD): ∀ k,(qah st p k).1.length≤k
 | 0=>by simp [qah]
 | k+1=>by
  have ih:=schedTo_few st p k
  unfold qah
  split
  ·omega
  ·split
   ·simp only [List.length_append,List.length_singleton];omega
   ·split<;>(try dsimp only)<;>omega
theorem sched_few (st:RefD) (hn:st.nodes.length≤32) (p:PodD):(st.sched p).1.reasons.length≤990:=by
 have hf:st.fresh.2.nodes=st.nodes:=rfl
 unfold RefD.sched
 split
 ·simp [qg8.no]
 ·split
  ·simp [qg8.no]
  ·have h1:=schedTo_few st.fresh.2 p st.fresh.2.nodes.length
   unfold RefD.schedIn
   rw [hf] at h1 ⊢
   split
   rename_i l b s he
   rw [he] at h1
   split
   ·simp only at h1 ⊢;omega
   ·simp
def zRep:Array Value:= #[.int .i64 0,.string ⟨#[]⟩,.int .i64 0,.slice none 0 0,.int .i64 0]
def RB (B0:Nat) (t:TypeId) (x:Option Nat) (W:World) (D:Nat→Prop):Prop:= ∀ B,x=some B→B0≤B∧W.heap[B]? =some (.cells zRep t (0,0))∧ ¬ D B
theorem RB.no {B0:Nat} {t:TypeId} {W:World} {D:Nat→Prop}:RB B0 t none W D:=fun _ h=>by cases h
theorem RB.make {B0:Nat} {t:TypeId} {W:World} {D:Nat→Prop} (hD: ∀ b,D b→b < W.heap.size) (hB:B0≤W.heap.size):RB B0 t (some W.heap.size) (W.alloc (.cells zRep t)) D:=fun B h=>by
 cases h
 exact ⟨hB,qm W _,fun h=>Nat.lt_irrefl _ (hD _ h)⟩
theorem RB.turned {B0:Nat} {t:TypeId} {x:Option Nat} {W W':World} {D D':Nat→Prop} (h:RB B0 t x W D) (T:qaw D D' W W'):RB B0 t x W' D':=fun B hB=>by
 obtain ⟨h1,h2,h3⟩:=h B hB
 have l:=qo h2
 refine ⟨h1,by rw [T.1.block B l h3];exact h2,fun hd=> ?_⟩
 rcases T.2 B hd with h| h
 ·exact h3 h
 ·omega
section
variable (C:Nat→Prop) (w0:World) (Zp Yp Yr Lp X:Nat) (F P:Nat→Prop) (v4 v5 v6 v7:Value) (st:RefD) (its:List Item) (p:PodD)
def LS0 (x:Option Nat) (W:World):Prop:=qas C W Zp Yp Yr Lp X F P v4 v5 v6 v7 st.abs st its∧qaw (qx Zp F Yr v4 v5 v6 v7 P) (qx Zp F Yr v4 v5 v6 v7 P) w0 W∧RB w0.heap.size 97 x W (qx Zp F Yr v4 v5 v6 v7 P)
def LS1 (x:Option Nat) (v:Value) (W:World):Prop:= ∃ q its1 P1,v= .agg q.cells∧p.sent its1 q∧q.ok W∧qas C W Zp Yp Yr Lp X F P1 v4 v5 v6 v7 st.abs st its1∧qaw (qx Zp F Yr v4 v5 v6 v7 P) (qx Zp F Yr v4 v5 v6 v7 P1) w0 W∧its1.length≤its.length+5∧RB w0.heap.size 97 x W (qx Zp F Yr v4 v5 v6 v7 P1)
def LS2 (x:Option Nat) (u:Value) (W:World):Prop:= ∃ its1 P1 F' oo oc,u= .agg #[.int .i64 (st.sched p).1.err,.string (st.sched p).1.node,.int .i64 (st.sched p).1.score,.slice oo (st.sched p).1.reasons.length oc,.int .i64 (st.sched p).1.fresh]∧qas C W Zp Yp Yr Lp X F' P1 v4 v5 v6 v7 (st.sched p).2.abs st its1∧
 qaw (qx Zp F Yr v4 v5 v6 v7 P) (qx Zp F' Yr v4 v5 v6 v7 P1) w0 W∧its1.length≤its.length+5∧RB w0.heap.size 97 x W (qx Zp F' Yr v4 v5 v6 v7 P1)∧
 W.ownsRow 0 88 2 (.slice oo (st.sched p).1.reasons.length oc) (st.sched p).1.reasons.length ((st.sched p).1.rep.reasons.flatMap qfb)∧ ∀ b,(Value.slice oo (st.sched p).1.reasons.length oc).ownBlock=some b→w0.heap.size≤b∧ ¬ qx Zp F' Yr v4 v5 v6 v7 P1 b
variable {C w0 Zp Yp Yr Lp X F P v4 v5 v6 v7 st its p}
theorem LS0.make {W:World} (h:LS0 C w0 Zp Yp Yr Lp X F P v4 v5 v6 v7 st its none W):LS0 C w0 Zp Yp Yr Lp X F P v4 v5 v6 v7 st its (some W.heap.size) (W.alloc (.cells zRep 97)):=
 ⟨h.1.below (qi _ _),h.2.1.trans (qaw.below (qi _ _)),RB.make (fun _=>h.1.lt) h.2.1.1.size⟩
theorem LS1.make {v:Value} {W:World} (h:LS1 C w0 Zp Yp Yr Lp X F P v4 v5 v6 v7 st its p none v W):LS1 C w0 Zp Yp Yr Lp X F P v4 v5 v6 v7 st its p (some W.heap.size) v (W.alloc (.cells zRep 97)):=by
 obtain ⟨q,its1,P1,rfl,hs,hq,H,T,hn,R⟩:=h
 exact ⟨q,its1,P1,rfl,hs,hq.below (qi _ _),H.below (qi _ _),T.trans (qaw.below (qi _ _)),hn,RB.make (fun _=>H.lt) T.1.size⟩
theorem LS2.make {u:Value} {W:World} (h:LS2 C w0 Zp Yp Yr Lp X F P v4 v5 v6 v7 st its p none u W):LS2 C w0 Zp Yp Yr Lp X F P v4 v5 v6 v7 st its p (some W.heap.size) u (W.alloc (.cells zRep 97)):=by
 obtain ⟨its1,P1,F',oo,oc,rfl,H,T,hn,R,hr,hb⟩:=h
 exact ⟨its1,P1,F',oo,oc,rfl,H.below (qi _ _),T.trans (qaw.below (qi _ _)),hn,RB.make (fun _=>H.lt) T.1.size,(Kept.of_below (F:=qq) (qi _ _)).ownsRow hr fun _ _=>id,hb⟩
theorem LS0.call {x:Option Nat} {W:World} (h:LS0 C w0 Zp Yp Yr Lp X F P v4 v5 v6 v7 st its x W) (hp:p.ok w0) (hpC: ∀ x∈p.lists,x.inC C) (hits:its.length≤800):
  Calls Tryz.prog 22 #[.pointer (some ⟨Lp,0,none⟩),.agg p.cells] W fun e W'=> ∃ v,e= .returned v∧LS1 C w0 Zp Yp Yr Lp X F P v4 v5 v6 v7 st its p x v W':=by
 obtain ⟨H,T,R⟩:=h
 refine (pod_pair H (hp.kept hpC T.1 fun b hb=>H.foot hb) hpC hits).mono ?_
 rintro e W' ⟨q,its',rfl,hs,hq,H',T',hn⟩
 exact ⟨_,rfl,q,its',_,rfl,hs,hq,H',T.trans T',hn,R.turned T'⟩
theorem LS1.call {x:Option Nat} {v:Value} {W:World} (h:LS1 C w0 Zp Yp Yr Lp X F P v4 v5 v6 v7 st its p x v W):
  Calls Tryz.prog 53 #[.pointer (some ⟨Yp,0,none⟩),v] W fun e W'=> ∃ u,e= .returned u∧LS2 C w0 Zp Yp Yr Lp X F P v4 v5 v6 v7 st its p x u W':=by
 obtain ⟨q,its1,P1,rfl,hs,hq,H,T,hn,R⟩:=h
 refine (psched_pair H hs hq).mono ?_
 rintro e W' ⟨F',oo,oc,rfl,H',T',hr,hb⟩
 refine ⟨_,rfl,its1,P1,F',oo,oc,rfl,H',T.trans T',hn,R.turned T',hr,fun b h=> ?_⟩
 obtain ⟨h1,h2⟩:=hb b h
 refine ⟨Nat.le_trans T.1.size h1,fun hd=> ?_⟩
 rcases T'.2 b hd with hd'| hd'
 ·exact absurd (H.lt hd') (Nat.not_lt.2 h1)
 ·rcases hd with hd| hd| hd| hd
  ·subst hd
   exact absurd (qo H.box) (Nat.not_lt.2 h1)
  ·exact h2 hd
  ·exact absurd (H.ref.footLt hd) (Nat.not_lt.2 h1)
  ·exact absurd (H.pl b hd) (Nat.not_lt.2 h1)
end
section
variable (C:Nat→Prop) (w0:World) (Zp Yp Yr Lp X:Nat) (F P:Nat→Prop) (v4 v5 v6 v7:Value) (a:Abs) (st:RefD) (its:List Item) (p:PodD)
def LT0 (x:Option Nat) (W:World):Prop:=qas C W Zp Yp Yr Lp X F P v4 v5 v6 v7 a st its∧qaw (qx Zp F Yr v4 v5 v6 v7 P) (qx Zp F Yr v4 v5 v6 v7 P) w0 W∧RB w0.heap.size 138 x W (qx Zp F Yr v4 v5 v6 v7 P)
def LT1 (x:Option Nat) (u:Value) (W:World):Prop:= ∃ ro rc u4 u5 u6 u7,u= .agg #[.int .i64 (st.sched p).1.err,.string (st.sched p).1.node,.int .i64 (st.sched p).1.score,.slice ro (st.sched p).1.reasons.length rc,.int .i64 (st.sched p).1.fresh]∧qas C W Zp Yp Yr Lp X F P u4 u5 u6 u7 a (st.sched p).2 its∧
 qaw (qx Zp F Yr v4 v5 v6 v7 P) (qx Zp F Yr u4 u5 u6 u7 P) w0 W∧RB w0.heap.size 138 x W (qx Zp F Yr u4 u5 u6 u7 P)∧W.ownsRow 0 165 2 (.slice ro (st.sched p).1.reasons.length rc) (st.sched p).1.reasons.length ((st.sched p).1.reasons.flatMap qdr)
variable {C w0 Zp Yp Yr Lp X F P v4 v5 v6 v7 a st its p}
theorem LT0.make {W:World} (h:LT0 C w0 Zp Yp Yr Lp X F P v4 v5 v6 v7 a st its none W):LT0 C w0 Zp Yp Yr Lp X F P v4 v5 v6 v7 a st its (some W.heap.size) (W.alloc (.cells zRep 138)):=
 ⟨h.1.below (qi _ _),h.2.1.trans (qaw.below (qi _ _)),RB.make (fun _=>h.1.lt) h.2.1.1.size⟩
theorem LT1.make {u:Value} {W:World} (h:LT1 C w0 Zp Yp Yr Lp X F P v4 v5 v6 v7 a st its p none u W):LT1 C w0 Zp Yp Yr Lp X F P v4 v5 v6 v7 a st its p (some W.heap.size) u (W.alloc (.cells zRep 138)):=by
 obtain ⟨ro,rc,u4,u5,u6,u7,rfl,H,T,R,hr⟩:=h
 exact ⟨ro,rc,u4,u5,u6,u7,rfl,H.below (qi _ _),T.trans (qaw.below (qi _ _)),RB.make (fun _=>H.lt) T.1.size,(Kept.of_below (F:=qq) (qi _ _)).ownsRow hr fun _ _=>id⟩
theorem LT0.call {x:Option Nat} {W:World} (h:LT0 C w0 Zp Yp Yr Lp X F P v4 v5 v6 v7 a st its x W) (hp:p.ok w0) (hpC: ∀ x∈p.lists,x.inC C) (ht:st.touched.length≤8000000000000):
  Calls Tryz.prog 54 #[.pointer (some ⟨Yr,0,none⟩),.agg p.cells] W fun e W'=> ∃ v,e= .returned v∧LT1 C w0 Zp Yp Yr Lp X F P v4 v5 v6 v7 a st its p x v W':=by
 obtain ⟨H,T,R⟩:=h
 refine (rsched_pair H (hp.kept hpC T.1 fun b hb=>H.foot hb) hpC ht).mono ?_
 rintro e W' ⟨ro,rc,u4,u5,u6,u7,rfl,H',T',hr⟩
 exact ⟨_,rfl,ro,rc,u4,u5,u6,u7,rfl,H',T.trans T',R.turned T',hr⟩
end
theorem lsched_any {C:Nat→Prop} {w:World} {Zp Yp Yr Lp X:Nat} {F P:Nat→Prop} {v4 v5 v6 v7:Value} {st:RefD} {its:List Item} (H:qas C w Zp Yp Yr Lp X F P v4 v5 v6 v7 st.abs st its) (o:qbr) (ho:o.ok C w) (ht:st.touched.length≤8000000000000) (hits:its.length≤800) {G:Nat→Prop} {c0 c1 c2 c3:Nat} (B:Book G w X c0 c1 c2 c3) (hDG: ∀ b,qx Zp F Yr v4 v5 v6 v7 P b→ ¬ G b) (hCG: ∀ b,C b→ ¬ G b) (h0:c0≤1000000000000):
  Calls Tryz.prog 24 #[.pointer (some ⟨Zp,0,none⟩),.agg o.cells] w fun e w'=>e= .returned (.bool true)∧ ∃ F' P' u4 u5 u6 u7 its' G',qas C w' Zp Yp Yr Lp X F' P' u4 u5 u6 u7 (st.sched o.p).2.abs (st.sched o.p).2 its'∧its'.length≤its.length+5∧Book G' w' X (c0+1) c1 c2 c3∧
   qaw (fun b=>qx Zp F Yr v4 v5 v6 v7 P b∨G b) (fun b=>qx Zp F' Yr u4 u5 u6 u7 P' b∨G' b) w w'∧ ∀ b,qx Zp F' Yr u4 u5 u6 u7 P' b→ ¬ G' b:=by
 unfold qbr.cells
 have hlen:(st.sched o.p).1.reasons.length≤990:=sched_few st H.sound.wf.nodes o.p
 obtain ⟨w0,hw0⟩: ∃ W,W=w.alloc (.cells #[.int .i64 o.which,.int .i64 o.kind,.int .i64 o.a,.string o.s,.string o.n.name,.int .i64 o.n.r0,.int .i64 o.n.r1,.int .i64 o.n.r2,.slice o.n.labels.a o.n.labels.L.length o.n.labels.cap,.slice o.n.taints.a o.n.taints.L.length o.n.taints.cap,.string o.p.name,.int .i64 o.p.n0,.int .i64 o.p.n1,.int .i64 o.p.n2,.int .i64 o.p.port,.slice o.p.labels.a o.p.labels.L.length o.p.labels.cap,.slice o.p.select.a o.p.select.L.length o.p.select.cap,.slice o.p.bears.a o.p.bears.L.length o.p.bears.cap,.slice o.p.near.a o.p.near.L.length o.p.near.cap,.slice o.p.apart.a o.p.apart.L.length o.p.apart.cap] 47):=⟨_,rfl⟩
 have hb0:Below w.heap.size w w0:=by rw [hw0];exact qi _ _
 have lz:w.heap.size < w0.heap.size:=by rw [hw0];simp
 have bx10:w0.cell? ⟨w.heap.size,10,none⟩=some (.string o.p.name):=by rw [hw0,ql (qm _ _)];rfl
 have bx11:w0.cell? ⟨w.heap.size,11,none⟩=some (.int .i64 o.p.n0):=by rw [hw0,ql (qm _ _)];rfl
 have bx12:w0.cell? ⟨w.heap.size,12,none⟩=some (.int .i64 o.p.n1):=by rw [hw0,ql (qm _ _)];rfl
 have bx13:w0.cell? ⟨w.heap.size,13,none⟩=some (.int .i64 o.p.n2):=by rw [hw0,ql (qm _ _)];rfl
 have bx14:w0.cell? ⟨w.heap.size,14,none⟩=some (.int .i64 o.p.port):=by rw [hw0,ql (qm _ _)];rfl
 have bx15:w0.cell? ⟨w.heap.size,15,none⟩=some (.slice o.p.labels.a o.p.labels.L.length o.p.labels.cap):=by rw [hw0,ql (qm _ _)];rfl
 have bx16:w0.cell? ⟨w.heap.size,16,none⟩=some (.slice o.p.select.a o.p.select.L.length o.p.select.cap):=by rw [hw0,ql (qm _ _)];rfl
 have bx17:w0.cell? ⟨w.heap.size,17,none⟩=some (.slice o.p.bears.a o.p.bears.L.length o.p.bears.cap):=by rw [hw0,ql (qm _ _)];rfl
 have bx18:w0.cell? ⟨w.heap.size,18,none⟩=some (.slice o.p.near.a o.p.near.L.length o.p.near.cap):=by rw [hw0,ql (qm _ _)];rfl
 have bx19:w0.cell? ⟨w.heap.size,19,none⟩=some (.slice o.p.apart.a o.p.apart.L.length o.p.apart.cap):=by rw [hw0,ql (qm _ _)];rfl
 have H1:=H.below hb0
 have nD: ¬ qx Zp F Yr v4 v5 v6 v7 P w.heap.size:=fun h=>Nat.lt_irrefl _ (H.lt h)
 have hok0:o.p.ok w0:=ho.p.below hb0
 have bb: ∀ i,w0.drew.cell? ⟨w.heap.size,i,none⟩=w0.cell? ⟨w.heap.size,i,none⟩:=fun _=>rfl
 have J0:LS0 C w0 Zp Yp Yr Lp X F P v4 v5 v6 v7 st its none w0.drew:=⟨H1.drew,(qaw.refl _ _).drew,RB.no⟩
 have K0: ∀ x W,LS0 C w0 Zp Yp Yr Lp X F P v4 v5 v6 v7 st its x W→(fun w'=>w'.cell? ⟨Zp,0,none⟩=some (.pointer (some ⟨Yp,0,none⟩))∧w'.cell? ⟨Zp,2,none⟩=some (.pointer (some ⟨Lp,0,none⟩))∧w'.cell? ⟨w.heap.size,10,none⟩=some (.string o.p.name)∧w'.cell? ⟨w.heap.size,11,none⟩=some (.int .i64 o.p.n0)∧w'.cell? ⟨w.heap.size,12,none⟩=some (.int .i64 o.p.n1)∧w'.cell? ⟨w.heap.size,13,none⟩=some (.int .i64 o.p.n2)∧w'.cell? ⟨w.heap.size,14,none⟩=some (.int .i64 o.p.port)∧w'.cell? ⟨w.heap.size,15,none⟩=some (.slice o.p.labels.a o.p.labels.L.length o.p.labels.cap)∧w'.cell? ⟨w.heap.size,16,none⟩=some (.slice o.p.select.a o.p.select.L.length o.p.select.cap)∧w'.cell? ⟨w.heap.size,17,none⟩=some (.slice o.p.bears.a o.p.bears.L.length o.p.bears.cap)∧w'.cell? ⟨w.heap.size,18,none⟩=some (.slice o.p.near.a o.p.near.L.length o.p.near.cap)∧w'.cell? ⟨w.heap.size,19,none⟩=some (.slice o.p.apart.a o.p.apart.L.length o.p.apart.cap)) W:=fun x W h=>by
  obtain ⟨z0,_,z2,_⟩:=h.1.cells
  have bb:=h.2.1.cells lz nD
  exact ⟨z0,z2,(bb 10).trans bx10,(bb 11).trans bx11,(bb 12).trans bx12,(bb 13).trans bx13,(bb 14).trans bx14,(bb 15).trans bx15,(bb 16).trans bx16,(bb 17).trans bx17,(bb 18).trans bx18,(bb 19).trans bx19⟩
 have K1: ∀ x v W,LS1 C w0 Zp Yp Yr Lp X F P v4 v5 v6 v7 st its o.p x v W→(fun w'=>w'.cell? ⟨Zp,0,none⟩=some (.pointer (some ⟨Yp,0,none⟩))∧w'.cell? ⟨Zp,2,none⟩=some (.pointer (some ⟨Lp,0,none⟩))∧w'.cell? ⟨w.heap.size,10,none⟩=some (.string o.p.name)∧w'.cell? ⟨w.heap.size,11,none⟩=some (.int .i64 o.p.n0)∧w'.cell? ⟨w.heap.size,12,none⟩=some (.int .i64 o.p.n1)∧w'.cell? ⟨w.heap.size,13,none⟩=some (.int .i64 o.p.n2)∧w'.cell? ⟨w.heap.size,14,none⟩=some (.int .i64 o.p.port)∧w'.cell? ⟨w.heap.size,15,none⟩=some (.slice o.p.labels.a o.p.labels.L.length o.p.labels.cap)∧w'.cell? ⟨w.heap.size,16,none⟩=some (.slice o.p.select.a o.p.select.L.length o.p.select.cap)∧w'.cell? ⟨w.heap.size,17,none⟩=some (.slice o.p.bears.a o.p.bears.L.length o.p.bears.cap)∧w'.cell? ⟨w.heap.size,18,none⟩=some (.slice o.p.near.a o.p.near.L.length o.p.near.cap)∧w'.cell? ⟨w.heap.size,19,none⟩=some (.slice o.p.apart.a o.p.apart.L.length o.p.apart.cap)) W:=fun x v W h=>by
  obtain ⟨q,its1,P1,_,_,_,H,T,_⟩:=h
  obtain ⟨z0,_,z2,_⟩:=H.cells
  have bb:=T.cells lz nD
  exact ⟨z0,z2,(bb 10).trans bx10,(bb 11).trans bx11,(bb 12).trans bx12,(bb 13).trans bx13,(bb 14).trans bx14,(bb 15).trans bx15,(bb 16).trans bx16,(bb 17).trans bx17,(bb 18).trans bx18,(bb 19).trans bx19⟩
 have K2: ∀ x u W,LS2 C w0 Zp Yp Yr Lp X F P v4 v5 v6 v7 st its o.p x u W→(fun w'=>w'.cell? ⟨Zp,0,none⟩=some (.pointer (some ⟨Yp,0,none⟩))∧w'.cell? ⟨Zp,2,none⟩=some (.pointer (some ⟨Lp,0,none⟩))∧w'.cell? ⟨w.heap.size,10,none⟩=some (.string o.p.name)∧w'.cell? ⟨w.heap.size,11,none⟩=some (.int .i64 o.p.n0)∧w'.cell? ⟨w.heap.size,12,none⟩=some (.int .i64 o.p.n1)∧w'.cell? ⟨w.heap.size,13,none⟩=some (.int .i64 o.p.n2)∧w'.cell? ⟨w.heap.size,14,none⟩=some (.int .i64 o.p.port)∧w'.cell? ⟨w.heap.size,15,none⟩=some (.slice o.p.labels.a o.p.labels.L.length o.p.labels.cap)∧w'.cell? ⟨w.heap.size,16,none⟩=some (.slice o.p.select.a o.p.select.L.length o.p.select.cap)∧w'.cell? ⟨w.heap.size,17,none⟩=some (.slice o.p.bears.a o.p.bears.L.length o.p.bears.cap)∧w'.cell? ⟨w.heap.size,18,none⟩=some (.slice o.p.near.a o.p.near.L.length o.p.near.cap)∧w'.cell? ⟨w.heap.size,19,none⟩=some (.slice o.p.apart.a o.p.apart.L.length o.p.apart.cap)) W:=fun x u W h=>by
  obtain ⟨its1,P1,F',oo,oc,_,H,T,_⟩:=h
  obtain ⟨z0,_,z2,_⟩:=H.cells
  have bb:=T.cells lz nD
  exact ⟨z0,z2,(bb 10).trans bx10,(bb 11).trans bx11,(bb 12).trans bx12,(bb 13).trans bx13,(bb 14).trans bx14,(bb 15).trans bx15,(bb 16).trans bx16,(bb 17).trans bx17,(bb 18).trans bx18,(bb 19).trans bx19⟩
 have HS0:Hid ((fun w'=>w'.cell? ⟨Zp,0,none⟩=some (.pointer (some ⟨Yp,0,none⟩))∧w'.cell? ⟨Zp,2,none⟩=some (.pointer (some ⟨Lp,0,none⟩))∧w'.cell? ⟨w.heap.size,10,none⟩=some (.string o.p.name)∧w'.cell? ⟨w.heap.size,11,none⟩=some (.int .i64 o.p.n0)∧w'.cell? ⟨w.heap.size,12,none⟩=some (.int .i64 o.p.n1)∧w'.cell? ⟨w.heap.size,13,none⟩=some (.int .i64 o.p.n2)∧w'.cell? ⟨w.heap.size,14,none⟩=some (.int .i64 o.p.port)∧w'.cell? ⟨w.heap.size,15,none⟩=some (.slice o.p.labels.a o.p.labels.L.length o.p.labels.cap)∧w'.cell? ⟨w.heap.size,16,none⟩=some (.slice o.p.select.a o.p.select.L.length o.p.select.cap)∧w'.cell? ⟨w.heap.size,17,none⟩=some (.slice o.p.bears.a o.p.bears.L.length o.p.bears.cap)∧w'.cell? ⟨w.heap.size,18,none⟩=some (.slice o.p.near.a o.p.near.L.length o.p.near.cap)∧w'.cell? ⟨w.heap.size,19,none⟩=some (.slice o.p.apart.a o.p.apart.L.length o.p.apart.cap)) w0.drew):=K0 _ _ J0
 have HK:Hid _:=And.intro K0 (And.intro K1 K2)
 have HJ0:Hid _:=J0
 have HH:Hid _:=H
 have HB0:Hid _:=hb0
 have HB:Hid (Book G w X c0 c1 c2 c3):=B
 have HDG:Hid _:=hDG
 have HT0:Hid (qaw (qx Zp F Yr v4 v5 v6 v7 P) (qx Zp F Yr v4 v5 v6 v7 P) w w0):=qaw.below hb0
 have hZ: ∃ z,z=w0:=⟨_,rfl⟩
 obtain ⟨z0,_,z2,_⟩:=H1.cells
 clear K0 K1 K2 J0 H1 H hb0 B hDG
 go_enter Tryz.func24,Tryz.ntmps24
 go_upto_region 1 with fail
 rw [← hw0]
 clear hw0
 refine qfy 13 (fun w'=>w'.cell? ⟨Zp,0,none⟩=some (.pointer (some ⟨Yp,0,none⟩))∧w'.cell? ⟨Zp,2,none⟩=some (.pointer (some ⟨Lp,0,none⟩))∧w'.cell? ⟨w.heap.size,10,none⟩=some (.string o.p.name)∧w'.cell? ⟨w.heap.size,11,none⟩=some (.int .i64 o.p.n0)∧w'.cell? ⟨w.heap.size,12,none⟩=some (.int .i64 o.p.n1)∧w'.cell? ⟨w.heap.size,13,none⟩=some (.int .i64 o.p.n2)∧w'.cell? ⟨w.heap.size,14,none⟩=some (.int .i64 o.p.port)∧w'.cell? ⟨w.heap.size,15,none⟩=some (.slice o.p.labels.a o.p.labels.L.length o.p.labels.cap)∧w'.cell? ⟨w.heap.size,16,none⟩=some (.slice o.p.select.a o.p.select.L.length o.p.select.cap)∧w'.cell? ⟨w.heap.size,17,none⟩=some (.slice o.p.bears.a o.p.bears.L.length o.p.bears.cap)∧w'.cell? ⟨w.heap.size,18,none⟩=some (.slice o.p.near.a o.p.near.L.length o.p.near.cap)∧w'.cell? ⟨w.heap.size,19,none⟩=some (.slice o.p.apart.a o.p.apart.L.length o.p.apart.cap)) #[false,false,false,false,false,false,false,false,false,false,false,false,false,false] (by kernel_rfl) rfl ?_
 have hHeld:=HS0.out
 (refine qhr HS0.out 0 (some 8) [1,2,3,11] ?_;simp only [Act.put,pt])
 (refine qhr HS0.out 1 (some 9) [2,3,11] ?_;simp only [Act.put,pt])
 (refine qhr HS0.out 2 (some 10) [3,11] ?_;simp only [Act.put,pt])
 (refine qhr HS0.out 3 (some 11) [11] ?_;simp only [Act.put,pt])
 (refine qhr HS0.out 4 (some 12) [5,6,7,10,11] ?_;simp only [Act.put,pt])
 (refine qhr HS0.out 5 (some 13) [6,7,10,11] ?_;simp only [Act.put,pt])
 (refine qhr HS0.out 6 (some 14) [7,10,11] ?_;simp only [Act.put,pt])
 (refine qhr HS0.out 7 (some 15) [10,11] ?_;simp only [Act.put,pt])
 (refine qhr HS0.out 8 (some 16) [9,10,11] ?_;simp only [Act.put,pt])
 (refine qhr HS0.out 9 (some 17) [10,11] ?_;simp only [Act.put,pt])
 clear hHeld
 refine float_draw (L:= #[true,true,true,true,true,true,true,true,true,true,false,false,false,false]) (Lend:= #[true,true,true,true,true,true,true,true,true,true,true,true,true,false]) (zs:=zRep) (t:=97) 10 11 12 18 19 5 (f:=22) (g:=53) (A1:= #[.pointer (some ⟨Lp,0,none⟩),.agg o.p.cells]) (A2:=fun v=> #[.pointer (some ⟨Yp,0,none⟩),v])
  (LS0 C w0 Zp Yp Yr Lp X F P v4 v5 v6 v7 st its) (LS1 C w0 Zp Yp Yr Lp X F P v4 v5 v6 v7 st its o.p) (LS2 C w0 Zp Yp Yr Lp X F P v4 v5 v6 v7 st its o.p) rfl rfl rfl ⟨rfl,rfl⟩ ⟨rfl,rfl⟩ ⟨rfl,rfl⟩ (by kernel_rfl) (by decide) (by decide)
  (fun a W hj=>run_enter rfl Tryz.func22 (by kernel_rfl) (by kernel_rfl) (hj 15 (by decide)) (hj 17 (by decide))) (fun a W v hj hv=>run_enter rfl Tryz.func53 (by kernel_rfl) (by kernel_rfl) (hj 11 (by decide)) hv) (fun a W=>run_made rfl infoRT rfl)
  (fun x W h=>h.call hok0 ho.pc hits) (fun x v W h=>h.call) (fun W h=>h.make) (fun v W h=>h.make) (fun u W h=>h.make) HK.out.1 HK.out.2.1 HK.out.2.2 (by kernel_rfl) (by kernel_rfl) (by kernel_rfl) (by kernel_rfl) (by kernel_rfl) (by kernel_rfl) HJ0.out ?_
 intro Bq u vv W hJ2
 obtain ⟨its1,P1,F',oo,oc,rfl,H2,T2,hn2,R2,hr2,hrb2⟩:=hJ2
 obtain ⟨q1,q2,q3⟩:=R2 Bq rfl
 have y0:W.cell? ⟨Bq,0,none⟩=some (.int .i64 0):=by rw [ql q2];rfl
 have y1:W.cell? ⟨Bq,1,none⟩=some (.string ⟨#[]⟩):=by rw [ql q2];rfl
 have y2:W.cell? ⟨Bq,2,none⟩=some (.int .i64 0):=by rw [ql q2];rfl
 have y3:W.cell? ⟨Bq,3,none⟩=some (.slice none 0 0):=by rw [ql q2];rfl
 have y4:W.cell? ⟨Bq,4,none⟩=some (.int .i64 0):=by rw [ql q2];rfl
 have g0:W.frozen? ⟨Bq,0,none⟩=false:=qp q2
 have g1:W.frozen? ⟨Bq,1,none⟩=false:=qp q2
 have g2:W.frozen? ⟨Bq,2,none⟩=false:=qp q2
 have g3:W.frozen? ⟨Bq,3,none⟩=false:=qp q2
 have g4:W.frozen? ⟨Bq,4,none⟩=false:=qp q2
 have HH2:Hid _:=H2
 have HT2:Hid _:=T2
 have Hr2:Hid _:=hr2
 have Hrb2:Hid _:=hrb2
 have HQ:Hid _:=And.intro q1 (And.intro q2 q3)
 clear H2 T2 R2 hr2 hrb2 q1 q2 q3
 simp only [Act.put,List.setIfInBounds_toArray,List.set_cons_zero,List.set_cons_succ]
 refine qaf _ [13] (by kernel_rfl) (by simp) ?_
 refine qaa.cons rfl ?_ qaa.nil
 intro o' ho' K hK
 simp only [List.getElem?_toArray,List.getElem?_cons_succ,List.getElem?_cons_zero,Option.some.injEq] at ho'
 subst ho'
 go_simp
 refine hK.out _ (sets Bq [.int .i64 (st.sched o.p).1.err,.string (st.sched o.p).1.node,.int .i64 (st.sched o.p).1.score,.slice oo (st.sched o.p).1.reasons.length oc,.int .i64 (st.sched o.p).1.fresh] 0 W) (fun h=>absurd rfl h) (fun _=> ?_)
 clear hK K
 refine qfu (by kernel_rfl) ?_ _
 obtain ⟨wx,hwx⟩: ∃ V,V=sets Bq [.int .i64 (st.sched o.p).1.err,.string (st.sched o.p).1.node,.int .i64 (st.sched o.p).1.score,.slice oo (st.sched o.p).1.reasons.length oc,.int .i64 (st.sched o.p).1.fresh] 0 W:=⟨_,rfl⟩
 have bq:wx.heap[Bq]? =some (.cells #[.int .i64 (st.sched o.p).1.err,.string (st.sched o.p).1.node,.int .i64 (st.sched o.p).1.score,.slice oo (st.sched o.p).1.reasons.length oc,.int .i64 (st.sched o.p).1.fresh] 97 (0,0)):=by rw [hwx];exact sets_all HQ.out.2.1 rfl
 have kx:Kept (fun b=>b=Bq) W wx:=by rw [hwx];exact qg1 Bq _ 0 W
 rw [← hwx]
 clear hwx y0 y1 y2 y3 y4 g0 g1 g2 g3 g4 z0 z2
 have H3:=HH2.out.kept kx (fun b hb e=>HQ.out.2.2 (e▸hb)) fun b hb e=>by
  have h1:=HH.out.cl b hb
  have h2:=HB0.out.size
  have h3:=HQ.out.1
  omega
 have T3:qaw (qx Zp F Yr v4 v5 v6 v7 P) (qx Zp F' Yr v4 v5 v6 v7 P1) w0 wx:=⟨HT2.out.1.trans kx fun i hi h=>absurd HQ.out.1 (by omega),HT2.out.2⟩
 have lzx:w.heap.size < wx.heap.size:=Nat.lt_of_lt_of_le lz T3.1.size
 have nD2: ¬ qx Zp F' Yr v4 v5 v6 v7 P1 w.heap.size:=fun h=>(T3.2 _ h).elim nD (by omega)
 have bbx:=T3.cells lz nD
 have hr3:wx.ownsRow 0 88 2 (.slice oo (st.sched o.p).1.reasons.length oc) (st.sched o.p).1.reasons.length ((st.sched o.p).1.rep.reasons.flatMap qfb):=kx.ownsRow Hr2.out fun b hb e=>by
  obtain ⟨cur,hc⟩:=qby Hr2.out hb
  rw [e,HQ.out.2.1] at hc
  simp at hc
 have hok1:o.p.ok wx:=hok0.kept ho.pc T3.1 fun b hb=>HH.out.foot hb
 have J1:LT0 C wx Zp Yp Yr Lp X F' P1 v4 v5 v6 v7 (st.sched o.p).2.abs st its1 none wx.drew:=⟨H3.drew,(qaw.refl _ _).drew,RB.no⟩
 have KK0: ∀ x W,LT0 C wx Zp Yp Yr Lp X F' P1 v4 v5 v6 v7 (st.sched o.p).2.abs st its1 x W→(fun w'=>w'.cell? ⟨Zp,1,none⟩=some (.pointer (some ⟨Yr,0,none⟩))∧w'.cell? ⟨w.heap.size,10,none⟩=some (.string o.p.name)∧w'.cell? ⟨w.heap.size,11,none⟩=some (.int .i64 o.p.n0)∧w'.cell? ⟨w.heap.size,12,none⟩=some (.int .i64 o.p.n1)∧w'.cell? ⟨w.heap.size,13,none⟩=some (.int .i64 o.p.n2)∧w'.cell? ⟨w.heap.size,14,none⟩=some (.int .i64 o.p.port)∧w'.cell? ⟨w.heap.size,15,none⟩=some (.slice o.p.labels.a o.p.labels.L.length o.p.labels.cap)∧w'.cell? ⟨w.heap.size,16,none⟩=some (.slice o.p.select.a o.p.select.L.length o.p.select.cap)∧w'.cell? ⟨w.heap.size,17,none⟩=some (.slice o.p.bears.a o.p.bears.L.length o.p.bears.cap)∧w'.cell? ⟨w.heap.size,18,none⟩=some (.slice o.p.near.a o.p.near.L.length o.p.near.cap)∧w'.cell? ⟨w.heap.size,19,none⟩=some (.slice o.p.apart.a o.p.apart.L.length o.p.apart.cap)) W:=fun x W h=>by
  obtain ⟨_,z1,_,_⟩:=h.1.cells
  have bb: ∀ i,W.cell? ⟨w.heap.size,i,none⟩=w0.cell? ⟨w.heap.size,i,none⟩:=fun i=>(h.2.1.cells lzx nD2 i).trans (bbx i)
  exact ⟨z1,(bb 10).trans bx10,(bb 11).trans bx11,(bb 12).trans bx12,(bb 13).trans bx13,(bb 14).trans bx14,(bb 15).trans bx15,(bb 16).trans bx16,(bb 17).trans bx17,(bb 18).trans bx18,(bb 19).trans bx19⟩
 have KK1: ∀ x u W,LT1 C wx Zp Yp Yr Lp X F' P1 v4 v5 v6 v7 (st.sched o.p).2.abs st its1 o.p x u W→(fun w'=>w'.cell? ⟨Zp,1,none⟩=some (.pointer (some ⟨Yr,0,none⟩))∧w'.cell? ⟨w.heap.size,10,none⟩=some (.string o.p.name)∧w'.cell? ⟨w.heap.size,11,none⟩=some (.int .i64 o.p.n0)∧w'.cell? ⟨w.heap.size,12,none⟩=some (.int .i64 o.p.n1)∧w'.cell? ⟨w.heap.size,13,none⟩=some (.int .i64 o.p.n2)∧w'.cell? ⟨w.heap.size,14,none⟩=some (.int .i64 o.p.port)∧w'.cell? ⟨w.heap.size,15,none⟩=some (.slice o.p.labels.a o.p.labels.L.length o.p.labels.cap)∧w'.cell? ⟨w.heap.size,16,none⟩=some (.slice o.p.select.a o.p.select.L.length o.p.select.cap)∧w'.cell? ⟨w.heap.size,17,none⟩=some (.slice o.p.bears.a o.p.bears.L.length o.p.bears.cap)∧w'.cell? ⟨w.heap.size,18,none⟩=some (.slice o.p.near.a o.p.near.L.length o.p.near.cap)∧w'.cell? ⟨w.heap.size,19,none⟩=some (.slice o.p.apart.a o.p.apart.L.length o.p.apart.cap)) W:=fun x u W h=>by
  obtain ⟨ro,rc,u4,u5,u6,u7,_,H,T,_⟩:=h
  obtain ⟨_,z1,_,_⟩:=H.cells
  have bb: ∀ i,W.cell? ⟨w.heap.size,i,none⟩=w0.cell? ⟨w.heap.size,i,none⟩:=fun i=>(T.cells lzx nD2 i).trans (bbx i)
  exact ⟨z1,(bb 10).trans bx10,(bb 11).trans bx11,(bb 12).trans bx12,(bb 13).trans bx13,(bb 14).trans bx14,(bb 15).trans bx15,(bb 16).trans bx16,(bb 17).trans bx17,(bb 18).trans bx18,(bb 19).trans bx19⟩
 have HS1:Hid ((fun w'=>w'.cell? ⟨Zp,1,none⟩=some (.pointer (some ⟨Yr,0,none⟩))∧w'.cell? ⟨w.heap.size,10,none⟩=some (.string o.p.name)∧w'.cell? ⟨w.heap.size,11,none⟩=some (.int .i64 o.p.n0)∧w'.cell? ⟨w.heap.size,12,none⟩=some (.int .i64 o.p.n1)∧w'.cell? ⟨w.heap.size,13,none⟩=some (.int .i64 o.p.n2)∧w'.cell? ⟨w.heap.size,14,none⟩=some (.int .i64 o.p.port)∧w'.cell? ⟨w.heap.size,15,none⟩=some (.slice o.p.labels.a o.p.labels.L.length o.p.labels.cap)∧w'.cell? ⟨w.heap.size,16,none⟩=some (.slice o.p.select.a o.p.select.L.length o.p.select.cap)∧w'.cell? ⟨w.heap.size,17,none⟩=some (.slice o.p.bears.a o.p.bears.L.length o.p.bears.cap)∧w'.cell? ⟨w.heap.size,18,none⟩=some (.slice o.p.near.a o.p.near.L.length o.p.near.cap)∧w'.cell? ⟨w.heap.size,19,none⟩=some (.slice o.p.apart.a o.p.apart.L.length o.p.apart.cap)) wx.drew):=KK0 _ _ J1
 have HKK:Hid _:=And.intro KK0 KK1
 have HJ1:Hid _:=J1
 have HT3:Hid _:=T3
 have Hlo:Hid (∀ b,(Value.slice oo (st.sched o.p).1.reasons.length oc).ownBlock=some b→b < wx.heap.size):=fun b hb=>(hr3.lt b hb).2
 have Hr3:Hid _:=hr3
 have Hbq:Hid _:=bq
 clear KK0 KK1 J1 T3 hr3 bq H3 kx HS0 HK HJ0 bbx HH2
 go_upto_region 2 with fail
 refine qfy 8 (fun w'=>w'.cell? ⟨Zp,1,none⟩=some (.pointer (some ⟨Yr,0,none⟩))∧w'.cell? ⟨w.heap.size,10,none⟩=some (.string o.p.name)∧w'.cell? ⟨w.heap.size,11,none⟩=some (.int .i64 o.p.n0)∧w'.cell? ⟨w.heap.size,12,none⟩=some (.int .i64 o.p.n1)∧w'.cell? ⟨w.heap.size,13,none⟩=some (.int .i64 o.p.n2)∧w'.cell? ⟨w.heap.size,14,none⟩=some (.int .i64 o.p.port)∧w'.cell? ⟨w.heap.size,15,none⟩=some (.slice o.p.labels.a o.p.labels.L.length o.p.labels.cap)∧w'.cell? ⟨w.heap.size,16,none⟩=some (.slice o.p.select.a o.p.select.L.length o.p.select.cap)∧w'.cell? ⟨w.heap.size,17,none⟩=some (.slice o.p.bears.a o.p.bears.L.length o.p.bears.cap)∧w'.cell? ⟨w.heap.size,18,none⟩=some (.slice o.p.near.a o.p.near.L.length o.p.near.cap)∧w'.cell? ⟨w.heap.size,19,none⟩=some (.slice o.p.apart.a o.p.apart.L.length o.p.apart.cap)) #[false,false,false,false,false,false,false,false,false] (by kernel_rfl) rfl ?_
 have hHeld:=HS1.out
 (refine qhr HS1.out 0 (some 20) [1,2,3,6] ?_;simp only [Act.put,pt])
 (refine qhr HS1.out 1 (some 21) [2,3,6] ?_;simp only [Act.put,pt])
 (refine qhr HS1.out 2 (some 22) [3,6] ?_;simp only [Act.put,pt])
 (refine qhr HS1.out 3 (some 23) [6] ?_;simp only [Act.put,pt])
 (refine qhr HS1.out 4 (some 24) [5,6] ?_;simp only [Act.put,pt])
 (refine qhr HS1.out 5 (some 25) [6] ?_;simp only [Act.put,pt])
 clear hHeld
 refine float_draw1 (L:= #[true,true,true,true,true,true,false,false,false]) (Lend:= #[true,true,true,true,true,true,true,true,false]) (zs:=zRep) (t:=138) 6 7 26 6 (f:=54) (A1:= #[.pointer (some ⟨Yr,0,none⟩),.agg o.p.cells])
  (LT0 C wx Zp Yp Yr Lp X F' P1 v4 v5 v6 v7 (st.sched o.p).2.abs st its1) (LT1 C wx Zp Yp Yr Lp X F' P1 v4 v5 v6 v7 (st.sched o.p).2.abs st its1 o.p) rfl rfl ⟨rfl,rfl⟩ ⟨rfl,rfl⟩ (by decide) (by decide)
  (fun a W hj=>run_enter rfl Tryz.func54 (by kernel_rfl) (by kernel_rfl) (hj 23 (by decide)) (hj 25 (by decide))) (fun a W=>run_made rfl infoRRT rfl)
  (fun x W h=>h.call hok1 ho.pc ht) (fun W h=>h.make) (fun v W h=>h.make) HKK.out.1 HKK.out.2 (by kernel_rfl) (by kernel_rfl) (by kernel_rfl) (by kernel_rfl) HJ1.out ?_
 intro Br uu W4 hJ2
 obtain ⟨ro,rc,u4,u5,u6,u7,rfl,H4,T4,R4,hr4⟩:=hJ2
 obtain ⟨q1,q2,q3⟩:=R4 Br rfl
 have y0:W4.cell? ⟨Br,0,none⟩=some (.int .i64 0):=by rw [ql q2];rfl
 have y1:W4.cell? ⟨Br,1,none⟩=some (.string ⟨#[]⟩):=by rw [ql q2];rfl
 have y2:W4.cell? ⟨Br,2,none⟩=some (.int .i64 0):=by rw [ql q2];rfl
 have y3:W4.cell? ⟨Br,3,none⟩=some (.slice none 0 0):=by rw [ql q2];rfl
 have y4:W4.cell? ⟨Br,4,none⟩=some (.int .i64 0):=by rw [ql q2];rfl
 have g0:W4.frozen? ⟨Br,0,none⟩=false:=qp q2
 have g1:W4.frozen? ⟨Br,1,none⟩=false:=qp q2
 have g2:W4.frozen? ⟨Br,2,none⟩=false:=qp q2
 have g3:W4.frozen? ⟨Br,3,none⟩=false:=qp q2
 have g4:W4.frozen? ⟨Br,4,none⟩=false:=qp q2
 have HH4:Hid _:=H4
 have HT4:Hid _:=T4
 have Hr4:Hid _:=hr4
 have HQ4:Hid _:=And.intro q1 (And.intro q2 q3)
 clear H4 T4 R4 hr4 q1 q2 q3
 simp only [Act.put,List.setIfInBounds_toArray,List.set_cons_zero,List.set_cons_succ]
 refine qaf _ [8] (by kernel_rfl) (by simp) ?_
 refine qaa.cons rfl ?_ qaa.nil
 intro o' ho' K hK
 simp only [List.getElem?_toArray,List.getElem?_cons_succ,List.getElem?_cons_zero,Option.some.injEq] at ho'
 subst ho'
 go_simp
 refine hK.out _ (sets Br [.int .i64 (st.sched o.p).1.err,.string (st.sched o.p).1.node,.int .i64 (st.sched o.p).1.score,.slice ro (st.sched o.p).1.reasons.length rc,.int .i64 (st.sched o.p).1.fresh] 0 W4) (fun h=>absurd rfl h) (fun _=> ?_)
 clear hK K
 refine qfu (by kernel_rfl) ?_ _
 obtain ⟨wy,hwy⟩: ∃ V,V=sets Br [.int .i64 (st.sched o.p).1.err,.string (st.sched o.p).1.node,.int .i64 (st.sched o.p).1.score,.slice ro (st.sched o.p).1.reasons.length rc,.int .i64 (st.sched o.p).1.fresh] 0 W4:=⟨_,rfl⟩
 have br:wy.heap[Br]? =some (.cells #[.int .i64 (st.sched o.p).1.err,.string (st.sched o.p).1.node,.int .i64 (st.sched o.p).1.score,.slice ro (st.sched o.p).1.reasons.length rc,.int .i64 (st.sched o.p).1.fresh] 138 (0,0)):=by rw [hwy];exact sets_all HQ4.out.2.1 rfl
 have ky:Kept (fun b=>b=Br) W4 wy:=by rw [hwy];exact qg1 Br _ 0 W4
 rw [← hwy]
 clear hwy y0 y1 y2 y3 y4 g0 g1 g2 g3 g4
 have szx:=HT3.out.1.size
 have sz0:=HB0.out.size
 have H5:=HH4.out.kept ky (fun b hb e=>HQ4.out.2.2 (e▸hb)) fun b hb e=>by
  have h1:=HH.out.cl b hb
  have h3:=HQ4.out.1
  omega
 have T5:qaw (qx Zp F' Yr v4 v5 v6 v7 P1) (qx Zp F' Yr u4 u5 u6 u7 P1) wx wy:=⟨HT4.out.1.trans ky fun i hi h=>absurd HQ4.out.1 (by omega),HT4.out.2⟩
 have bq5:wy.heap[Bq]? =some (.cells #[.int .i64 (st.sched o.p).1.err,.string (st.sched o.p).1.node,.int .i64 (st.sched o.p).1.score,.slice oo (st.sched o.p).1.reasons.length oc,.int .i64 (st.sched o.p).1.fresh] 97 (0,0)):=by rw [T5.1.block Bq (qo Hbq.out) HQ.out.2.2];exact Hbq.out
 have hr5:=T5.1.ownsRow Hr3.out fun b hb=>(Hrb2.out b hb).2
 have hr6:wy.ownsRow 0 165 2 (.slice ro (st.sched o.p).1.reasons.length rc) (st.sched o.p).1.reasons.length ((st.sched o.p).1.reasons.flatMap qdr):=ky.ownsRow Hr4.out fun b hb e=>by
  obtain ⟨cur,hc⟩:=qby Hr4.out hb
  rw [e,HQ4.out.2.1] at hc
  simp at hc
 have TT:qaw (qx Zp F Yr v4 v5 v6 v7 P) (qx Zp F' Yr u4 u5 u6 u7 P1) w wy:=(HT0.out.trans HT3.out).trans T5
 have yq0:wy.cell? ⟨Bq,0,none⟩=some (.int .i64 (st.sched o.p).1.err):=by rw [ql bq5];rfl
 have yq1:wy.cell? ⟨Bq,1,none⟩=some (.string (st.sched o.p).1.node):=by rw [ql bq5];rfl
 have yq2:wy.cell? ⟨Bq,2,none⟩=some (.int .i64 (st.sched o.p).1.score):=by rw [ql bq5];rfl
 have yq3:wy.cell? ⟨Bq,3,none⟩=some (.slice oo (st.sched o.p).1.reasons.length oc):=by rw [ql bq5];rfl
 have yq4:wy.cell? ⟨Bq,4,none⟩=some (.int .i64 (st.sched o.p).1.fresh):=by rw [ql bq5];rfl
 have yr0:wy.cell? ⟨Br,0,none⟩=some (.int .i64 (st.sched o.p).1.err):=by rw [ql br];rfl
 have yr1:wy.cell? ⟨Br,1,none⟩=some (.string (st.sched o.p).1.node):=by rw [ql br];rfl
 have yr2:wy.cell? ⟨Br,2,none⟩=some (.int .i64 (st.sched o.p).1.score):=by rw [ql br];rfl
 have yr3:wy.cell? ⟨Br,3,none⟩=some (.slice ro (st.sched o.p).1.reasons.length rc):=by rw [ql br];rfl
 have yr4:wy.cell? ⟨Br,4,none⟩=some (.int .i64 (st.sched o.p).1.fresh):=by rw [ql br];rfl
 have cR:=reply_any (st.sched o.p).1 wy oo ro oc rc (by omega) hr5 hr6
 have HH5:Hid _:=H5
 have HT5:Hid (qaw (qx Zp F' Yr v4 v5 v6 v7 P1) (qx Zp F' Yr u4 u5 u6 u7 P1) wx wy):=T5
 have Hr5:Hid _:=hr5
 have HTT:Hid (qaw (qx Zp F Yr v4 v5 v6 v7 P) (qx Zp F' Yr u4 u5 u6 u7 P1) w wy):=TT
 obtain ⟨_,_,_,z3⟩:=H5.cells
 have lZ:=qo H5.box
 have lQ:=qo bq5
 clear H5 T5 hr5 hr6 TT HH4 HT4 Hr4 HQ4 br bq5 ky HKK HJ1 HS1
 go_upto_region 4 with (first| (go_at_call 55;refine cR.mono ?_;rintro e w6 ⟨rfl,hb6⟩;have z36:=(hb6.cell (p:=⟨Zp,3,none⟩) lZ).trans z3;have q36:=(hb6.cell (p:=⟨Bq,3,none⟩) lQ).trans yq3))
 have TT6:qaw (qx Zp F Yr v4 v5 v6 v7 P) (qx Zp F' Yr u4 u5 u6 u7 P1) w w6:=qaw.trans HTT.out (qaw.below hb6)
 have B6:Book G w6 X c0 c1 c2 c3:=Book.kept HB.out TT6.1 fun b hg hd=>HDG.out b hd hg
 have hr7:=(Kept.of_below (F:=qq) hb6).ownsRow Hr5.out fun _ _=>id
 have hRG: ∀ b,(Value.slice oo (st.sched o.p).1.reasons.length oc).ownBlock=some b→ ¬ G b:=fun b hb hg=>by
  have h1:=(Hrb2.out b hb).1
  have h2:=Book.lt HB.out b hg
  omega
 have cK:=keepReasons_any (Book.kept B6 ((Kept.refl qq w6).drew) fun _ _=>id) (((Kept.refl qq w6).drew).ownsRow hr7 fun _ _=>id) hlen hRG h0
 have lZw:=qo HH.out.box
 have nZ: ¬ (G Zp∨(Value.slice oo (st.sched o.p).1.reasons.length oc).ownBlock=some Zp):=fun h=>h.elim (HDG.out Zp (.inl rfl)) fun h=>by
  have h1:=(Hrb2.out _ h).1
  omega
 have nQ: ¬ (G Bq∨(Value.slice oo (st.sched o.p).1.reasons.length oc).ownBlock=some Bq):=fun h=>h.elim (fun h=>by
  have h1:=Book.lt HB.out _ h
  have h2:=HQ.out.1
  omega) fun h=>by
  obtain ⟨cur,hc⟩:=qby Hr3.out h
  rw [Hbq.out] at hc
  simp at hc
 have lZ6:Zp < w6.drew.heap.size:=Nat.lt_of_lt_of_le lZ hb6.size
 have lQ6:Bq < w6.drew.heap.size:=Nat.lt_of_lt_of_le lQ hb6.size
 have Hb6:Hid _:=hb6
 have HTT6:Hid (qaw (qx Zp F Yr v4 v5 v6 v7 P) (qx Zp F' Yr u4 u5 u6 u7 P1) w w6):=TT6
 clear TT6 B6 hr7 hRG hb6
 go_region_held3 (fun w'=>w'.cell? ⟨Zp,3,none⟩=some (.pointer (some ⟨X,0,none⟩))∧w'.cell? ⟨Bq,3,none⟩=some (.slice oo (st.sched o.p).1.reasons.length oc)) (go_keep)
  (first
   | (go_at_call 56;refine cK.mono ?_;rintro e w7 ⟨rfl,G',B7,K7,hG7⟩;have z37:=(K7.cell (p:=⟨Zp,3,none⟩) lZ6 nZ).trans z36;have q37:=(K7.cell (p:=⟨Bq,3,none⟩) lQ6 nQ).trans q36;have HB7:Hid _:=And.intro B7 (And.intro K7 hG7);clear B7 K7 hG7))
 go_wp2
 go_ret
 obtain ⟨B7,K7,hG7⟩:=HB7.out
 have lO: ∀ b,(Value.slice oo (st.sched o.p).1.reasons.length oc).ownBlock=some b→w0.heap.size≤b∧b < wx.heap.size∧ ¬ qx Zp F' Yr u4 u5 u6 u7 P1 b:=fun b hb=>by
  have h1:=Hrb2.out b hb
  have h2:=Hlo.out b hb
  refine ⟨h1.1,h2,fun h=> ?_⟩
  rcases HT5.out.2 b h with h| h
  ·exact h1.2 h
  ·omega
 have DG3: ∀ b,qx Zp F' Yr u4 u5 u6 u7 P1 b→ ¬ G b:=fun b h hg=>by
  rcases HTT.out.2 b h with h| h
  ·exact HDG.out b h hg
  ·have:=Book.lt HB.out b hg
   omega
 have s6:=Hb6.out.size
 have l5:= @qas.lt _ _ _ _ _ _ _ _ _ _ _ _ _ _ _ _ HH5.out
 refine ⟨rfl,F',P1,u4,u5,u6,u7,its1,G',((HH5.out.below Hb6.out).drew).kept K7 (fun b hd h=> ?_) (fun b hc h=> ?_),hn2,B7,⟨((HTT6.out.1.mono fun b _ h=> .inl h).drew).trans K7 fun i hi h=> ?_,fun b h=> ?_⟩,fun b hd hg=> ?_⟩
 ·rcases h with h| h
  ·exact DG3 b hd h
  ·exact (lO b h).2.2 hd
 ·rcases h with h| h
  ·exact hCG b hc h
  ·have h1:=HH.out.cl b hc
   have h2:=(lO b h).1
   omega
 ·rcases h with h| h
  ·exact .inr h
  ·have h2:=(lO i h).1
   omega
 ·rcases h with h| h
  ·exact (HTT.out.2 b h).imp .inl id
  ·rcases hG7 b h with h| h| h
   ·exact .inl (.inr h)
   ·have h2:=(lO b h).1
    exact .inr (by omega)
   ·have h3:=HTT6.out.1.size
    exact .inr (Nat.le_trans h3 h)
 ·rcases hG7 b hg with h| h| h
  ·exact DG3 b hd h
  ·exact (lO b h).2.2 hd
  ·have h4:=l5 hd
   have h5:w6.heap.size≤b:=h
   omega
end
end Go.Proofs.YtchddaafibjmgaaGreat
