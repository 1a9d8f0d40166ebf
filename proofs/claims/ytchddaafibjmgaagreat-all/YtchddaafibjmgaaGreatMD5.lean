import Derived.Test.YtchddaafibjmgaaGreatMD4
set_option maxRecDepth 100000
set_option maxHeartbeats 20000000
namespace Go.Proofs.YtchddaafibjmgaaGreat
section
open Go.RowKit
theorem qaq.same {w w':World} {Y:Nat} {st:RefD} {v4 v5 v6 v7:Value} (H:qbc w Y st v4 v5 v6 v7) (hb:Below w.heap.size w w'):qaq w w' Y st v4 v5 v6 v7:=
 ⟨_,_,_,_,H.kept (Kept.of_below (F:=qq) hb) (fun _ _=>id),Kept.of_below hb,fun _ hb=> .inl hb⟩
theorem qaq.behind {w w1 w':World} {Y:Nat} {st:RefD} {v4 v5 v6 v7:Value} (hb:Below w.heap.size w w1) (h:qaq w1 w' Y st v4 v5 v6 v7):qaq w w' Y st v4 v5 v6 v7:=by
 obtain ⟨a,b,c,d,H,K,hf⟩:=h
 exact ⟨a,b,c,d,H,(Kept.of_below hb).trans K (fun _ _ h=>h),fun k hk=>(hf k hk).elim .inl (fun g=> .inr (Nat.le_trans hb.size g))⟩
def RefD.bind (st:RefD) (p:PodD) (node:ByteArray):Int×RefD:=
 if p.err≠0 then (p.err,st)
 else if (qan (st.nodes.map (·.name)) node).isNone then (4,st)
 else if st.admits p.name≠0 then (st.admits p.name,st)
 else (0,st.lay ⟨p,node,true,0⟩)
theorem bind_any (Y:Nat) (st:RefD) (v4 v5 v6 v7:Value) (p:PodD) (node:ByteArray) (w:World) (H:qbc w Y st v4 v5 v6 v7) (hok:p.ok w) (hn:st.nodes.length≤100) (hp:st.pods.length≤1000) (ht:st.touched.length < 8796093022207):
  Calls Tryz.prog 23 #[.pointer (some ⟨Y,0,none⟩),.agg p.cells,.string node] w fun e w'=>e= .returned (.int .i64 (st.bind p node).1)∧qaq w w' Y (st.bind p node).2 v4 v5 v6 v7:=by
 have hW:=fun o=>qi w o
 have c1:=fun o=>qhq p (w.alloc o) (hok.below (hW o))
 have hb: ∀ w1:World,Below w.heap.size w w1→qbc w1 Y st v4 v5 v6 v7:=fun w1 hb=>H.kept (Kept.of_below (F:=qq) hb) fun _ _=>id
 have c2:=fun w1 hb1=>qg2 Y st v4 v5 v6 v7 node w1 (hb w1 hb1) (by omega)
 have c3:=fun w1 hb1=>admits_any Y st v4 v5 v6 v7 p w1 (hb w1 hb1) (by omega)
 have c4:=fun w1 hb1=>lay_any Y st v4 v5 v6 v7 ⟨p,node,true,0⟩ w1 (hb w1 hb1) hp ht
 unfold PodD.cells Lst.val at c1 c3
 unfold qax.cells Lst.val at c4
 unfold PodD.cells Lst.val
 by_cases h0:p.err=0
 ·rw [h0] at c1
  cases h1:qan (st.nodes.map (·.name)) node with
  | none=>
   have HE:Hid (st.bind p node=(4,st)):=by show st.bind p node=_;simp [RefD.bind,h0,h1]
   rw [h1] at c2
   unfold idxI at c2
   clear h0 h1 c3 c4
   go_enter Tryz.func23,Tryz.ntmps23
   go_wp2_with (first
    | (go_at_call 50;refine (c1 _).mono ?_;rintro e w1 ⟨rfl,hb1⟩;have hB1:=qj (hW _) hb1)
    | (go_at_call 45;refine (c2 w1 hB1).mono ?_;rintro e w2 ⟨rfl,rfl⟩))
   go_ret
   exact ⟨by rw [HE.out];rfl,by rw [HE.out];exact qaq.same H hB1⟩
  | some i=>
   rw [h1] at c2
   unfold idxI at c2
   by_cases h2:st.admits p.name=0
   ·have HE:Hid (st.bind p node=(0,st.lay ⟨p,node,true,0⟩)):=by show st.bind p node=_;simp [RefD.bind,h0,h1,h2]
    rw [h2] at c3
    clear h0 h1 h2
    go_enter Tryz.func23,Tryz.ntmps23
    go_wp2_with (first
     | (go_at_call 50;refine (c1 _).mono ?_;rintro e w1 ⟨rfl,hb1⟩;have hB1:=qj (hW _) hb1;have r1:=fun o=>hb1.cell (p:=⟨w.heap.size,o,none⟩) (by simp);have z1:=hb1.size)
     | (go_at_call 45;refine (c2 w1 hB1).mono ?_;rintro e w2 ⟨rfl,rfl⟩)
     | (go_at_call 51;refine (c3 w2 hB1).mono ?_;rintro e w3 ⟨rfl,hb3⟩;have hB3:=qj hB1 hb3;have r3:=fun o=>hb3.cell (p:=⟨w.heap.size,o,none⟩) (by simp at z1;simp;omega))
     | (go_at_call 52;refine (c4 w3 hB3).mono ?_;rintro e w4 ⟨rfl,hA⟩))
    go_ret
    exact ⟨by rw [HE.out];rfl,by rw [HE.out];exact qaq.behind hB3 hA⟩
   ·have HE:Hid (st.bind p node=(st.admits p.name,st)):=by show st.bind p node=_;simp [RefD.bind,h0,h1,h2]
    have h2':(st.admits p.name != 0)=true:=by simpa using h2
    clear h0 h1 h2 c4
    go_enter Tryz.func23,Tryz.ntmps23
    go_wp2_with (first
     | (go_at_call 50;refine (c1 _).mono ?_;rintro e w1 ⟨rfl,hb1⟩;have hB1:=qj (hW _) hb1;have r1:=fun o=>hb1.cell (p:=⟨w.heap.size,o,none⟩) (by simp);have z1:=hb1.size)
     | (go_at_call 45;refine (c2 w1 hB1).mono ?_;rintro e w2 ⟨rfl,rfl⟩)
     | (go_at_call 51;refine (c3 w2 hB1).mono ?_;rintro e w3 ⟨rfl,hb3⟩;have hB3:=qj hB1 hb3))
    go_ret
    exact ⟨by rw [HE.out];rfl,by rw [HE.out];exact qaq.same H hB3⟩
 ·have HE:Hid (st.bind p node=(p.err,st)):=by show st.bind p node=_;simp [RefD.bind,h0]
  have h0':(p.err != 0)=true:=by simpa using h0
  clear h0 c2 c3 c4
  go_enter Tryz.func23,Tryz.ntmps23
  go_wp2_with (go_at_call 50;refine (c1 _).mono ?_;rintro e w1 ⟨rfl,hb1⟩)
  go_ret
  exact ⟨by rw [HE.out];rfl,by rw [HE.out];exact qaq.same H (qj (hW _) hb1)⟩
def RefD.drop (st:RefD) (s:ByteArray):Int×RefD:=
 match qan (st.pods.map (·.p.name)) s with
 | none=>(4,st)
 | some i=>match st.pods[i]? with
  | none=>(4,st)
  | some x=>(0,st.leave i x)
theorem nameIdx_lt {l:List ByteArray} {s:ByteArray} {i:Nat} (h:qan l s=some i):i < l.length:=(List.findIdx?_eq_some_iff_getElem.1 h).1
theorem drop_any (Y:Nat) (st:RefD) (v4 v5 v6 v7:Value) (s:ByteArray) (w:World) (H:qbc w Y st v4 v5 v6 v7) (hp:st.pods.length≤1000) (ht:st.touched.length < 8796093022207):
  Calls Tryz.prog 28 #[.pointer (some ⟨Y,0,none⟩),.string s] w fun e w'=>e= .returned (.int .i64 (st.drop s).1)∧qaq w w' Y (st.drop s).2 v4 v5 v6 v7:=by
 have c1:=rpod_any Y st v4 v5 v6 v7 s w H (by omega)
 cases h1:qan (st.pods.map (·.p.name)) s with
 | none=>
  have HE:Hid (st.drop s=(4,st)):=by show st.drop s=_;simp [RefD.drop,h1]
  rw [h1] at c1
  unfold idxI at c1
  clear h1
  go_enter Tryz.func28,Tryz.ntmps28
  go_wp2_with (go_at_call 57;refine c1.mono ?_;rintro e w2 ⟨rfl,rfl⟩)
  go_ret
  exact ⟨by rw [HE.out];rfl,by rw [HE.out];exact qaq.same H (Below.refl _ _)⟩
 | some i=>
  have hi:i < st.pods.length:=by simpa using nameIdx_lt h1
  have HE:Hid (st.drop s=(0,st.leave i st.pods[i])):=by show st.drop s=_;simp [RefD.drop,h1,hi]
  have c2:=leave_any Y st v4 v5 v6 v7 i w H hi hp ht
  rw [h1] at c1
  unfold idxI at c1
  clear h1
  go_enter Tryz.func28,Tryz.ntmps28
  go_wp2_with (first
   | (go_at_call 57;refine c1.mono ?_;rintro e w2 ⟨rfl,rfl⟩)
   | (go_at_call 59;refine c2.mono ?_;rintro e w3 ⟨rfl,hA⟩))
  go_ret
  exact ⟨by rw [HE.out];rfl,by rw [HE.out];exact hA⟩
def RefD.confirm (st:RefD) (s:ByteArray):Int×RefD:=
 match qan (st.pods.map (·.p.name)) s with
 | none=>(4,st)
 | some i=>match st.pods[i]? with
  | none=>(4,st)
  | some x=>if x.bound then (7,st) else (0,{ st with pods:=st.pods.set i { x with bound:=true } })
theorem qbc.bound5 {w:World} {Y g cap:Nat} {st:RefD} {v4 v6 v7:Value} (H:qbc w Y st v4 (.slice (some ⟨g,0,none⟩) st.pods.length cap) v6 v7) (i:Nat) (hi:i < st.pods.length):
  qbc (w.setCell ⟨g,i * 13+11,none⟩ (.bool true)) Y { st with pods:=st.pods.set i { st.pods[i] with bound:=true } } v4 (.slice (some ⟨g,0,none⟩) st.pods.length cap) v6 v7:=by
 have K:Kept (fun b=>b=g) w (w.setCell ⟨g,i * 13+11,none⟩ (.bool true)):=(Kept.refl (fun b=>b=g) w).setCell (p:=⟨g,i * 13+11,none⟩) (fun _=>rfl) _
 obtain ⟨g',e,_,hc,_⟩:=qbs H.r5 (by omega)
 simp only [Option.some.injEq,Addr.mk.injEq,and_true] at e
 subst e
 have r:=own_set qax.row 13 (by omega) qax.row_length (W:=w.setCell ⟨g,i * 13+11,none⟩ (.bool true)) H.r5 i { st.pods[i] with bound:=true } (fun cur hg=>by
  refine ⟨_,qs hg _,by simp,fun t ht=> ?_⟩
  by_cases h:t=i * 13+11
  ·subst h
   rw [Array.getElem?_setIfInBounds_self_of_lt ht,if_pos (by omega),Nat.add_sub_cancel_left]
   rfl
  ·rw [Array.getElem?_setIfInBounds_ne (by omega)]
   by_cases h2:i * 13≤t∧t < i * 13+13
   ·rw [if_pos h2]
    have hj:t=i * 13+(t - i * 13):=by omega
    have hcell:w.cell? ⟨g,t,none⟩=st.pods[i].row[t - i * 13]? :=by
     rw [hc t (by omega),hj]
     have:=qgi qax.row 13 qax.row_length st.pods i (t - i * 13) hi (by omega)
     rw [this]
     congr 1
     omega
    rw [ql hg] at hcell
    rw [hcell]
    have hn:t - i * 13≠11:=by omega
    generalize t - i * 13=j at *
    have:j=0∨j=1∨j=2∨j=3∨j=4∨j=5∨j=6∨j=7∨j=8∨j=9∨j=10∨j=12:=by omega
    rcases this with rfl| rfl| rfl| rfl| rfl| rfl| rfl| rfl| rfl| rfl| rfl| rfl<;>rfl
   ·rw [if_neg h2])
 have y5:=H.y5
 refine ⟨?_,K.ownsRow H.r4 fun k hk e=>H.a45 k hk (by rw [e];rfl),r,K.ownsRow H.r6 fun k hk e=>H.a56 g rfl (e▸hk),H.r7.kept K fun k hk e=>H.a57 g rfl (e▸hk),H.y4,H.y5,H.y6,H.y7,H.a45,H.a46,H.a47,H.a56,H.a57,H.a67⟩
 rw [K.block Y (qo H.box) (fun e=>y5 (by rw [e];rfl))]
 exact H.box
theorem confirm_any (Y:Nat) (st:RefD) (v4 v5 v6 v7:Value) (s:ByteArray) (w:World) (H:qbc w Y st v4 v5 v6 v7) (hp:st.pods.length≤1000):
  Calls Tryz.prog 26 #[.pointer (some ⟨Y,0,none⟩),.string s] w fun e w'=>e= .returned (.int .i64 (st.confirm s).1)∧qaq w w' Y (st.confirm s).2 v4 v5 v6 v7:=by
 have c1:=rpod_any Y st v4 v5 v6 v7 s w H (by omega)
 cases h1:qan (st.pods.map (·.p.name)) s with
 | none=>
  have HE:Hid (st.confirm s=(4,st)):=by show st.confirm s=_;simp [RefD.confirm,h1]
  rw [h1] at c1
  unfold idxI at c1
  clear h1
  go_enter Tryz.func26,Tryz.ntmps26
  go_wp2_with (go_at_call 57;refine c1.mono ?_;rintro e w2 ⟨rfl,rfl⟩)
  go_ret
  exact ⟨by rw [HE.out];rfl,by rw [HE.out];exact qaq.same H (Below.refl _ _)⟩
 | some i=>
  have hi:i < st.pods.length:=by simpa using nameIdx_lt h1
  rw [h1] at c1
  unfold idxI at c1
  obtain ⟨a5,cp5,rfl⟩:=qv H.r5
  have hx:=ql (i:=5) H.box
  obtain ⟨g,ho,hg,-,-⟩:=qbs H.r5 (by omega)
  subst ho
  obtain ⟨-,-,-,-,-,-,-,-,-,-,-,j11,-,jf,-⟩:=row13 H.r5 i hi
  have hi1':(0:Int)≤(i:Int):=by omega
  have hi2':(i:Int) < (st.pods.length:Int):=by omega
  cases hbd:st.pods[i].bound
  ·have HE:Hid (st.confirm s=(0,{ st with pods:=st.pods.set i { st.pods[i] with bound:=true } })):=by show st.confirm s=_;simp [RefD.confirm,h1,hi,hbd]
   rw [hbd] at j11
   have H2:=H.bound5 i hi
   clear h1 hbd
   go_enter Tryz.func26,Tryz.ntmps26
   go_wp2_with (go_at_call 57;refine c1.mono ?_;rintro e w2 ⟨rfl,rfl⟩)
   go_ret
   refine ⟨by rw [HE.out];rfl,by rw [HE.out];exact ⟨_,_,_,_,H2,(Kept.refl _ _).setCell (p:=⟨g,i * 13+11,none⟩) (fun _=> .inr (.inr (.inl rfl))) _,fun b hb=> .inl hb⟩⟩
  ·have HE:Hid (st.confirm s=(7,st)):=by show st.confirm s=_;simp [RefD.confirm,h1,hi,hbd]
   rw [hbd] at j11
   clear h1 hbd
   go_enter Tryz.func26,Tryz.ntmps26
   go_wp2_with (go_at_call 57;refine c1.mono ?_;rintro e w2 ⟨rfl,rfl⟩)
   go_ret
   exact ⟨by rw [HE.out];rfl,by rw [HE.out];exact qaq.same H (Below.refl _ _)⟩
end
section
open Go.RowKit
theorem qaq.step {w w1 w':World} {Y:Nat} {st:RefD} {v4 v5 v6 v7 u4 u5 u6 u7:Value} (K:Kept (qau Y v4 v5 v6 v7) w w1) (hf: ∀ b,qau Y u4 u5 u6 u7 b→qau Y v4 v5 v6 v7 b∨w.heap.size≤b) (h:qaq w1 w' Y st u4 u5 u6 u7):
  qaq w w' Y st v4 v5 v6 v7:=by
 obtain ⟨a,b,c,d,H,K2,hf2⟩:=h
 refine ⟨a,b,c,d,H,K.trans K2 (fun i hi h=>(hf i h).elim id (fun g=>by omega)),fun k hk=> ?_⟩
 rcases hf2 k hk with g| g
 ·exact hf k g
 ·exact .inr (Nat.le_trans K.size g)
def qax.gone (st:RefD) (x:qax):Bool:= !x.bound&&decide (st.hold≤st.now - x.since)
def RefD.tickStep (st:RefD) (k:Nat):RefD:=
 match st.pods[k]? with
 | some x=>if x.gone st then st.leave k x else st
 | none=>st
def RefD.tickTo (st:RefD) (n:Nat):Nat→RefD
 | 0=>st
 | j+1=>(RefD.tickTo st n j).tickStep (n - 1 - j)
def RefD.tick (st:RefD) (n:Int):Int×RefD:=
 if n < 0∨100000 < n∨1099511627776 < st.now+n then (8,st)
 else (0,RefD.tickTo { st with now:=st.now+n } st.pods.length st.pods.length)
theorem tickStep_facts (st:RefD) (k:Nat):(st.tickStep k).hold=st.hold∧(st.tickStep k).now=st.now∧(st.tickStep k).pods.length≤st.pods.length∧st.pods.length≤(st.tickStep k).pods.length+1∧(st.tickStep k).touched.length≤st.touched.length+1∧
  (∀ x∈(st.tickStep k).pods,x∈st.pods)∧(st.pods.length≤k→st.tickStep k=st):=by
 unfold RefD.tickStep
 cases h:st.pods[k]? with
 | none=>exact ⟨rfl,rfl,Nat.le_refl _,by simp,by simp,fun _ h=>h,fun _=>rfl⟩
 | some x=>
  have hk:=(List.getElem?_eq_some_iff.1 h).1
  dsimp only
  split
  ·refine ⟨rfl,rfl,?_,?_,by simp [RefD.leave],fun y hy=> ?_,fun h=>by omega⟩
   ·exact List.length_eraseIdx_le _ _
   ·have:=List.length_eraseIdx_of_lt (l:=st.pods) hk
    simp only [RefD.leave];omega
   ·exact List.mem_of_mem_eraseIdx hy
  ·exact ⟨rfl,rfl,Nat.le_refl _,by omega,by omega,fun _ h=>h,fun h=>by omega⟩
theorem tickTo_facts (st:RefD) (n j:Nat) (hn:st.pods.length=n) (hj:j≤n):(st.tickTo n j).hold=st.hold∧(st.tickTo n j).now=st.now∧n - j≤(st.tickTo n j).pods.length∧(st.tickTo n j).pods.length≤n∧(st.tickTo n j).touched.length≤st.touched.length+j∧
  (∀ x∈(st.tickTo n j).pods,x∈st.pods):=by
 induction j with
 | zero=>exact ⟨rfl,rfl,by simp [RefD.tickTo];omega,by simp [RefD.tickTo];omega,by simp [RefD.tickTo],fun _ h=>h⟩
 | succ j ih=>
  obtain ⟨h1,h2,h3,h4,h5,h6⟩:=ih (by omega)
  obtain ⟨g1,g2,g3,g4,g5,g6,_⟩:=tickStep_facts (st.tickTo n j) (n - 1 - j)
  unfold RefD.tickTo
  exact ⟨g1.trans h1,g2.trans h2,by omega,by omega,by omega,fun x hx=>h6 x (g6 x hx)⟩
structure RefD.wf (st:RefD):Prop where
 hold0:1≤st.hold
 hold1:st.hold≤1000
 now0:0≤st.now
 now1:st.now≤1099511627776
 since: ∀ x∈st.pods,0≤x.since∧x.since≤1099511627776
 nodes:st.nodes.length≤32
 pods:st.pods.length≤128
theorem tick_any (Y:Nat) (st:RefD) (v4 v5 v6 v7:Value) (n:Int) (w:World) (H:qbc w Y st v4 v5 v6 v7) (hwf:st.wf) (ht:st.touched.length < 8796093022000):
  Calls Tryz.prog 30 #[.pointer (some ⟨Y,0,none⟩),.int .i64 n] w fun e w'=>e= .returned (.int .i64 (st.tick n).1)∧qaq w w' Y (st.tick n).2 v4 v5 v6 v7:=by
 obtain ⟨q1,q2,q3,q4,q5,_,q7⟩:=hwf
 have hx3:w.cell? ⟨Y,3,none⟩=some (.int .i64 st.now):=by rw [ql H.box];rfl
 have hf3:w.frozen? ⟨Y,3,none⟩=false:=qp H.box
 have hY:=qo H.box
 by_cases h1:0≤n
 ·by_cases h2:n≤100000
  ·by_cases h3:st.now+n≤1099511627776
   ·have HE:Hid (st.tick n=(0,RefD.tickTo { st with now:=st.now+n } st.pods.length st.pods.length)):=by
     show st.tick n=_
     unfold RefD.tick
     rw [if_neg (by omega)]
    obtain ⟨H0,K0⟩:=H.put3 (st.now+n)
    obtain ⟨a5,cp5,rfl⟩:=qv H.r5
    have hx5:w.cell? ⟨Y,5,none⟩=some (.slice a5 st.pods.length cp5):=by rw [ql H.box];rfl
    have hA0:qaq w (w.setCell ⟨Y,3,none⟩ (.int .i64 (st.now+n))) Y { st with now:=st.now+n } v4 (.slice a5 st.pods.length cp5) v6 v7:=⟨_,_,_,_,H0,K0.mono (fun b _ h=> .inl h),fun b hb=> .inl hb⟩
    go_enter Tryz.func30,Tryz.ntmps30
    go_wp2
    go_loopw [5] (fun i wr=> ∃ j:Nat,j≤st.pods.length∧i= .int .i64 ((st.pods.length:Int) - 1 - j)∧qaq w wr Y (RefD.tickTo { st with now:=st.now+n } st.pods.length j) v4 (.slice a5 st.pods.length cp5) v6 v7) (fun i _=>(intOf i+1).toNat)
    case atStart=>exact ⟨0,Nat.zero_le _,by simp,hA0⟩
    case round=>
     obtain ⟨j,hj,rfl,hA⟩:=hrel
     by_cases hlt:j < st.pods.length
     ·obtain ⟨f1,f2,f3,f4,f5,f6⟩:=tickTo_facts { st with now:=st.now+n } st.pods.length j rfl hj
      obtain ⟨u4,u5,u6,u7,HR,KR,hfR⟩:=hA
      have hstep:RefD.tickTo { st with now:=st.now+n } st.pods.length (j+1)=(RefD.tickTo { st with now:=st.now+n } st.pods.length j).tickStep (st.pods.length - 1 - j):=rfl
      generalize RefD.tickTo { st with now:=st.now+n } st.pods.length j=sj at *
      dsimp only at f1 f2 f5 f6
      have hidx:st.pods.length - 1 - j < sj.pods.length:=by omega
      obtain ⟨a5',cp5',rfl⟩:=qv HR.r5
      have hy0:wr.cell? ⟨Y,0,none⟩=some (.int .i64 st.hold):=by rw [ql HR.box,f1];rfl
      have hy3:wr.cell? ⟨Y,3,none⟩=some (.int .i64 (st.now+n)):=by rw [ql HR.box,f2];rfl
      have hy5:wr.cell? ⟨Y,5,none⟩=some (.slice a5' sj.pods.length cp5'):=by rw [ql HR.box];rfl
      obtain ⟨g,ho,hg,-,-⟩:=qbs HR.r5 (by omega)
      subst ho
      obtain ⟨m,hm⟩: ∃ m,m=st.pods.length - 1 - j:=⟨_,rfl⟩
      rw [← hm] at hidx hstep
      have hmi:((st.pods.length:Int) - 1 - j)=(m:Int):=by omega
      obtain ⟨-,-,-,-,-,-,-,-,-,-,-,j11,j12,-,-⟩:=row13 HR.r5 m hidx
      obtain ⟨x,hxe⟩: ∃ x,x=sj.pods[m]:=⟨_,rfl⟩
      rw [← hxe] at j11 j12
      obtain ⟨s1,s2⟩:=q5 x (f6 x (hxe▸List.getElem_mem hidx))
      have hget:sj.pods[m]? =some x:=by rw [List.getElem?_eq_getElem hidx,hxe]
      have hi1':(0:Int)≤(m:Int):=by omega
      have hi2':(m:Int) < (sj.pods.length:Int):=by omega
      have cl:=fun q=>leave_any Y sj u4 _ u6 u7 m (wr.drewN q) (HR.kept ((Kept.refl qq wr).drewN q) fun _ _=>id) hidx (by omega) (by omega)
      rw [← hxe] at cl
      have hbe: ∀ (q:Nat) (w':World) (st':RefD),qaq (wr.drewN q) w' Y st' u4 (.slice (some ⟨g,0,none⟩) sj.pods.length cp5') u6 u7→qaq w w' Y st' v4 (.slice a5 st.pods.length cp5) v6 v7:=fun q w' st' h=>qaq.step KR hfR (qaq.behind (below_drewN (Below.refl _ _) q) h)
      have hsame: ∀ q,qaq (wr.drewN q) (wr.drewN q) Y sj u4 (.slice (some ⟨g,0,none⟩) sj.pods.length cp5') u6 u7:=fun q=>qaq.same (HR.kept ((Kept.refl qq wr).drewN q) fun _ _=>id) (Below.refl _ _)
      have Hst:Hid (RefD.tickTo { st with now:=st.now+n } st.pods.length (j+1)=if x.gone sj then sj.leave m x else sj):=by show RefD.tickTo _ _ _=_;rw [hstep];unfold RefD.tickStep;rw [hget]
      have Hg:Hid (x.gone sj=(!x.bound&&decide (st.hold≤st.now+n - x.since))):=by show x.gone sj=_;unfold qax.gone;rw [f1,f2]
      rw [hmi]
      have Hm:Hid (m=st.pods.length - 1 - j):=hm
      clear hstep hget hxe hm hmi
      cases hbd:x.bound
      ·rw [hbd] at j11
       by_cases hho:st.hold≤st.now+n - x.since
       ·have HS:Hid (RefD.tickTo { st with now:=st.now+n } st.pods.length (j+1)=sj.leave m x):=by show RefD.tickTo _ _ _=_;rw [Hst.out,Hg.out,hbd];simp [hho]
        clear hbd
        go_wp2
        go_quiet (fail)
        go_wp2_with (go_at_call 59;refine (cl _).mono ?_;rintro e w3 ⟨rfl,hA3⟩)
        go_roundw
        case rel=>exact ⟨j+1,by omega,by have:=Hm.out;congr 1;omega,by rw [HS.out];exact hbe _ _ _ hA3⟩
        case measure=>simp [intOf]
       ·have HS:Hid (RefD.tickTo { st with now:=st.now+n } st.pods.length (j+1)=sj):=by show RefD.tickTo _ _ _=_;rw [Hst.out,Hg.out,hbd];simp [hho]
        clear hbd
        go_wp2
        go_quiet (fail)
        go_wp2
        go_roundw
        case rel=>exact ⟨j+1,by omega,by have:=Hm.out;congr 1;omega,by rw [HS.out];exact hbe _ _ _ (hsame _)⟩
        case measure=>simp [intOf]
      ·rw [hbd] at j11
       have HS:Hid (RefD.tickTo { st with now:=st.now+n } st.pods.length (j+1)=sj):=by show RefD.tickTo _ _ _=_;rw [Hst.out,Hg.out,hbd];simp
       clear hbd
       go_wp2
       go_quiet (fail)
       go_wp2
       go_roundw
       case rel=>exact ⟨j+1,by omega,by have:=Hm.out;congr 1;omega,by rw [HS.out];exact hbe _ _ _ (hsame _)⟩
       case measure=>simp [intOf]
     ·have hj':j=st.pods.length:=by omega
      have Hfin:Hid (qaq w wr Y (RefD.tickTo { st with now:=st.now+n } st.pods.length st.pods.length) v4 (.slice a5 st.pods.length cp5) v6 v7):=by rw [hj'] at hA;exact hA
      have hneg:(st.pods.length:Int) - 1 - j= -1:=by omega
      rw [hneg]
      clear hA hj'
      go_wp2
      go_ret
      exact ⟨by rw [HE.out];rfl,by rw [HE.out];exact Hfin.out⟩
   ·have HE:Hid (st.tick n=(8,st)):=by show st.tick n=_;unfold RefD.tick;rw [if_pos (by omega)]
    go_enter Tryz.func30,Tryz.ntmps30
    go_wp2
    go_ret
    exact ⟨by rw [HE.out];rfl,by rw [HE.out];exact qaq.same H (Below.refl _ _)⟩
  ·have HE:Hid (st.tick n=(8,st)):=by show st.tick n=_;unfold RefD.tick;rw [if_pos (by omega)]
   go_enter Tryz.func30,Tryz.ntmps30
   go_wp2
   go_ret
   exact ⟨by rw [HE.out];rfl,by rw [HE.out];exact qaq.same H (Below.refl _ _)⟩
 ·have HE:Hid (st.tick n=(8,st)):=by show st.tick n=_;unfold RefD.tick;rw [if_pos (by omega)]
  go_enter Tryz.func30,Tryz.ntmps30
  go_wp2
  go_ret
  exact ⟨by rw [HE.out];rfl,by rw [HE.out];exact qaq.same H (Below.refl _ _)⟩
end
end Go.Proofs.YtchddaafibjmgaaGreat
