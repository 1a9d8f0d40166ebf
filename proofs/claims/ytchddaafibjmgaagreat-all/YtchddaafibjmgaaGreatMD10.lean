import Derived.Test.YtchddaafibjmgaaGreatMD1
import Derived.Test.YtchddaafibjmgaaGreatMD2
import Derived.Deep.RegionHeld3
import Derived.Deep.DrawnRows
set_option maxRecDepth 100000
set_option maxHeartbeats 20000000
namespace Go.Proofs.YtchddaafibjmgaaGreat
section
open Go.RowKit
attribute [local go_sem] Go.wp_at_zero Go.wp_at_succ
theorem LentI.start {C P:Nat→Prop} {w:World} {X:Nat} {its:List Item} (H:qe3 C P w X its) (cp: ∀ k,C k→ ¬ P k) (cb: ∀ k,C k→k < w.heap.size) (o o':Obj):LentI C P ((w.alloc o).alloc o') ((w.alloc o).alloc o') X its:=
 LentI.refl (H.kept (((Kept.refl qq w).alloc o).alloc o') (fun _ _=>id) (fun _ _=>id)) cp (fun k hk=>by have:=cb k hk;simp;omega)
theorem sent_close {C P:Nat→Prop} {w w2 W:World} {X:Nat} {its:List Item} {o o':Obj} (hI:LentI C P ((w.alloc o).alloc o') w2 X its) (cb: ∀ k,C k→k < w.heap.size) (pb: ∀ k,P k→k < w.heap.size) (hK:Kept (fun b=>b=w.heap.size+1) w2 W):
  qe3 C (grow P w W) W X its∧Kept P w W:=by
 have hz:w.heap.size+2≤w2.heap.size:=by have:=hI.kept.size;simp at this;omega
 have hz':=hK.size
 have n1: ¬ P (w.heap.size+1):=fun h=>by have:=pb _ h;omega
 refine ⟨(hI.lent.kept hK ?_ ?_).mono ?_,?_⟩
 ·rintro k hk rfl
  rcases hk with hk| ⟨hk,_⟩
  ·exact n1 hk
  ·simp at hk
   omega
 ·rintro k hk rfl
  have:=cb _ hk
  omega
 ·intro k hk
  rcases hk with hk| ⟨hk,hk'⟩
  ·exact .inl hk
  ·simp at hk
   exact .inr ⟨by omega,by omega⟩
 ·have K0:Kept P w ((w.alloc o).alloc o'):=((Kept.refl P w).alloc o).alloc o'
  exact (K0.trans hI.kept (fun _ _ h=>h)).trans hK (fun i hi e=>by omega)
def qu.sent (its:List Item) (p q:qu):Prop:=q.name=p.name∧q.r0=p.r0∧q.r1=p.r1∧q.r2=p.r2∧p.labels.outOf its q.labels∧p.taints.outOf its q.taints
theorem node_any (C P:Nat→Prop) (w:World) (X:Nat) (its:List Item) (p:qu) (H:qe3 C P w X its) (cp: ∀ k,C k→ ¬ P k) (cb: ∀ k,C k→k < w.heap.size) (pb: ∀ k,P k→k < w.heap.size)
  (hp:p.ok w) (hC: ∀ x∈p.lists,x.inC C) (hits:its.length≤900):
  Calls Tryz.prog 17 #[.pointer (some ⟨X,0,none⟩),.agg p.cells] w fun e w'=> ∃ q its',e= .returned (.agg q.cells)∧p.sent its' q∧qe3 C (grow P w w') w' X its'∧Kept P w w'∧its'.length≤its.length+2:=by
 unfold qu.cells Lst.val
 have hI:=LentI.start H cp cb (.cells #[.string p.name,.int .i64 p.r0,.int .i64 p.r1,.int .i64 p.r2,.slice p.labels.a p.labels.L.length p.labels.cap,.slice p.taints.a p.taints.L.length p.taints.cap] 43)
  (.cells #[.string ⟨#[]⟩,.int .i64 0,.int .i64 0,.int .i64 0,.slice none 0 0,.slice none 0 0] 70)
 have hb:Below w.heap.size w ((w.alloc (.cells #[.string p.name,.int .i64 p.r0,.int .i64 p.r1,.int .i64 p.r2,.slice p.labels.a p.labels.L.length p.labels.cap,.slice p.taints.a p.taints.L.length p.taints.cap] 43)).alloc
  (.cells #[.string ⟨#[]⟩,.int .i64 0,.int .i64 0,.int .i64 0,.slice none 0 0,.slice none 0 0] 70)):=qj (qi _ _) (qi _ _)
 have hok:=hp.below hb
 have ok1:=hok.2 p.labels (by simp [qu.lists])
 have ok2:=hok.2 p.taints (by simp [qu.lists])
 have hc1:=hC p.labels (by simp [qu.lists])
 have hc2:=hC p.taints (by simp [qu.lists])
 have n0: ¬ P w.heap.size:=fun h=>by have:=pb _ h;omega
 have n1: ¬ P (w.heap.size+1):=fun h=>by have:=pb _ h;omega
 go_enter Tryz.func17,Tryz.ntmps17
 go_wp2
 go_region_held3 (fun w'=>w'.cell? ⟨w.heap.size,0,none⟩=some (.string p.name)∧w'.cell? ⟨w.heap.size,1,none⟩=some (.int .i64 p.r0)∧w'.cell? ⟨w.heap.size,2,none⟩=some (.int .i64 p.r1)∧w'.cell? ⟨w.heap.size,3,none⟩=some (.int .i64 p.r2)∧
   w'.cell? ⟨w.heap.size,4,none⟩=some (.slice p.labels.a p.labels.L.length p.labels.cap)∧w'.cell? ⟨w.heap.size,5,none⟩=some (.slice p.taints.a p.taints.L.length p.taints.cap)) (go_keep)
  (first
   | (go_at_call_of 43 (Value.slice p.labels.a p.labels.L.length p.labels.cap);refine (qf3 C P _ _ X its p.labels hI.drew ok1 hc1 (by omega)).mono ?_;rintro e w1 ⟨a1,cp1,its1,rfl,ho1,hI1,hn1,_⟩;obtain ⟨qa,qb⟩:=hI1.still (b:=w.heap.size) (by simp;omega) n0;obtain ⟨qc,qd⟩:=hI1.still (b:=w.heap.size+1) (by simp) n1)
   | (go_at_call_of 43 (Value.slice p.taints.a p.taints.L.length p.taints.cap);refine (qf3 C P _ _ X its1 p.taints hI1 ok2 hc2 (by omega)).mono ?_;rintro e w2 ⟨a2,cp2,its2,rfl,ho2,hI2,hn2,hs2⟩;obtain ⟨qe,qf⟩:=hI2.still (b:=w.heap.size) (by simp;omega) n0;obtain ⟨qg,qh⟩:=hI2.still (b:=w.heap.size+1) (by simp) n1))
 go_wp2
 have hcl:=fun W hK=>sent_close (W:=W) hI2 cb pb hK
 clear hI hI1 hI2 hb hok ok1 ok2 qa qb qc qd qe qf
 refine bodyPost_ret (v:= .agg #[.string p.name,.int .i64 p.r0,.int .i64 p.r1,.int .i64 p.r2,.slice a1 p.labels.L.length cp1,.slice a2 p.taints.L.length cp2]) (by simp [results,Tryz.results17,go_sem,qg]) rfl
  ⟨⟨p.name,p.r0,p.r1,p.r2,⟨a1,p.labels.L,cp1⟩,⟨a2,p.taints.L,cp2⟩⟩,its2,rfl,⟨rfl,rfl,rfl,rfl,ho1.mono hs2,ho2⟩,?_⟩
 obtain ⟨g1,g2⟩:=hcl _ (((((((Kept.refl (fun b=>b=w.heap.size+1) w2).setCell (p:=⟨w.heap.size+1,0,none⟩) (fun _=>rfl) (.string p.name)).setCell (p:=⟨w.heap.size+1,1,none⟩) (fun _=>rfl) (.int .i64 p.r0)).setCell (p:=⟨w.heap.size+1,2,none⟩) (fun _=>rfl) (.int .i64 p.r1)).setCell (p:=⟨w.heap.size+1,3,none⟩) (fun _=>rfl) (.int .i64 p.r2)).setCell (p:=⟨w.heap.size+1,4,none⟩) (fun _=>rfl) (.slice a1 p.labels.L.length cp1)).setCell (p:=⟨w.heap.size+1,5,none⟩) (fun _=>rfl) (.slice a2 p.taints.L.length cp2))
 exact ⟨g1,g2,by omega⟩
def PodD.sent (its:List Item) (p q:PodD):Prop:=q.name=p.name∧q.n0=p.n0∧q.n1=p.n1∧q.n2=p.n2∧q.port=p.port∧p.labels.outOf its q.labels∧p.select.outOf its q.select∧p.bears.outOf its q.bears∧p.near.outOf its q.near∧p.apart.outOf its q.apart
theorem pod_any (C P:Nat→Prop) (w:World) (X:Nat) (its:List Item) (p:PodD) (H:qe3 C P w X its) (cp: ∀ k,C k→ ¬ P k) (cb: ∀ k,C k→k < w.heap.size) (pb: ∀ k,P k→k < w.heap.size)
  (hp:p.ok w) (hC: ∀ x∈p.lists,x.inC C) (hits:its.length≤900):
  Calls Tryz.prog 22 #[.pointer (some ⟨X,0,none⟩),.agg p.cells] w fun e w'=> ∃ q its',e= .returned (.agg q.cells)∧p.sent its' q∧qe3 C (grow P w w') w' X its'∧Kept P w w'∧its'.length≤its.length+5:=by
 unfold PodD.cells Lst.val
 have hI:=LentI.start H cp cb (.cells #[.string p.name,.int .i64 p.n0,.int .i64 p.n1,.int .i64 p.n2,.int .i64 p.port,.slice p.labels.a p.labels.L.length p.labels.cap,.slice p.select.a p.select.L.length p.select.cap,.slice p.bears.a p.bears.L.length p.bears.cap,.slice p.near.a p.near.L.length p.near.cap,.slice p.apart.a p.apart.L.length p.apart.cap] 45)
  (.cells #[.string ⟨#[]⟩,.int .i64 0,.int .i64 0,.int .i64 0,.int .i64 0,.slice none 0 0,.slice none 0 0,.slice none 0 0,.slice none 0 0,.slice none 0 0] 77)
 have hb:Below w.heap.size w ((w.alloc (.cells #[.string p.name,.int .i64 p.n0,.int .i64 p.n1,.int .i64 p.n2,.int .i64 p.port,.slice p.labels.a p.labels.L.length p.labels.cap,.slice p.select.a p.select.L.length p.select.cap,.slice p.bears.a p.bears.L.length p.bears.cap,.slice p.near.a p.near.L.length p.near.cap,.slice p.apart.a p.apart.L.length p.apart.cap] 45)).alloc
  (.cells #[.string ⟨#[]⟩,.int .i64 0,.int .i64 0,.int .i64 0,.int .i64 0,.slice none 0 0,.slice none 0 0,.slice none 0 0,.slice none 0 0,.slice none 0 0] 77)):=qj (qi _ _) (qi _ _)
 have hok:=hp.below hb
 have ok1:=hok.2 p.labels (by simp [PodD.lists])
 have hc1:=hC p.labels (by simp [PodD.lists])
 have ok2:=hok.2 p.select (by simp [PodD.lists])
 have hc2:=hC p.select (by simp [PodD.lists])
 have ok3:=hok.2 p.bears (by simp [PodD.lists])
 have hc3:=hC p.bears (by simp [PodD.lists])
 have ok4:=hok.2 p.near (by simp [PodD.lists])
 have hc4:=hC p.near (by simp [PodD.lists])
 have ok5:=hok.2 p.apart (by simp [PodD.lists])
 have hc5:=hC p.apart (by simp [PodD.lists])
 have n0: ¬ P w.heap.size:=fun h=>by have:=pb _ h;omega
 have n1: ¬ P (w.heap.size+1):=fun h=>by have:=pb _ h;omega
 go_enter Tryz.func22,Tryz.ntmps22
 go_wp2
 go_region_held3 (fun w'=>w'.cell? ⟨w.heap.size,0,none⟩=some (.string p.name)∧w'.cell? ⟨w.heap.size,1,none⟩=some (.int .i64 p.n0)∧w'.cell? ⟨w.heap.size,2,none⟩=some (.int .i64 p.n1)∧w'.cell? ⟨w.heap.size,3,none⟩=some (.int .i64 p.n2)∧w'.cell? ⟨w.heap.size,4,none⟩=some (.int .i64 p.port)∧w'.cell? ⟨w.heap.size,5,none⟩=some (.slice p.labels.a p.labels.L.length p.labels.cap)∧w'.cell? ⟨w.heap.size,6,none⟩=some (.slice p.select.a p.select.L.length p.select.cap)∧w'.cell? ⟨w.heap.size,7,none⟩=some (.slice p.bears.a p.bears.L.length p.bears.cap)∧w'.cell? ⟨w.heap.size,8,none⟩=some (.slice p.near.a p.near.L.length p.near.cap)∧w'.cell? ⟨w.heap.size,9,none⟩=some (.slice p.apart.a p.apart.L.length p.apart.cap)) (go_keep)
  (first
   | (go_at_call_of 43 (Value.slice p.labels.a p.labels.L.length p.labels.cap);refine (qf3 C P _ _ X its p.labels hI.drew ok1 hc1 (by omega)).mono ?_;rintro e w1 ⟨a1,cp1,its1,rfl,ho1,hI1,hn1,hs1⟩;obtain ⟨qa1,qb1⟩:=hI1.still (b:=w.heap.size) (by simp;omega) n0;obtain ⟨qc1,qd1⟩:=hI1.still (b:=w.heap.size+1) (by simp) n1)
   | (go_at_call_of 43 (Value.slice p.select.a p.select.L.length p.select.cap);refine (qf3 C P _ _ X its1 p.select hI1 ok2 hc2 (by omega)).mono ?_;rintro e w2 ⟨a2,cp2,its2,rfl,ho2,hI2,hn2,hs2⟩;obtain ⟨qa2,qb2⟩:=hI2.still (b:=w.heap.size) (by simp;omega) n0;obtain ⟨qc2,qd2⟩:=hI2.still (b:=w.heap.size+1) (by simp) n1)
   | (go_at_call_of 43 (Value.slice p.bears.a p.bears.L.length p.bears.cap);refine (qf3 C P _ _ X its2 p.bears hI2 ok3 hc3 (by omega)).mono ?_;rintro e w3 ⟨a3,cp3,its3,rfl,ho3,hI3,hn3,hs3⟩;obtain ⟨qa3,qb3⟩:=hI3.still (b:=w.heap.size) (by simp;omega) n0;obtain ⟨qc3,qd3⟩:=hI3.still (b:=w.heap.size+1) (by simp) n1)
   | (go_at_call_of 43 (Value.slice p.near.a p.near.L.length p.near.cap);refine (qf3 C P _ _ X its3 p.near hI3 ok4 hc4 (by omega)).mono ?_;rintro e w4 ⟨a4,cp4,its4,rfl,ho4,hI4,hn4,hs4⟩;obtain ⟨qa4,qb4⟩:=hI4.still (b:=w.heap.size) (by simp;omega) n0;obtain ⟨qc4,qd4⟩:=hI4.still (b:=w.heap.size+1) (by simp) n1)
   | (go_at_call_of 43 (Value.slice p.apart.a p.apart.L.length p.apart.cap);refine (qf3 C P _ _ X its4 p.apart hI4 ok5 hc5 (by omega)).mono ?_;rintro e w5 ⟨a5,cp5,its5,rfl,ho5,hI5,hn5,hs5⟩;obtain ⟨qa5,qb5⟩:=hI5.still (b:=w.heap.size) (by simp;omega) n0;obtain ⟨qc5,qd5⟩:=hI5.still (b:=w.heap.size+1) (by simp) n1))
 go_wp2
 have hcl:=fun W hK=>sent_close (W:=W) hI5 cb pb hK
 clear hI hI1 hI2 hI3 hI4 hI5 hb hok ok1 ok2 ok3 ok4 ok5 qa1 qb1 qa2 qb2 qa3 qb3 qa4 qb4 qa5 qb5 qc1 qd1 qc2 qd2 qc3 qd3 qc4 qd4
 refine bodyPost_ret (v:= .agg #[.string p.name,.int .i64 p.n0,.int .i64 p.n1,.int .i64 p.n2,.int .i64 p.port,.slice a1 p.labels.L.length cp1,.slice a2 p.select.L.length cp2,.slice a3 p.bears.L.length cp3,.slice a4 p.near.L.length cp4,.slice a5 p.apart.L.length cp5]) (by simp [results,Tryz.results22,go_sem,qc5]) rfl
  ⟨⟨p.name,p.n0,p.n1,p.n2,p.port,⟨a1,p.labels.L,cp1⟩,⟨a2,p.select.L,cp2⟩,⟨a3,p.bears.L,cp3⟩,⟨a4,p.near.L,cp4⟩,⟨a5,p.apart.L,cp5⟩⟩,its5,rfl,⟨rfl,rfl,rfl,rfl,rfl,((((ho1.mono hs2).mono hs3).mono hs4).mono hs5),(((ho2.mono hs3).mono hs4).mono hs5),((ho3.mono hs4).mono hs5),(ho4.mono hs5),ho5⟩,?_⟩
 obtain ⟨g1,g2⟩:=hcl _ (((((((((((Kept.refl (fun b=>b=w.heap.size+1) w5).setCell (p:=⟨w.heap.size+1,0,none⟩) (fun _=>rfl) (.string p.name)).setCell (p:=⟨w.heap.size+1,1,none⟩) (fun _=>rfl) (.int .i64 p.n0)).setCell (p:=⟨w.heap.size+1,2,none⟩) (fun _=>rfl) (.int .i64 p.n1)).setCell (p:=⟨w.heap.size+1,3,none⟩) (fun _=>rfl) (.int .i64 p.n2)).setCell (p:=⟨w.heap.size+1,4,none⟩) (fun _=>rfl) (.int .i64 p.port)).setCell (p:=⟨w.heap.size+1,5,none⟩) (fun _=>rfl) (.slice a1 p.labels.L.length cp1)).setCell (p:=⟨w.heap.size+1,6,none⟩) (fun _=>rfl) (.slice a2 p.select.L.length cp2)).setCell (p:=⟨w.heap.size+1,7,none⟩) (fun _=>rfl) (.slice a3 p.bears.L.length cp3)).setCell (p:=⟨w.heap.size+1,8,none⟩) (fun _=>rfl) (.slice a4 p.near.L.length cp4)).setCell (p:=⟨w.heap.size+1,9,none⟩) (fun _=>rfl) (.slice a5 p.apart.L.length cp5))
 exact ⟨g1,g2,by omega⟩
end
section
open Go.RowKit
theorem out_ok {C P:Nat→Prop} {w w':World} {X:Nat} {its:List Item} {x y:Lst} (hx:x.ok w) (H:qe3 C P w' X its) (h:x.outOf its y):y.ok w':=by
 obtain ⟨h1,h2,h3⟩:=h
 exact ⟨by rw [h1];exact hx.1,h2,H.labs h3,by rw [h1];exact hx.2.2.2⟩
theorem PodD.sent.ok {C P:Nat→Prop} {w w':World} {X:Nat} {its:List Item} {p q:PodD} (h:p.sent its q) (hp:p.ok w) (H:qe3 C P w' X its):q.ok w'∧q.err=p.err:=by
 obtain ⟨e0,e1,e2,e3,e4,l1,l2,l3,l4,l5⟩:=h
 refine ⟨⟨by rw [e0];exact hp.1,fun x hx=> ?_⟩,?_⟩
 ·simp only [PodD.lists,List.mem_cons,List.not_mem_nil,or_false] at hx
  rcases hx with rfl| rfl| rfl| rfl| rfl
  ·exact out_ok (hp.2 p.labels (by simp [PodD.lists])) H l1
  ·exact out_ok (hp.2 p.select (by simp [PodD.lists])) H l2
  ·exact out_ok (hp.2 p.bears (by simp [PodD.lists])) H l3
  ·exact out_ok (hp.2 p.near (by simp [PodD.lists])) H l4
  ·exact out_ok (hp.2 p.apart (by simp [PodD.lists])) H l5
 ·have hg:q.good=p.good:=by
   unfold PodD.good PodD.lists
   rw [e0,e1,e2,e3,e4]
   simp only [List.all_cons,l1.1,l2.1,l3.1,l4.1,l5.1]
  unfold PodD.err
  rw [hg]
theorem qu.sent.ok {C P:Nat→Prop} {w w':World} {X:Nat} {its:List Item} {p q:qu} (h:p.sent its q) (hp:p.ok w) (H:qe3 C P w' X its):q.ok w'∧q.err=p.err:=by
 obtain ⟨e0,e1,e2,e3,l1,l2⟩:=h
 refine ⟨⟨by rw [e0];exact hp.1,fun x hx=> ?_⟩,?_⟩
 ·simp only [qu.lists,List.mem_cons,List.not_mem_nil,or_false] at hx
  rcases hx with rfl| rfl
  ·exact out_ok (hp.2 p.labels (by simp [qu.lists])) H l1
  ·exact out_ok (hp.2 p.taints (by simp [qu.lists])) H l2
 ·have hg:q.good=p.good:=by
   unfold qu.good qu.lists
   rw [e0,e1,e2,e3]
   simp only [List.all_cons,l1.1,l2.1]
  unfold qu.err
  rw [hg]
end
end Go.Proofs.YtchddaafibjmgaaGreat
