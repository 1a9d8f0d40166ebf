import Derived.Test.YtchddaafibjmgaaGreatMD14
import Derived.Test.YtchddaafibjmgaaGreatME2
import Derived.Test.YtchddaafibjmgaaGreatMD9
import Derived.Test.YtchddaafibjmgaaGreatMD13
import Derived.Test.YtchddaafibjmgaaGreatMD10
set_option maxRecDepth 100000
set_option maxHeartbeats 20000000
namespace Go.Proofs.YtchddaafibjmgaaGreat
section
open Go.RowKit Go.Maps
def qao (v:Value) (l:List Bk) (b:Nat):Prop:=v.ownBlock=some b∨ ∃ x∈l,x.val.ownBlock=some b
section
variable {w w':World} {e le:TypeId} {s:Nat} {mark:Nat→List Value} {v:Value} {l:List Bk}
theorem BkAt.footLt (H:BkAt w e le s mark v l) {b:Nat} (h:qao v l b):b < w.heap.size:=by
 rcases h with h| ⟨x,hx,h⟩
 ·exact (H.row.lt b h).2
 ·obtain ⟨i,hi,rfl⟩:=List.getElem_of_mem hx
  exact ((H.full i hi).2.lt b h).2
theorem BkAt.type (H:BkAt w e le s mark v l) {b:Nat} (h:qao v l b): ∃ cur,w.heap[b]? =some (.cells cur le (0,0))∨w.heap[b]? =some (.cells cur e (0,0)):=by
 rcases h with h| ⟨x,hx,h⟩
 ·obtain ⟨cur,hc⟩:=qby H.row h
  exact ⟨cur,.inl hc⟩
 ·obtain ⟨i,hi,rfl⟩:=List.getElem_of_mem hx
  obtain ⟨cur,hc⟩:=qby (H.full i hi).2 h
  exact ⟨cur,.inr hc⟩
theorem BkAt.kept {F:Nat→Prop} (H:BkAt w e le s mark v l) (hk:Kept F w w') (hF: ∀ b,qao v l b→ ¬ F b):BkAt w' e le s mark v l:=
 ⟨hk.ownsRow H.row fun b hb=>hF b (.inl hb),fun i hi=>⟨(H.full i hi).1,hk.ownsRow (H.full i hi).2 fun b hb=>hF b (.inr ⟨_,List.getElem_mem hi,hb⟩)⟩,H.few⟩
theorem BkAt.more {w1 W3 W:World} {mk:List Value} {o:Option Nat} {l4:List Bk} {v':Value} {X:Nat} (H:BkAt w e le s mark v l) (hte:e≠le) (hs:mk.length=s) (ho: ∀ b,qao v l b→o≠some b)
  (hX: ∀ b,qao v l b→b≠X) (hXl:X < w.heap.size) (hoX:o≠some X)
  (k1:Kept (fun b=>o=some b) w w1) (M:MG e mk w1 o W3 l4) (k3:Kept (fun b=>v.ownBlock=some b) W3 W) (kX:Kept (fun b=>b=X) W w') (h4:l4.length=4) (hn: ∀ x∈l4,x.n≤1000)
  (hm: ∀ j,j < 4→mark (l.length+j)=mk) (hrow:W.ownsRow 0 le 1 v' (l.length+4) (l.map Bk.val++l4.map Bk.val)) (hv':v'.ownBlock=v.ownBlock∨ ∀ k,v'.ownBlock=some k→w.heap.size≤k) (hfew:l.length+4≤4000000000000000):
  BkAt w' e le s mark v' (l++l4)∧(∀ b,qao v' (l++l4) b→qao v l b∨o=some b∨w.heap.size≤b)∧Kept (fun b=>qao v l b∨o=some b∨b=X) w w':=by
 have s1:=k1.size
 have s3:=M.kept.size
 have s4:=k3.size
 have hv'X: ∀ b,v'.ownBlock=some b→ ¬ b=X:=fun b hb e=>by
  rcases hv' with h| h
  ·exact hX b (.inl (h▸hb)) e
  ·have:=h b hb;omega
 have hvo: ∀ b,v.ownBlock=some b→b < w.heap.size:=fun b hb=>H.footLt (.inl hb)
 have h4X: ∀ x∈l4,∀ b,x.val.ownBlock=some b→ ¬ b=X:=fun x hx b hb e=>by
  rcases M.own x hx b hb with h| h
  ·exact hoX (e▸h)
  ·omega
 have h4v: ∀ x∈l4,∀ b,x.val.ownBlock=some b→ ¬ v.ownBlock=some b:=fun x hx b hb e=>by
  rcases M.own x hx b hb with h| h
  ·exact ho b (.inl e) h
  ·have:=hvo b e;omega
 refine ⟨⟨?_,fun i hi=> ?_,by rw [List.length_append,h4];exact hfew⟩,fun b hb=> ?_,?_⟩
 ·rw [List.length_append,h4,List.map_append]
  exact kX.ownsRow hrow hv'X
 ·by_cases hlt:i < l.length
  ·rw [List.getElem_append_left hlt]
   obtain ⟨f1,f2⟩:=H.full i hlt
   refine ⟨f1,?_⟩
   have g1:=k1.ownsRow f2 fun b hb=>ho b (.inr ⟨_,List.getElem_mem hlt,hb⟩)
   have g2:=M.kept.ownsRow g1 fun b hb=>ho b (.inr ⟨_,List.getElem_mem hlt,hb⟩)
   have g3:=k3.ownsRow g2 fun b hb hv=>qce H.row f2 (Ne.symm hte) hv hb
   exact kX.ownsRow g3 fun b hb=>hX b (.inr ⟨_,List.getElem_mem hlt,hb⟩)
  ·rw [List.length_append,h4] at hi
   rw [List.getElem_append_right (by omega)]
   have hmem:l4[i - l.length]'(by omega)∈l4:=List.getElem_mem _
   have g2:=M.rows _ hmem
   rw [hs] at g2
   have hmi:mark i=mk:=by
    have:=hm (i - l.length) (by omega)
    rwa [show l.length+(i - l.length)=i from by omega] at this
   rw [hmi]
   refine ⟨hn _ hmem,?_⟩
   refine kX.ownsRow (k3.ownsRow g2 (h4v _ hmem)) (h4X _ hmem)
 ·rcases hb with hb| ⟨x,hx,hb⟩
  ·rcases hv' with h| h
   ·exact .inl (.inl (h▸hb))
   ·exact .inr (.inr (h b hb))
  ·rcases List.mem_append.1 hx with hx| hx
   ·exact .inl (.inr ⟨x,hx,hb⟩)
   ·rcases M.own x hx b hb with h| h
    ·exact .inr (.inl h)
    ·exact .inr (.inr (by omega))
 ·have q1:Kept (fun b=>qao v l b∨o=some b∨b=X) w w1:=k1.mono fun b _ h=> .inr (.inl h)
  have q2:=q1.trans M.kept fun b _ h=> .inr (.inl h)
  have q3:=q2.trans k3 fun b _ h=> .inl (.inl h)
  exact q3.trans kX fun b _ h=> .inr (.inr h)
end
theorem markI4 (c j:Nat) (hj:j < 4):markI (4 * c+j)= -1 - ((4 * c:Nat):Int):=by
 unfold markI
 have:(4 * c+j) / 4 * 4=4 * c:=by omega
 rw [this]
def qa7 (X:Nat) (v0 v1 v2 v3:Value) (l0 l1 l2 l3:List Bk) (b:Nat):Prop:=b=X∨qao v0 l0 b∨qao v1 l1 b∨qao v2 l2 b∨qao v3 l3 b
def Book (G:Nat→Prop) (w:World) (X c0 c1 c2 c3:Nat):Prop:=
 ∃ v0 v1 v2 v3 l0 l1 l2 l3,qf8 w X v0 v1 v2 v3 l0 l1 l2 l3∧(l0.length=4 * c0∧l1.length=4 * c1∧l2.length=4 * c2∧l3.length=4 * c3)∧ ∀ b,qa7 X v0 v1 v2 v3 l0 l1 l2 l3 b↔G b
theorem Book.lt {G:Nat→Prop} {w:World} {X c0 c1 c2 c3:Nat} (h:Book G w X c0 c1 c2 c3): ∀ b,G b→b < w.heap.size:=by
 obtain ⟨v0,v1,v2,v3,l0,l1,l2,l3,B,_,hG⟩:=h
 intro b hb
 rcases (hG b).2 hb with rfl| h| h| h| h
 ·exact qo B.box
 ·exact B.b0.footLt h
 ·exact B.b1.footLt h
 ·exact B.b2.footLt h
 ·exact B.b3.footLt h
theorem Book.x {G:Nat→Prop} {w:World} {X c0 c1 c2 c3:Nat} (h:Book G w X c0 c1 c2 c3):G X:=by
 obtain ⟨v0,v1,v2,v3,l0,l1,l2,l3,B,_,hG⟩:=h
 exact (hG X).1 (.inl rfl)
theorem Book.kept {F G:Nat→Prop} {w w':World} {X c0 c1 c2 c3:Nat} (h:Book G w X c0 c1 c2 c3) (hk:Kept F w w') (hF: ∀ b,G b→ ¬ F b):Book G w' X c0 c1 c2 c3:=by
 obtain ⟨v0,v1,v2,v3,l0,l1,l2,l3,B,hc,hG⟩:=h
 refine ⟨v0,v1,v2,v3,l0,l1,l2,l3,⟨by rw [hk.block X (qo B.box) (hF X ((hG X).1 (.inl rfl)))];exact B.box,B.b0.kept hk fun b h=>hF b ((hG b).1 (.inr (.inl h))),B.b1.kept hk fun b h=>hF b ((hG b).1 (.inr (.inr (.inl h)))),B.b2.kept hk fun b h=>hF b ((hG b).1 (.inr (.inr (.inr (.inl h))))),B.b3.kept hk fun b h=>hF b ((hG b).1 (.inr (.inr (.inr (.inr h)))))⟩,hc,hG⟩
theorem BkAt.apart {w:World} {e le e' le':TypeId} {s s':Nat} {mark mark':Nat→List Value} {v v':Value} {l l':List Bk} (H:BkAt w e le s mark v l) (H':BkAt w e' le' s' mark' v' l') (h1:e≠e') (h2:e≠le') (h3:le≠e') (h4:le≠le') {b:Nat} (h:qao v l b): ¬ qao v' l' b:=fun h'=>by
 obtain ⟨c,hc⟩:=H.type h
 obtain ⟨c',hc'⟩:=H'.type h'
 rcases hc with hc| hc<;>rcases hc' with hc'| hc'<;>rw [hc] at hc'<;>simp only [Option.some.injEq,Obj.cells.injEq] at hc'
 ·exact h4 hc'.2.1
 ·exact h3 hc'.2.1
 ·exact h2 hc'.2.1
 ·exact h1 hc'.2.1
theorem BkAt.notX {w:World} {e le t:TypeId} {s:Nat} {mark:Nat→List Value} {v:Value} {l:List Bk} {X:Nat} {cs:Array Value} (H:BkAt w e le s mark v l) (hX:w.heap[X]? =some (.cells cs t (0,0))) (h1:e≠t) (h2:le≠t) {b:Nat} (h:qao v l b):b≠X:=fun e'=>by
 subst e'
 obtain ⟨c,hc⟩:=H.type h
 rcases hc with hc| hc<;>rw [hX] at hc<;>simp only [Option.some.injEq,Obj.cells.injEq] at hc
 ·exact h2 hc.2.1.symm
 ·exact h1 hc.2.1.symm
theorem qf8.more0 {w w1 W3 W:World} {X c:Nat} {v0 v1 v2 v3:Value} {l0 l1 l2 l3 l4:List Bk} {o:Option Nat} {v':Value} (B:qf8 w X v0 v1 v2 v3 l0 l1 l2 l3) (hc:l0.length=4 * c) (ho: ∀ b,o=some b→ ¬ qa7 X v0 v1 v2 v3 l0 l1 l2 l3 b) (hcc:c≤1000000000000)
  (k1:Kept (fun b=>o=some b) w w1) (M:MG 88 (markR (4 * c)) w1 o W3 l4) (k3:Kept (fun b=>v0.ownBlock=some b) W3 W) (h4:l4.length=4) (hn: ∀ x∈l4,x.n≤1000)
  (hrow:W.ownsRow 0 86 1 v' (l0.length+4) (l0.map Bk.val++l4.map Bk.val)) (hv':v'.ownBlock=v0.ownBlock∨ ∀ k,v'.ownBlock=some k→w.heap.size≤k):
  qf8 (W.setCell ⟨X,0,none⟩ v') X v' v1 v2 v3 (l0++l4) l1 l2 l3∧Kept (fun b=>qa7 X v0 v1 v2 v3 l0 l1 l2 l3 b∨o=some b) w (W.setCell ⟨X,0,none⟩ v')∧ ∀ b,qa7 X v' v1 v2 v3 (l0++l4) l1 l2 l3 b→qa7 X v0 v1 v2 v3 l0 l1 l2 l3 b∨o=some b∨w.heap.size≤b:=by
 have lX:=qo B.box
 have oX:o≠some X:=fun h=>ho X h (.inl rfl)
 have x0: ∀ b,qao v0 l0 b→b≠X:=fun b h=>B.b0.notX B.box (by decide) (by decide) h
 have g0: ∀ b,qao v0 l0 b→qa7 X v0 v1 v2 v3 l0 l1 l2 l3 b:=fun b h=> .inr (.inl h)
 have x1: ∀ b,qao v1 l1 b→b≠X:=fun b h=>B.b1.notX B.box (by decide) (by decide) h
 have g1: ∀ b,qao v1 l1 b→qa7 X v0 v1 v2 v3 l0 l1 l2 l3 b:=fun b h=> .inr (.inr (.inl h))
 have x2: ∀ b,qao v2 l2 b→b≠X:=fun b h=>B.b2.notX B.box (by decide) (by decide) h
 have g2: ∀ b,qao v2 l2 b→qa7 X v0 v1 v2 v3 l0 l1 l2 l3 b:=fun b h=> .inr (.inr (.inr (.inl h)))
 have x3: ∀ b,qao v3 l3 b→b≠X:=fun b h=>B.b3.notX B.box (by decide) (by decide) h
 have g3: ∀ b,qao v3 l3 b→qa7 X v0 v1 v2 v3 l0 l1 l2 l3 b:=fun b h=> .inr (.inr (.inr (.inr h)))
 have kX:Kept (fun b=>b=X) W (W.setCell ⟨X,0,none⟩ v'):=(Kept.refl (fun b=>b=X) W).setCell (p:=⟨X,0,none⟩) (fun _=>rfl) v'
 obtain ⟨q1,q2,q3⟩:=B.b0.more (mk:=markR (4 * c)) (by decide) rfl (fun b h e=>ho b e (g0 b h)) x0 lX oX k1 M k3 kX h4 hn (fun j hj=>by rw [hc];unfold markR;rw [markI4 _ _ hj,show markI (4 * c)= -1 - ((4 * c:Nat):Int) from markI4 c 0 (by omega)]) hrow hv' (by rw [hc];omega)
 have bx:W.heap[X]? =some (.cells #[v0,v1,v2,v3] 37 (0,0)):=by
  rw [k3.block X (Nat.lt_of_lt_of_le lX (Nat.le_trans k1.size M.kept.size)) (fun h=>x0 X (.inl h) rfl),M.kept.block X (Nat.lt_of_lt_of_le lX k1.size) oX,k1.block X lX oX]
  exact B.box
 have f1: ∀ b,qao v1 l1 b→ ¬ (qao v0 l0 b∨o=some b∨b=X):=fun b h h'=>by
  rcases h' with h'| h'| h'
  ·exact B.b1.apart B.b0 (by decide) (by decide) (by decide) (by decide) h h'
  ·exact ho b h' (g1 b h)
  ·exact x1 b h h'
 have f2: ∀ b,qao v2 l2 b→ ¬ (qao v0 l0 b∨o=some b∨b=X):=fun b h h'=>by
  rcases h' with h'| h'| h'
  ·exact B.b2.apart B.b0 (by decide) (by decide) (by decide) (by decide) h h'
  ·exact ho b h' (g2 b h)
  ·exact x2 b h h'
 have f3: ∀ b,qao v3 l3 b→ ¬ (qao v0 l0 b∨o=some b∨b=X):=fun b h h'=>by
  rcases h' with h'| h'| h'
  ·exact B.b3.apart B.b0 (by decide) (by decide) (by decide) (by decide) h h'
  ·exact ho b h' (g3 b h)
  ·exact x3 b h h'
 refine ⟨⟨qs bx (i:=0) v',q1,B.b1.kept q3 f1,B.b2.kept q3 f2,B.b3.kept q3 f3⟩,q3.mono fun b _ h=> ?_,fun b h=> ?_⟩
 ·rcases h with h| h| h
  ·exact .inl (g0 b h)
  ·exact .inr h
  ·exact .inl (.inl h)
 ·rcases h with h| h| h| h| h
  ·exact .inl (.inl h)
  ·exact (q2 b h).imp (g0 b) id
  ·exact .inl (g1 b h)
  ·exact .inl (g2 b h)
  ·exact .inl (g3 b h)
theorem qf8.more1 {w w1 W3 W:World} {X c:Nat} {v0 v1 v2 v3:Value} {l0 l1 l2 l3 l4:List Bk} {o:Option Nat} {v':Value} (B:qf8 w X v0 v1 v2 v3 l0 l1 l2 l3) (hc:l1.length=4 * c) (ho: ∀ b,o=some b→ ¬ qa7 X v0 v1 v2 v3 l0 l1 l2 l3 b) (hcc:c≤1000000000000)
  (k1:Kept (fun b=>o=some b) w w1) (M:MG 91 (markU (4 * c)) w1 o W3 l4) (k3:Kept (fun b=>v1.ownBlock=some b) W3 W) (h4:l4.length=4) (hn: ∀ x∈l4,x.n≤1000)
  (hrow:W.ownsRow 0 89 1 v' (l1.length+4) (l1.map Bk.val++l4.map Bk.val)) (hv':v'.ownBlock=v1.ownBlock∨ ∀ k,v'.ownBlock=some k→w.heap.size≤k):
  qf8 (W.setCell ⟨X,1,none⟩ v') X v0 v' v2 v3 l0 (l1++l4) l2 l3∧Kept (fun b=>qa7 X v0 v1 v2 v3 l0 l1 l2 l3 b∨o=some b) w (W.setCell ⟨X,1,none⟩ v')∧ ∀ b,qa7 X v0 v' v2 v3 l0 (l1++l4) l2 l3 b→qa7 X v0 v1 v2 v3 l0 l1 l2 l3 b∨o=some b∨w.heap.size≤b:=by
 have lX:=qo B.box
 have oX:o≠some X:=fun h=>ho X h (.inl rfl)
 have x0: ∀ b,qao v0 l0 b→b≠X:=fun b h=>B.b0.notX B.box (by decide) (by decide) h
 have g0: ∀ b,qao v0 l0 b→qa7 X v0 v1 v2 v3 l0 l1 l2 l3 b:=fun b h=> .inr (.inl h)
 have x1: ∀ b,qao v1 l1 b→b≠X:=fun b h=>B.b1.notX B.box (by decide) (by decide) h
 have g1: ∀ b,qao v1 l1 b→qa7 X v0 v1 v2 v3 l0 l1 l2 l3 b:=fun b h=> .inr (.inr (.inl h))
 have x2: ∀ b,qao v2 l2 b→b≠X:=fun b h=>B.b2.notX B.box (by decide) (by decide) h
 have g2: ∀ b,qao v2 l2 b→qa7 X v0 v1 v2 v3 l0 l1 l2 l3 b:=fun b h=> .inr (.inr (.inr (.inl h)))
 have x3: ∀ b,qao v3 l3 b→b≠X:=fun b h=>B.b3.notX B.box (by decide) (by decide) h
 have g3: ∀ b,qao v3 l3 b→qa7 X v0 v1 v2 v3 l0 l1 l2 l3 b:=fun b h=> .inr (.inr (.inr (.inr h)))
 have kX:Kept (fun b=>b=X) W (W.setCell ⟨X,1,none⟩ v'):=(Kept.refl (fun b=>b=X) W).setCell (p:=⟨X,1,none⟩) (fun _=>rfl) v'
 obtain ⟨q1,q2,q3⟩:=B.b1.more (mk:=markU (4 * c)) (by decide) rfl (fun b h e=>ho b e (g1 b h)) x1 lX oX k1 M k3 kX h4 hn (fun j hj=>by rw [hc];unfold markU;rw [markI4 _ _ hj,show markI (4 * c)= -1 - ((4 * c:Nat):Int) from markI4 c 0 (by omega)]) hrow hv' (by rw [hc];omega)
 have bx:W.heap[X]? =some (.cells #[v0,v1,v2,v3] 37 (0,0)):=by
  rw [k3.block X (Nat.lt_of_lt_of_le lX (Nat.le_trans k1.size M.kept.size)) (fun h=>x1 X (.inl h) rfl),M.kept.block X (Nat.lt_of_lt_of_le lX k1.size) oX,k1.block X lX oX]
  exact B.box
 have f0: ∀ b,qao v0 l0 b→ ¬ (qao v1 l1 b∨o=some b∨b=X):=fun b h h'=>by
  rcases h' with h'| h'| h'
  ·exact B.b0.apart B.b1 (by decide) (by decide) (by decide) (by decide) h h'
  ·exact ho b h' (g0 b h)
  ·exact x0 b h h'
 have f2: ∀ b,qao v2 l2 b→ ¬ (qao v1 l1 b∨o=some b∨b=X):=fun b h h'=>by
  rcases h' with h'| h'| h'
  ·exact B.b2.apart B.b1 (by decide) (by decide) (by decide) (by decide) h h'
  ·exact ho b h' (g2 b h)
  ·exact x2 b h h'
 have f3: ∀ b,qao v3 l3 b→ ¬ (qao v1 l1 b∨o=some b∨b=X):=fun b h h'=>by
  rcases h' with h'| h'| h'
  ·exact B.b3.apart B.b1 (by decide) (by decide) (by decide) (by decide) h h'
  ·exact ho b h' (g3 b h)
  ·exact x3 b h h'
 refine ⟨⟨qs bx (i:=1) v',B.b0.kept q3 f0,q1,B.b2.kept q3 f2,B.b3.kept q3 f3⟩,q3.mono fun b _ h=> ?_,fun b h=> ?_⟩
 ·rcases h with h| h| h
  ·exact .inl (g1 b h)
  ·exact .inr h
  ·exact .inl (.inl h)
 ·rcases h with h| h| h| h| h
  ·exact .inl (.inl h)
  ·exact .inl (g0 b h)
  ·exact (q2 b h).imp (g1 b) id
  ·exact .inl (g2 b h)
  ·exact .inl (g3 b h)
theorem qf8.more2 {w w1 W3 W:World} {X c:Nat} {v0 v1 v2 v3:Value} {l0 l1 l2 l3 l4:List Bk} {o:Option Nat} {v':Value} (B:qf8 w X v0 v1 v2 v3 l0 l1 l2 l3) (hc:l2.length=4 * c) (ho: ∀ b,o=some b→ ¬ qa7 X v0 v1 v2 v3 l0 l1 l2 l3 b) (hcc:c≤1000000000000)
  (k1:Kept (fun b=>o=some b) w w1) (M:MG 94 (markL (4 * c)) w1 o W3 l4) (k3:Kept (fun b=>v2.ownBlock=some b) W3 W) (h4:l4.length=4) (hn: ∀ x∈l4,x.n≤1000)
  (hrow:W.ownsRow 0 92 1 v' (l2.length+4) (l2.map Bk.val++l4.map Bk.val)) (hv':v'.ownBlock=v2.ownBlock∨ ∀ k,v'.ownBlock=some k→w.heap.size≤k):
  qf8 (W.setCell ⟨X,2,none⟩ v') X v0 v1 v' v3 l0 l1 (l2++l4) l3∧Kept (fun b=>qa7 X v0 v1 v2 v3 l0 l1 l2 l3 b∨o=some b) w (W.setCell ⟨X,2,none⟩ v')∧ ∀ b,qa7 X v0 v1 v' v3 l0 l1 (l2++l4) l3 b→qa7 X v0 v1 v2 v3 l0 l1 l2 l3 b∨o=some b∨w.heap.size≤b:=by
 have lX:=qo B.box
 have oX:o≠some X:=fun h=>ho X h (.inl rfl)
 have x0: ∀ b,qao v0 l0 b→b≠X:=fun b h=>B.b0.notX B.box (by decide) (by decide) h
 have g0: ∀ b,qao v0 l0 b→qa7 X v0 v1 v2 v3 l0 l1 l2 l3 b:=fun b h=> .inr (.inl h)
 have x1: ∀ b,qao v1 l1 b→b≠X:=fun b h=>B.b1.notX B.box (by decide) (by decide) h
 have g1: ∀ b,qao v1 l1 b→qa7 X v0 v1 v2 v3 l0 l1 l2 l3 b:=fun b h=> .inr (.inr (.inl h))
 have x2: ∀ b,qao v2 l2 b→b≠X:=fun b h=>B.b2.notX B.box (by decide) (by decide) h
 have g2: ∀ b,qao v2 l2 b→qa7 X v0 v1 v2 v3 l0 l1 l2 l3 b:=fun b h=> .inr (.inr (.inr (.inl h)))
 have x3: ∀ b,qao v3 l3 b→b≠X:=fun b h=>B.b3.notX B.box (by decide) (by decide) h
 have g3: ∀ b,qao v3 l3 b→qa7 X v0 v1 v2 v3 l0 l1 l2 l3 b:=fun b h=> .inr (.inr (.inr (.inr h)))
 have kX:Kept (fun b=>b=X) W (W.setCell ⟨X,2,none⟩ v'):=(Kept.refl (fun b=>b=X) W).setCell (p:=⟨X,2,none⟩) (fun _=>rfl) v'
 obtain ⟨q1,q2,q3⟩:=B.b2.more (mk:=markL (4 * c)) (by decide) rfl (fun b h e=>ho b e (g2 b h)) x2 lX oX k1 M k3 kX h4 hn (fun j hj=>by rw [hc];unfold markL;rw [markI4 _ _ hj,show markI (4 * c)= -1 - ((4 * c:Nat):Int) from markI4 c 0 (by omega)]) hrow hv' (by rw [hc];omega)
 have bx:W.heap[X]? =some (.cells #[v0,v1,v2,v3] 37 (0,0)):=by
  rw [k3.block X (Nat.lt_of_lt_of_le lX (Nat.le_trans k1.size M.kept.size)) (fun h=>x2 X (.inl h) rfl),M.kept.block X (Nat.lt_of_lt_of_le lX k1.size) oX,k1.block X lX oX]
  exact B.box
 have f0: ∀ b,qao v0 l0 b→ ¬ (qao v2 l2 b∨o=some b∨b=X):=fun b h h'=>by
  rcases h' with h'| h'| h'
  ·exact B.b0.apart B.b2 (by decide) (by decide) (by decide) (by decide) h h'
  ·exact ho b h' (g0 b h)
  ·exact x0 b h h'
 have f1: ∀ b,qao v1 l1 b→ ¬ (qao v2 l2 b∨o=some b∨b=X):=fun b h h'=>by
  rcases h' with h'| h'| h'
  ·exact B.b1.apart B.b2 (by decide) (by decide) (by decide) (by decide) h h'
  ·exact ho b h' (g1 b h)
  ·exact x1 b h h'
 have f3: ∀ b,qao v3 l3 b→ ¬ (qao v2 l2 b∨o=some b∨b=X):=fun b h h'=>by
  rcases h' with h'| h'| h'
  ·exact B.b3.apart B.b2 (by decide) (by decide) (by decide) (by decide) h h'
  ·exact ho b h' (g3 b h)
  ·exact x3 b h h'
 refine ⟨⟨qs bx (i:=2) v',B.b0.kept q3 f0,B.b1.kept q3 f1,q1,B.b3.kept q3 f3⟩,q3.mono fun b _ h=> ?_,fun b h=> ?_⟩
 ·rcases h with h| h| h
  ·exact .inl (g2 b h)
  ·exact .inr h
  ·exact .inl (.inl h)
 ·rcases h with h| h| h| h| h
  ·exact .inl (.inl h)
  ·exact .inl (g0 b h)
  ·exact .inl (g1 b h)
  ·exact (q2 b h).imp (g2 b) id
  ·exact .inl (g3 b h)
theorem qf8.more3 {w w1 W3 W:World} {X c:Nat} {v0 v1 v2 v3:Value} {l0 l1 l2 l3 l4:List Bk} {o:Option Nat} {v':Value} (B:qf8 w X v0 v1 v2 v3 l0 l1 l2 l3) (hc:l3.length=4 * c) (ho: ∀ b,o=some b→ ¬ qa7 X v0 v1 v2 v3 l0 l1 l2 l3 b) (hcc:c≤1000000000000)
  (k1:Kept (fun b=>o=some b) w w1) (M:MG 97 (markP (4 * c)) w1 o W3 l4) (k3:Kept (fun b=>v3.ownBlock=some b) W3 W) (h4:l4.length=4) (hn: ∀ x∈l4,x.n≤1000)
  (hrow:W.ownsRow 0 95 1 v' (l3.length+4) (l3.map Bk.val++l4.map Bk.val)) (hv':v'.ownBlock=v3.ownBlock∨ ∀ k,v'.ownBlock=some k→w.heap.size≤k):
  qf8 (W.setCell ⟨X,3,none⟩ v') X v0 v1 v2 v' l0 l1 l2 (l3++l4)∧Kept (fun b=>qa7 X v0 v1 v2 v3 l0 l1 l2 l3 b∨o=some b) w (W.setCell ⟨X,3,none⟩ v')∧ ∀ b,qa7 X v0 v1 v2 v' l0 l1 l2 (l3++l4) b→qa7 X v0 v1 v2 v3 l0 l1 l2 l3 b∨o=some b∨w.heap.size≤b:=by
 have lX:=qo B.box
 have oX:o≠some X:=fun h=>ho X h (.inl rfl)
 have x0: ∀ b,qao v0 l0 b→b≠X:=fun b h=>B.b0.notX B.box (by decide) (by decide) h
 have g0: ∀ b,qao v0 l0 b→qa7 X v0 v1 v2 v3 l0 l1 l2 l3 b:=fun b h=> .inr (.inl h)
 have x1: ∀ b,qao v1 l1 b→b≠X:=fun b h=>B.b1.notX B.box (by decide) (by decide) h
 have g1: ∀ b,qao v1 l1 b→qa7 X v0 v1 v2 v3 l0 l1 l2 l3 b:=fun b h=> .inr (.inr (.inl h))
 have x2: ∀ b,qao v2 l2 b→b≠X:=fun b h=>B.b2.notX B.box (by decide) (by decide) h
 have g2: ∀ b,qao v2 l2 b→qa7 X v0 v1 v2 v3 l0 l1 l2 l3 b:=fun b h=> .inr (.inr (.inr (.inl h)))
 have x3: ∀ b,qao v3 l3 b→b≠X:=fun b h=>B.b3.notX B.box (by decide) (by decide) h
 have g3: ∀ b,qao v3 l3 b→qa7 X v0 v1 v2 v3 l0 l1 l2 l3 b:=fun b h=> .inr (.inr (.inr (.inr h)))
 have kX:Kept (fun b=>b=X) W (W.setCell ⟨X,3,none⟩ v'):=(Kept.refl (fun b=>b=X) W).setCell (p:=⟨X,3,none⟩) (fun _=>rfl) v'
 obtain ⟨q1,q2,q3⟩:=B.b3.more (mk:=markP (4 * c)) (by decide) rfl (fun b h e=>ho b e (g3 b h)) x3 lX oX k1 M k3 kX h4 hn (fun j hj=>by rw [hc];unfold markP;rw [markI4 _ _ hj,show markI (4 * c)= -1 - ((4 * c:Nat):Int) from markI4 c 0 (by omega)]) hrow hv' (by rw [hc];omega)
 have bx:W.heap[X]? =some (.cells #[v0,v1,v2,v3] 37 (0,0)):=by
  rw [k3.block X (Nat.lt_of_lt_of_le lX (Nat.le_trans k1.size M.kept.size)) (fun h=>x3 X (.inl h) rfl),M.kept.block X (Nat.lt_of_lt_of_le lX k1.size) oX,k1.block X lX oX]
  exact B.box
 have f0: ∀ b,qao v0 l0 b→ ¬ (qao v3 l3 b∨o=some b∨b=X):=fun b h h'=>by
  rcases h' with h'| h'| h'
  ·exact B.b0.apart B.b3 (by decide) (by decide) (by decide) (by decide) h h'
  ·exact ho b h' (g0 b h)
  ·exact x0 b h h'
 have f1: ∀ b,qao v1 l1 b→ ¬ (qao v3 l3 b∨o=some b∨b=X):=fun b h h'=>by
  rcases h' with h'| h'| h'
  ·exact B.b1.apart B.b3 (by decide) (by decide) (by decide) (by decide) h h'
  ·exact ho b h' (g1 b h)
  ·exact x1 b h h'
 have f2: ∀ b,qao v2 l2 b→ ¬ (qao v3 l3 b∨o=some b∨b=X):=fun b h h'=>by
  rcases h' with h'| h'| h'
  ·exact B.b2.apart B.b3 (by decide) (by decide) (by decide) (by decide) h h'
  ·exact ho b h' (g2 b h)
  ·exact x2 b h h'
 refine ⟨⟨qs bx (i:=3) v',B.b0.kept q3 f0,B.b1.kept q3 f1,B.b2.kept q3 f2,q1⟩,q3.mono fun b _ h=> ?_,fun b h=> ?_⟩
 ·rcases h with h| h| h
  ·exact .inl (g3 b h)
  ·exact .inr h
  ·exact .inl (.inl h)
 ·rcases h with h| h| h| h| h
  ·exact .inl (.inl h)
  ·exact .inl (g0 b h)
  ·exact .inl (g1 b h)
  ·exact .inl (g2 b h)
  ·exact (q2 b h).imp (g3 b) id
end
section
open Go.RowKit Go.Maps
theorem markI_len {l:List Bk} {c:Nat} (h:l.length=4 * c): -1 - ((l.length:Nat):Int)=markI (4 * c):=by
 rw [h]
 exact (markI4 c 0 (by omega)).symm
theorem keepReasons_any {G:Nat→Prop} {w:World} {X c0 c1 c2 c3:Nat} (h:Book G w X c0 c1 c2 c3) {oo:Option Addr} {n oc:Nat} {ys:List Value} (R:w.ownsRow 0 88 2 (.slice oo n oc) n ys) (hn:n≤990) (hR: ∀ b,(Value.slice oo n oc).ownBlock=some b→ ¬ G b) (hc:c0≤1000000000000):
  Calls Tryz.prog 56 #[.pointer (some ⟨X,0,none⟩),.slice oo n oc] w fun e w'=>e= .returned (.tuple #[])∧ ∃ G',Book G' w' X (c0+1) c1 c2 c3∧Kept (fun b=>G b∨(Value.slice oo n oc).ownBlock=some b) w w'∧ ∀ b,G' b→G b∨(Value.slice oo n oc).ownBlock=some b∨w.heap.size≤b:=by
 obtain ⟨v0,v1,v2,v3,l0,l1,l2,l3,B,hl,hG⟩:=h
 obtain ⟨a0,k0,rfl⟩:=qv B.b0.row
 refine (keepReasons_raw w X l0.length a0 k0 v1 v2 v3 (l0.map Bk.val) ys B.box B.b0.row (by rw [hl.1];omega) oo n oc R hn).mono ?_
 rintro e w' ⟨rfl,w1,W3,W,ao,cp,l,rfl,k1,M,k3,h4,hn',hrow,hv⟩
 rw [markI_len hl.1] at M
 obtain ⟨q1,q2,q3⟩:=B.more0 hl.1 (fun b hb hf=>hR b hb ((hG b).1 hf)) hc k1 M k3 h4 (fun x hx=>by have:=hn' x hx;omega) hrow hv
 exact ⟨rfl,_,⟨_,v1,v2,v3,l0++l,l1,l2,l3,q1,⟨by rw [List.length_append,h4,hl.1];omega,hl.2.1,hl.2.2.1,hl.2.2.2⟩,fun b=>Iff.rfl⟩,q2.mono fun b _ h=>h.imp (hG b).1 id,fun b hb=>(q3 b hb).imp (hG b).1 id⟩
theorem keepState_any {G:Nat→Prop} {w:World} {X c0 c1 c2 c3:Nat} (h:Book G w X c0 c1 c2 c3) {o1 o2:Option Addr} {n1 q1 n2 q2:Nat} {ys1 ys2:List Value} (R1:w.ownsRow 0 91 5 (.slice o1 n1 q1) n1 ys1) (R2:w.ownsRow 0 94 4 (.slice o2 n2 q2) n2 ys2) (hn1:n1≤990) (hn2:n2≤990)
  (hR1: ∀ b,(Value.slice o1 n1 q1).ownBlock=some b→ ¬ G b) (hR2: ∀ b,(Value.slice o2 n2 q2).ownBlock=some b→ ¬ G b) (hc1:c1≤1000000000000) (hc2:c2≤1000000000000) (tm wt:Int):
  Calls Tryz.prog 36 #[.pointer (some ⟨X,0,none⟩),.agg #[.int .i64 tm,.slice o1 n1 q1,.slice o2 n2 q2,.int .i64 wt]] w fun e w'=>e= .returned (.tuple #[])∧ ∃ G',Book G' w' X c0 (c1+1) (c2+1) c3∧
   Kept (fun b=>G b∨(Value.slice o1 n1 q1).ownBlock=some b∨(Value.slice o2 n2 q2).ownBlock=some b) w w'∧ ∀ b,G' b→G b∨(Value.slice o1 n1 q1).ownBlock=some b∨(Value.slice o2 n2 q2).ownBlock=some b∨w.heap.size≤b:=by
 obtain ⟨v0,v1,v2,v3,l0,l1,l2,l3,B,hl,hG⟩:=h
 obtain ⟨a1,k1,rfl⟩:=qv B.b1.row
 obtain ⟨a2,k2,rfl⟩:=qv B.b2.row
 refine (keepState_raw w X l1.length l2.length a1 a2 k1 k2 v0 v3 (l1.map Bk.val) (l2.map Bk.val) ys1 ys2 B.box B.b1.row B.b2.row (by rw [hl.2.1];omega) (by rw [hl.2.2.1];omega) o1 n1 q1 R1 hn1 o2 n2 q2 R2 hn2 tm wt).mono ?_
 rintro e w' ⟨rfl,wm,⟨w1,W3,W,ao,cp,l,rfl,k1',M,k3,h4,hn',hrow,hv⟩,⟨u1,U3,U,bo,bp,lb,rfl,j1,M',j3,h4',hn'',hrow',hv'⟩⟩
 rw [markI_len hl.2.1] at M
 rw [markI_len hl.2.2.1] at M'
 obtain ⟨p1,p2,p3⟩:=B.more1 hl.2.1 (fun b hb hf=>hR1 b hb ((hG b).1 hf)) hc1 k1' M k3 h4 (fun x hx=>by have:=hn' x hx;omega) hrow hv
 obtain ⟨r1,r2,r3⟩:=p1.more2 hl.2.2.1 (fun b hb hf=>by
  rcases p3 b hf with h| h| h
  ·exact hR2 b hb ((hG b).1 h)
  ·exact qce R2 R1 (by decide) hb h
  ·have:=(R2.lt b hb).2;omega) hc2 j1 M' j3 h4' (fun x hx=>by have:=hn'' x hx;omega) hrow' hv'
 have hs:=p2.size
 refine ⟨rfl,_,⟨v0,_,_,v3,l0,l1++l,l2++lb,l3,r1,⟨hl.1,by rw [List.length_append,h4,hl.2.1];omega,by rw [List.length_append,h4',hl.2.2.1];omega,hl.2.2.2⟩,fun b=>Iff.rfl⟩,(p2.mono fun b _ h=> ?_).trans r2 fun b hb h=> ?_,fun b hb=> ?_⟩
 ·rcases h with h| h
  ·exact .inl ((hG b).1 h)
  ·exact .inr (.inl h)
 ·rcases h with h| h
  ·rcases p3 b h with h| h| h
   ·exact .inl ((hG b).1 h)
   ·exact .inr (.inl h)
   ·omega
  ·exact .inr (.inr h)
 ·rcases r3 b hb with h| h| h
  ·rcases p3 b h with h| h| h
   ·exact .inl ((hG b).1 h)
   ·exact .inr (.inl h)
   ·exact .inr (.inr (.inr h))
  ·exact .inr (.inr (.inl h))
  ·exact .inr (.inr (.inr (by omega)))
end
section
open Go.RowKit
def RefD.tally (st:RefD):Nat:=st.touched.length+st.pods.length+2 * st.waiting.length
def RefD.waits (C:Nat→Prop) (w:World) (st:RefD):Prop:= ∀ p∈st.waiting,p.ok w∧ ∀ x∈p.lists,x.inC C
theorem RefD.waits.of {C:Nat→Prop} {w:World} {st st':RefD} (h:st.waits C w) (e:st'.waiting=st.waiting):st'.waits C w:=fun p hp=>h p (e▸hp)
theorem RefD.waits.kept {C G:Nat→Prop} {w w':World} {st:RefD} (h:st.waits C w) (hk:Kept G w w') (hC: ∀ b,C b→ ¬ G b):st.waits C w':=fun p hp=>⟨(h p hp).1.kept (h p hp).2 hk hC,(h p hp).2⟩
theorem tally_lay (st:RefD) (x:qax):(st.lay x).tally=st.tally+2:=by
 unfold RefD.tally RefD.lay
 dsimp only
 rw [qhi,List.length_append]
 simp<;>omega
theorem tally_leave {st:RefD} {i:Nat} {x:qax} (h:st.pods[i]? =some x):(st.leave i x).tally=st.tally:=by
 obtain ⟨hi,_⟩:=List.getElem?_eq_some_iff.1 h
 unfold RefD.tally RefD.leave
 dsimp only
 rw [List.length_append,List.length_eraseIdx,if_pos hi]
 simp<;>omega
theorem tally_put (st:RefD) (n:qu):(st.putNode n).2.tally≤st.tally+2:=by
 unfold RefD.putNode
 split
 ·dsimp only;omega
 ·split
  ·unfold RefD.tally;simp<;>omega
  ·split
   ·dsimp only;omega
   ·unfold RefD.tally;simp<;>omega
theorem tally_dropNode (st:RefD) (s:ByteArray):(st.dropNode s).2.tally≤st.tally+2:=by
 unfold RefD.dropNode
 split
 ·dsimp only;omega
 ·unfold RefD.tally
  dsimp only
  have h1:=List.length_filter_le (fun x:qax=> !(x.node.toList==s.toList)) st.pods
  have h2:=List.length_filter_le (fun t:ByteArray=> !(t.toList==s.toList)) st.touched
  omega
theorem tally_bind (st:RefD) (p:PodD) (node:ByteArray):(st.bind p node).2.tally≤st.tally+2:=by
 unfold RefD.bind
 split
 ·dsimp only;omega
 ·split
  ·dsimp only;omega
  ·split
   ·dsimp only;omega
   ·exact Nat.le_of_eq (tally_lay _ _)
theorem tally_drop (st:RefD) (s:ByteArray):(st.drop s).2.tally≤st.tally+2:=by
 unfold RefD.drop
 split
 ·dsimp only;omega
 ·split
  ·dsimp only;omega
  ·rename_i h
   dsimp only
   rw [tally_leave h]
   omega
theorem tally_confirm (st:RefD) (s:ByteArray):(st.confirm s).2.tally≤st.tally+2:=by
 unfold RefD.confirm
 split
 ·dsimp only;omega
 ·split
  ·dsimp only;omega
  ·split
   ·dsimp only;omega
   ·unfold RefD.tally;simp<;>omega
theorem tally_tickStep (st:RefD) (k:Nat):(st.tickStep k).tally=st.tally:=by
 unfold RefD.tickStep
 split
 ·rename_i h
  split
  ·exact tally_leave h
  ·rfl
 ·rfl
theorem tally_tickTo (st:RefD) (n:Nat): ∀ j,(RefD.tickTo st n j).tally=st.tally
 | 0=>rfl
 | j+1=>by
  show ((RefD.tickTo st n j).tickStep _).tally=_
  rw [tally_tickStep,tally_tickTo st n j]
theorem tally_tick (st:RefD) (n:Int):(st.tick n).2.tally≤st.tally+2:=by
 unfold RefD.tick
 split
 ·dsimp only;omega
 ·dsimp only
  rw [tally_tickTo]
  unfold RefD.tally
  dsimp only
  omega
theorem tally_fresh (st:RefD):st.fresh.2.tally≤st.tally:=by
 unfold RefD.fresh RefD.tally
 simp<;>omega
theorem tally_sched (st:RefD) (p:PodD):(st.sched p).2.tally≤st.tally+2:=by
 unfold RefD.sched
 split
 ·dsimp only;omega
 ·split
  ·dsimp only;omega
  ·have hf:=tally_fresh st
   unfold RefD.schedIn
   split
   split
   ·dsimp only;omega
   ·dsimp only
    rw [tally_lay]
    omega
theorem wait_put (st:RefD) (n:qu):(st.putNode n).2.waiting=st.waiting:=by
 unfold RefD.putNode
 repeat' split
 all_goals rfl
theorem wait_dropN (st:RefD) (s:ByteArray):(st.dropNode s).2.waiting=st.waiting:=by
 unfold RefD.dropNode
 split<;>rfl
theorem wait_bind (st:RefD) (p:PodD) (s:ByteArray):(st.bind p s).2.waiting=st.waiting:=by
 unfold RefD.bind
 repeat' split
 all_goals rfl
theorem wait_drop (st:RefD) (s:ByteArray):(st.drop s).2.waiting=st.waiting:=by
 unfold RefD.drop
 repeat' split
 all_goals rfl
theorem wait_confirm (st:RefD) (s:ByteArray):(st.confirm s).2.waiting=st.waiting:=by
 unfold RefD.confirm
 repeat' split
 all_goals rfl
theorem wait_tickStep (st:RefD) (k:Nat):(st.tickStep k).waiting=st.waiting:=by
 unfold RefD.tickStep
 repeat' split
 all_goals rfl
theorem wait_tickTo (st:RefD) (n:Nat): ∀ j,(RefD.tickTo st n j).waiting=st.waiting
 | 0=>rfl
 | j+1=>by
  show ((RefD.tickTo st n j).tickStep _).waiting=_
  rw [wait_tickStep,wait_tickTo st n j]
theorem wait_tick (st:RefD) (n:Int):(st.tick n).2.waiting=st.waiting:=by
 unfold RefD.tick
 split
 ·rfl
 ·exact wait_tickTo _ _ _
theorem qho (st:RefD) (p:PodD):(st.sched p).2.waiting=st.waiting:=by
 have hf:st.fresh.2.waiting=st.waiting:=rfl
 unfold RefD.sched
 split
 ·rfl
 ·split
  ·rfl
  ·unfold RefD.schedIn
   split
   split
   ·exact hf
   ·unfold RefD.lay
    (repeat' split)<;>exact hf
end
section
open Go.RowKit Go.Maps
structure qas (C:Nat→Prop) (w:World) (Zp Yp Yr Lp X:Nat) (F P:Nat→Prop) (v4 v5 v6 v7:Value) (a:Abs) (st:RefD) (its:List Item):Prop where
 box:w.heap[Zp]? =some (.cells #[.pointer (some ⟨Yp,0,none⟩),.pointer (some ⟨Yr,0,none⟩),.pointer (some ⟨Lp,0,none⟩),.pointer (some ⟨X,0,none⟩)] 53 (0,0))
 bst:BSt F w Yp a
 ref:qbc w Yr st v4 v5 v6 v7
 lent:qe3 C P w Lp its
 sound:st.sound C w
 pl: ∀ b,P b→b < w.heap.size
 cl: ∀ b,C b→b < w.heap.size
 zf: ¬ F Zp
 zr: ¬ qau Yr v4 v5 v6 v7 Zp
 zp: ¬ P Zp
 fr: ∀ b,F b→ ¬ qau Yr v4 v5 v6 v7 b
 fp: ∀ b,F b→ ¬ P b
 rp: ∀ b,qau Yr v4 v5 v6 v7 b→ ¬ P b
 cz: ¬ C Zp
 cf: ∀ b,C b→ ¬ F b
 cr: ∀ b,C b→ ¬ qau Yr v4 v5 v6 v7 b
 cp: ∀ b,C b→ ¬ P b
 wt:st.waits C w
def qx (Zp:Nat) (F:Nat→Prop) (Yr:Nat) (v4 v5 v6 v7:Value) (P:Nat→Prop) (b:Nat):Prop:=b=Zp∨F b∨qau Yr v4 v5 v6 v7 b∨P b
def qaw (D D':Nat→Prop) (w w':World):Prop:=Kept D w w'∧ ∀ b,D' b→D b∨w.heap.size≤b
theorem qaw.refl (D:Nat→Prop) (w:World):qaw D D w w:=⟨Kept.refl _ _,fun _ h=> .inl h⟩
theorem qaw.trans {D D1 D2:Nat→Prop} {w w1 w2:World} (h1:qaw D D1 w w1) (h2:qaw D1 D2 w1 w2):qaw D D2 w w2:=by
 refine ⟨h1.1.trans h2.1 fun i hi h=>(h1.2 i h).elim id fun h=>by omega,fun b hb=> ?_⟩
 rcases h2.2 b hb with h| h
 ·exact h1.2 b h
 ·exact .inr (Nat.le_trans h1.1.size h)
theorem qaw.drew {D D':Nat→Prop} {w w':World} (h:qaw D D' w w'):qaw D D' w w'.drew:=⟨h.1.drew,h.2⟩
theorem qaw.below {D:Nat→Prop} {w w':World} (h:Below w.heap.size w w'):qaw D D w w':=⟨Kept.of_below h,fun _ h=> .inl h⟩
section
variable {C:Nat→Prop} {w w':World} {Zp Yp Yr Lp X:Nat} {F P:Nat→Prop} {v4 v5 v6 v7:Value} {a:Abs} {st:RefD} {its:List Item}
theorem qas.lt (H:qas C w Zp Yp Yr Lp X F P v4 v5 v6 v7 a st its) {b:Nat} (h:qx Zp F Yr v4 v5 v6 v7 P b):b < w.heap.size:=by
 rcases h with rfl| h| h| h
 ·exact qo H.box
 ·exact H.bst.lt b h
 ·exact H.ref.footLt h
 ·exact H.pl b h
theorem qas.foot (H:qas C w Zp Yp Yr Lp X F P v4 v5 v6 v7 a st its) {b:Nat} (h:C b): ¬ qx Zp F Yr v4 v5 v6 v7 P b:=by
 rintro (rfl| h'| h'| h')
 ·exact H.cz h
 ·exact H.cf b h h'
 ·exact H.cr b h h'
 ·exact H.cp b h h'
theorem qas.kept {G:Nat→Prop} (H:qas C w Zp Yp Yr Lp X F P v4 v5 v6 v7 a st its) (hk:Kept G w w') (hG: ∀ b,qx Zp F Yr v4 v5 v6 v7 P b→ ¬ G b) (hC: ∀ b,C b→ ¬ G b):qas C w' Zp Yp Yr Lp X F P v4 v5 v6 v7 a st its:=
 ⟨by rw [hk.block Zp (qo H.box) (hG Zp (.inl rfl))];exact H.box,H.bst.kept hk fun b h=>hG b (.inr (.inl h)),H.ref.kept hk fun b h=>hG b (.inr (.inr (.inl h))),H.lent.kept hk (fun b h=>hG b (.inr (.inr (.inr h)))) hC,H.sound.kept hk hC,
  fun b h=>Nat.lt_of_lt_of_le (H.pl b h) hk.size,fun b h=>Nat.lt_of_lt_of_le (H.cl b h) hk.size,H.zf,H.zr,H.zp,H.fr,H.fp,H.rp,H.cz,H.cf,H.cr,H.cp,H.wt.kept hk hC⟩
theorem qas.below (H:qas C w Zp Yp Yr Lp X F P v4 v5 v6 v7 a st its) (hb:Below w.heap.size w w'):qas C w' Zp Yp Yr Lp X F P v4 v5 v6 v7 a st its:=
 H.kept (Kept.of_below (F:=qq) hb) (fun _ _=>id) fun _ _=>id
theorem qas.lend {its':List Item} (H:qas C w Zp Yp Yr Lp X F P v4 v5 v6 v7 a st its) (K:Kept P w w') (L:qe3 C (grow P w w') w' Lp its'):qas C w' Zp Yp Yr Lp X F (grow P w w') v4 v5 v6 v7 a st its'∧
  qaw (qx Zp F Yr v4 v5 v6 v7 P) (qx Zp F Yr v4 v5 v6 v7 (grow P w w')) w w':=by
 have lZ:=qo H.box
 have hg: ∀ b,b < w.heap.size→grow P w w' b→P b:=fun b hb h=>h.elim id fun h=>by omega
 refine ⟨⟨by rw [K.block Zp lZ H.zp];exact H.box,H.bst.kept K H.fp,H.ref.kept K H.rp,L,H.sound.kept K H.cp,fun b h=> ?_,fun b h=>Nat.lt_of_lt_of_le (H.cl b h) K.size,H.zf,H.zr,fun h=>H.zp (hg _ lZ h),H.fr,fun b h h'=>H.fp b h (hg b (H.bst.lt b h) h'),fun b h h'=>H.rp b h (hg b (H.ref.footLt h) h'),H.cz,H.cf,H.cr,fun b h h'=>H.cp b h (hg b (H.cl b h) h'),H.wt.kept K H.cp⟩,K.mono fun b _ h=> .inr (.inr (.inr h)),fun b h=> ?_⟩
 ·rcases h with h| h
  ·exact Nat.lt_of_lt_of_le (H.pl b h) K.size
  ·exact h.2
 ·rcases h with h| h| h| h
  ·exact .inl (.inl h)
  ·exact .inl (.inr (.inl h))
  ·exact .inl (.inr (.inr (.inl h)))
  ·rcases h with h| h
   ·exact .inl (.inr (.inr (.inr h)))
   ·exact .inr h.1
theorem qas.over {its':List Item} (H:qas C w Zp Yp Yr Lp X F P v4 v5 v6 v7 a st its) (K:Kept P w w') (L:qe3 C P w' Lp its'):qas C w' Zp Yp Yr Lp X F P v4 v5 v6 v7 a st its'∧
  qaw (qx Zp F Yr v4 v5 v6 v7 P) (qx Zp F Yr v4 v5 v6 v7 P) w w':=by
 have lZ:=qo H.box
 exact ⟨⟨by rw [K.block Zp lZ H.zp];exact H.box,H.bst.kept K H.fp,H.ref.kept K H.rp,L,H.sound.kept K H.cp,fun b h=>Nat.lt_of_lt_of_le (H.pl b h) K.size,fun b h=>Nat.lt_of_lt_of_le (H.cl b h) K.size,H.zf,H.zr,H.zp,H.fr,H.fp,H.rp,H.cz,H.cf,H.cr,H.cp,H.wt.kept K H.cp⟩,K.mono fun b _ h=> .inr (.inr (.inr h)),fun b h=> .inl h⟩
theorem qas.prog {a':Abs} {F':Nat→Prop} (H:qas C w Zp Yp Yr Lp X F P v4 v5 v6 v7 a st its) (L:Left F w Yp a' F' w'):qas C w' Zp Yp Yr Lp X F' P v4 v5 v6 v7 a' st its∧
  qaw (qx Zp F Yr v4 v5 v6 v7 P) (qx Zp F' Yr v4 v5 v6 v7 P) w w':=by
 have lZ:=qo H.box
 have K:=L.kept
 have hg: ∀ b,b < w.heap.size→F' b→F b:=fun b hb h=>(L.less b h).elim id fun h=>by omega
 refine ⟨⟨by rw [K.block Zp lZ H.zf];exact H.box,L.st,H.ref.kept K fun b h h'=>H.fr b h' h,H.lent.kept K (fun b h h'=>H.fp b h' h) H.cf,H.sound.kept K H.cf,fun b h=>Nat.lt_of_lt_of_le (H.pl b h) K.size,fun b h=>Nat.lt_of_lt_of_le (H.cl b h) K.size,
  fun h=>H.zf (hg _ lZ h),H.zr,H.zp,fun b h h'=>H.fr b (hg b (H.ref.footLt h') h) h',fun b h h'=>H.fp b (hg b (H.pl b h') h) h',H.rp,H.cz,fun b h h'=>H.cf b h (hg b (H.cl b h) h'),H.cr,H.cp,H.wt.kept K H.cf⟩,K.mono fun b _ h=> .inr (.inl h),fun b h=> ?_⟩
 rcases h with h| h| h| h
 ·exact .inl (.inl h)
 ·rcases L.less b h with h| h
  ·exact .inl (.inr (.inl h))
  ·exact .inr h.1
 ·exact .inl (.inr (.inr (.inl h)))
 ·exact .inl (.inr (.inr (.inr h)))
theorem qas.doc {st':RefD} {u4 u5 u6 u7:Value} (H:qas C w Zp Yp Yr Lp X F P v4 v5 v6 v7 a st its) (R:qbc w' Yr st' u4 u5 u6 u7) (K:Kept (qau Yr v4 v5 v6 v7) w w') (hu: ∀ b,qau Yr u4 u5 u6 u7 b→qau Yr v4 v5 v6 v7 b∨w.heap.size≤b) (S:st'.sound C w) (W:st'.waits C w):qas C w' Zp Yp Yr Lp X F P u4 u5 u6 u7 a st' its∧
  qaw (qx Zp F Yr v4 v5 v6 v7 P) (qx Zp F Yr u4 u5 u6 u7 P) w w':=by
 have lZ:=qo H.box
 have hg: ∀ b,b < w.heap.size→qau Yr u4 u5 u6 u7 b→qau Yr v4 v5 v6 v7 b:=fun b hb h=>(hu b h).elim id fun h=>by omega
 refine ⟨⟨by rw [K.block Zp lZ H.zr];exact H.box,H.bst.kept K H.fr,R,H.lent.kept K (fun b h h'=>H.rp b h' h) H.cr,S.kept K H.cr,fun b h=>Nat.lt_of_lt_of_le (H.pl b h) K.size,fun b h=>Nat.lt_of_lt_of_le (H.cl b h) K.size,
  H.zf,fun h=>H.zr (hg _ lZ h),H.zp,fun b h h'=>H.fr b h (hg b (H.bst.lt b h) h'),H.fp,fun b h h'=>H.rp b (hg b (H.pl b h') h) h',H.cz,H.cf,fun b h h'=>H.cr b h (hg b (H.cl b h) h'),H.cp,W.kept K H.cr⟩,K.mono fun b _ h=> .inr (.inr (.inl h)),fun b h=> ?_⟩
 rcases h with h| h| h| h
 ·exact .inl (.inl h)
 ·exact .inl (.inr (.inl h))
 ·rcases hu b h with h| h
  ·exact .inl (.inr (.inr (.inl h)))
  ·exact .inr h
 ·exact .inl (.inr (.inr (.inr h)))
end
theorem qas.sn {C:Nat→Prop} {w:World} {Zp Yp Yr Lp X:Nat} {F P:Nat→Prop} {v4 v5 v6 v7:Value} {st:RefD} {its:List Item} (H:qas C w Zp Yp Yr Lp X F P v4 v5 v6 v7 st.abs st its):qad st.N:=H.bst.fine.sn
theorem qas.sp {C:Nat→Prop} {w:World} {Zp Yp Yr Lp X:Nat} {F P:Nat→Prop} {v4 v5 v6 v7:Value} {st:RefD} {its:List Item} (H:qas C w Zp Yp Yr Lp X F P v4 v5 v6 v7 st.abs st its):qad st.P:=H.bst.fine.sp
theorem qas.hin {C:Nat→Prop} {w:World} {Zp Yp Yr Lp X:Nat} {F P:Nat→Prop} {v4 v5 v6 v7:Value} {st:RefD} {its:List Item} (H:qas C w Zp Yp Yr Lp X F P v4 v5 v6 v7 st.abs st its): ∀ x∈st.pods,(getL st.N (ky x.node)).isSome=true:=fun x hx=>(H.bst.fine.pk (podP x) (List.mem_map.2 ⟨x,hx,rfl⟩)).2.1
theorem qas.cells {C:Nat→Prop} {w:World} {Zp Yp Yr Lp X:Nat} {F P:Nat→Prop} {v4 v5 v6 v7:Value} {a:Abs} {st:RefD} {its:List Item} (H:qas C w Zp Yp Yr Lp X F P v4 v5 v6 v7 a st its):
  w.cell? ⟨Zp,0,none⟩=some (.pointer (some ⟨Yp,0,none⟩))∧w.cell? ⟨Zp,1,none⟩=some (.pointer (some ⟨Yr,0,none⟩))∧w.cell? ⟨Zp,2,none⟩=some (.pointer (some ⟨Lp,0,none⟩))∧w.cell? ⟨Zp,3,none⟩=some (.pointer (some ⟨X,0,none⟩)):=
 ⟨by rw [ql H.box];rfl,by rw [ql H.box];rfl,by rw [ql H.box];rfl,by rw [ql H.box];rfl⟩
theorem qaw.cells {D D':Nat→Prop} {w w':World} (h:qaw D D' w w') {b:Nat} (hb:b < w.heap.size) (hD: ¬ D b): ∀ i,w'.cell? ⟨b,i,none⟩=w.cell? ⟨b,i,none⟩:=fun i=>h.1.cell (p:=⟨b,i,none⟩) hb hD
def Pair (C D:Nat→Prop) (w:World) (Zp X:Nat) (st:RefD) (n:Nat):Prop:=
 ∃ Yp Yr Lp F P v4 v5 v6 v7 its,qas C w Zp Yp Yr Lp X F P v4 v5 v6 v7 st.abs st its∧its.length≤n∧ ∀ b,qx Zp F Yr v4 v5 v6 v7 P b↔D b
theorem Pair.lt {C D:Nat→Prop} {w:World} {Zp X:Nat} {st:RefD} {n:Nat} (h:Pair C D w Zp X st n): ∀ b,D b→b < w.heap.size:=by
 obtain ⟨Yp,Yr,Lp,F,P,v4,v5,v6,v7,its,H,_,hD⟩:=h
 exact fun b hb=>H.lt ((hD b).2 hb)
theorem Pair.kept {C D G:Nat→Prop} {w w':World} {Zp X:Nat} {st:RefD} {n:Nat} (h:Pair C D w Zp X st n) (hk:Kept G w w') (hG: ∀ b,D b→ ¬ G b) (hC: ∀ b,C b→ ¬ G b):Pair C D w' Zp X st n:=by
 obtain ⟨Yp,Yr,Lp,F,P,v4,v5,v6,v7,its,H,hn,hD⟩:=h
 exact ⟨Yp,Yr,Lp,F,P,v4,v5,v6,v7,its,H.kept hk (fun b h=>hG b ((hD b).1 h)) hC,hn,hD⟩
theorem qas.drew {C:Nat→Prop} {w:World} {Zp Yp Yr Lp X:Nat} {F P:Nat→Prop} {v4 v5 v6 v7:Value} {a:Abs} {st:RefD} {its:List Item} (H:qas C w Zp Yp Yr Lp X F P v4 v5 v6 v7 a st its):qas C w.drew Zp Yp Yr Lp X F P v4 v5 v6 v7 a st its:=H.kept ((Kept.refl qq w).drew) (fun _ _=>id) fun _ _=>id
def PairEnd (C:Nat→Prop) (w w':World) (Zp Yp Yr Lp X:Nat) (F P:Nat→Prop) (v4 v5 v6 v7:Value) (st':RefD) (n:Nat):Prop:=
 ∃ F' P' u4 u5 u6 u7 its',qas C w' Zp Yp Yr Lp X F' P' u4 u5 u6 u7 st'.abs st' its'∧its'.length≤n∧qaw (qx Zp F Yr v4 v5 v6 v7 P) (qx Zp F' Yr u4 u5 u6 u7 P') w w'
end
end Go.Proofs.YtchddaafibjmgaaGreat
