import Derived.Test.YtchddaafibjmgaaGreatMD2
import Derived.ProofKit
import Derived.OpenShut
import Derived.SizedLaws
import Derived.Deep.SlicePairs
import Derived.Test.YtchddaafibjmgaaGreatME5
import Derived.Deep.Slices
set_option maxRecDepth 100000
set_option maxHeartbeats 20000000
namespace Go.Proofs.YtchddaafibjmgaaGreat
section
open Go.ChangeShapes Go.WideShapes Go.ChangeAt Go.RowKit
theorem Tryz.own:ownKnob Tryz.prog.godebug=none:=by kernel_rfl
theorem Tryz.laidOut:laidOutB Tryz.prog=true:=by kernel_rfl
theorem Tryz.cellsR:Tryz.prog.cellsOf 39=2:=by kernel_rfl
theorem Tryz.cellsRL:Tryz.prog.cellsOf 40=1:=by kernel_rfl
theorem Tryz.cellsStr:Tryz.prog.cellsOf 9=1:=by kernel_rfl
theorem Tryz.cellsI:Tryz.prog.cellsOf 3=1:=by kernel_rfl
theorem Tryz.cellsA3:Tryz.prog.cellsOf 41=3:=by kernel_rfl
theorem Tryz.cellsRP:Tryz.prog.cellsOf 45=10:=by kernel_rfl
theorem Tryz.cellsRN:Tryz.prog.cellsOf 43=6:=by kernel_rfl
theorem Tryz.bytesR:Tryz.prog.bytesOf 39=32:=by kernel_rfl
theorem list3 {α:Type} {l:List α} (h:l.length=3): ∃ c0 c1 c2,l= [c0,c1,c2]:=by
 match l,h with
 | [c0,c1,c2],_=>exact ⟨c0,c1,c2,rfl⟩
theorem list4 {α:Type} {l:List α} (h:l.length=4): ∃ c0 c1 c2 c3,l= [c0,c1,c2,c3]:=by
 match l,h with
 | [c0,c1,c2,c3],_=>exact ⟨c0,c1,c2,c3,rfl⟩
theorem list6 {α:Type} {l:List α} (h:l.length=6): ∃ c0 c1 c2 c3 c4 c5,l= [c0,c1,c2,c3,c4,c5]:=by
 match l,h with
 | [c0,c1,c2,c3,c4,c5],_=>exact ⟨c0,c1,c2,c3,c4,c5,rfl⟩
theorem list8 {α:Type} {l:List α} (h:l.length=8): ∃ c0 c1 c2 c3 c4 c5 c6 c7,l= [c0,c1,c2,c3,c4,c5,c6,c7]:=by
 match l,h with
 | [c0,c1,c2,c3,c4,c5,c6,c7],_=>exact ⟨c0,c1,c2,c3,c4,c5,c6,c7,rfl⟩
theorem list10 {α:Type} {l:List α} (h:l.length=10): ∃ c0 c1 c2 c3 c4 c5 c6 c7 c8 c9,l= [c0,c1,c2,c3,c4,c5,c6,c7,c8,c9]:=by
 match l,h with
 | [c0,c1,c2,c3,c4,c5,c6,c7,c8,c9],_=>exact ⟨c0,c1,c2,c3,c4,c5,c6,c7,c8,c9,rfl⟩
def Light {H:Type} (t:TypeId) (d:DataW H):Prop:= ∀ n∈d.weights Tryz.prog t,n≤reachBytes
section
variable {H:Type} {enc:TypeId×Value→H} {W:World} {base fuel:Nat} {spare:Nat→Bool} {held:Bool} {cs:List Value} {x:DataW H×List MemPlace}
theorem qhf (h:DataW.trod enc Tryz.prog W base spare held fuel 40 cs=some x) (hw:Light 40 x.1): ∃ l:Lst,cs= [l.val]∧l.ok W:=by
 rcases Deep.open_slice_pairs Tryz.underlying40 Tryz.underlying39 Tryz.cellsR rfl rfl Tryz.cellsStr Tryz.cellsStr h with ⟨rfl,rfl⟩| ⟨a,len,cap,m,n,V0,V1,D0,D1,P0,P1,rfl,_,hlc,_,hm,rfl,hx⟩
 ·exact ⟨⟨none,[],0⟩,rfl,by simp,by simp,qbd.nil _ _,fun x hx=>by simp at hx⟩
 ·have hlm:len≤m:=by rw [hm];split<;>omega
  have each: ∀ i,i < len→ ∃ q:Lab,V0 i= .string q.1∧V1 i= .string q.2∧q.1.size≤9223372036854775807∧q.2.size≤9223372036854775807:=fun i hi=>by
   obtain ⟨_,_,h0,h1⟩:=hx i (by omega)
   obtain ⟨s,e,_,hs⟩:=DataW.trod_string Tryz.underlying9 h0
   obtain ⟨s',e',_,hs'⟩:=DataW.trod_string Tryz.underlying9 h1
   unfold maxLen at hs hs'
   exact ⟨(s,s'),by simpa using e,by simpa using e',by simp only;omega,by simp only;omega⟩
  obtain ⟨q,hq⟩:=Deep.choose_lt each
  have hlen:len≤4398046511104:=by
   have:=hw ((len+(m - len)) * 32) (by simp [DataW.weights,Tryz.underlying40,Tryz.bytesR])
   simp only [reachBytes] at this
   omega
  refine ⟨⟨some a,(List.range len).map q,cap⟩,by simp [Lst.val],by simpa using hlen,by simpa using hlc,?_,?_⟩
  ·intro k hk
   have hk':k < len:=by simpa using hk
   obtain ⟨c0,c1,_,_⟩:=hx k (by omega)
   have hz:0 < len:=by omega
   obtain ⟨z0,_,_,_⟩:=hx 0 (by omega)
   obtain ⟨b,off,spot⟩:=a
   have hspot:spot=none:=by simpa [Addr.add] using World.cell?_spot z0
   subst hspot
   rw [add_plain] at c0 c1
   have hl:qab ((List.range len).map q) k=q k:=by simp [qab,hk']
   rw [hl]
   exact ⟨b,off,rfl,by rw [c0,(hq k hk').1],by rw [← Nat.add_assoc] at c1;rw [c1,(hq k hk').2.1]⟩
  ·intro y hy
   obtain ⟨k,hk,rfl⟩:=List.mem_map.1 hy
   exact (hq k (by simpa using hk)).2.2
theorem open_three (h:DataW.trod enc Tryz.prog W base spare held fuel 41 cs=some x): ∃ a b c:Int,cs= [.int .i64 a,.int .i64 b,.int .i64 c]:=by
 obtain ⟨xs,m,_,_,hl,hxl,hf⟩:=DataW.trod_array Tryz.underlying41 h
 rw [Tryz.cellsA3] at hl
 obtain ⟨c0,c1,c2,rfl⟩:=list3 hl
 obtain ⟨y0,y1,y2,rfl⟩:=list3 hxl
 clear hl hxl
 have g0:=hf 0 (by omega)
 have g1:=hf 1 (by omega)
 have g2:=hf 2 (by omega)
 simp [Tryz.cellsI] at g0 g1 g2
 obtain ⟨a,e0,_,_⟩:=DataW.trod_int Tryz.underlying3 g0
 obtain ⟨b,e1,_,_⟩:=DataW.trod_int Tryz.underlying3 g1
 obtain ⟨c,e2,_,_⟩:=DataW.trod_int Tryz.underlying3 g2
 simp at e0 e1 e2
 exact ⟨a,b,c,by rw [e0,e1,e2]⟩
theorem open_node (h:DataW.trod enc Tryz.prog W base spare held fuel 43 cs=some x) (hw:Light 43 x.1): ∃ n:qu,cs=n.cells.toList∧n.ok W:=by
 obtain ⟨xs,m,_,rfl,hl,hxl,hf⟩:=DataW.trod_struct Tryz.underlying43 h
 rw [Tryz.cellsRN] at hl
 obtain ⟨c0,c1,c2,c3,c4,c5,rfl⟩:=list6 hl
 obtain ⟨y0,y1,y2,y3,rfl⟩:=list4 hxl
 clear hl hxl
 have g0:=hf 0 _ rfl
 have g1:=hf 1 _ rfl
 have g2:=hf 2 _ rfl
 have g3:=hf 3 _ rfl
 simp [Tryz.cellsStr,Tryz.cellsA3,Tryz.cellsRL] at g0 g1 g2 g3
 have w2:Light 40 y2.1:=fun n hn=>hw n (by simp [DataW.weights,Tryz.underlying43,DataW.weightsEach,hn])
 have w3:Light 40 y3.1:=fun n hn=>hw n (by simp [DataW.weights,Tryz.underlying43,DataW.weightsEach,hn])
 obtain ⟨s,e0,_,hs⟩:=DataW.trod_string Tryz.underlying9 g0
 obtain ⟨a,b,c,e1⟩:=open_three g1
 obtain ⟨l1,e2,o1⟩:=qhf g2 w2
 obtain ⟨l2,e3,o2⟩:=qhf g3 w3
 simp at e0 e1 e2 e3
 unfold maxLen at hs
 refine ⟨⟨s,a,b,c,l1,l2⟩,by simp [qu.cells,e0,e1,e2,e3],by simp only;omega,fun x hx=> ?_⟩
 simp only [qu.lists,List.mem_cons,List.not_mem_nil,or_false] at hx
 rcases hx with rfl| rfl
 ·exact o1
 ·exact o2
theorem open_pod (h:DataW.trod enc Tryz.prog W base spare held fuel 45 cs=some x) (hw:Light 45 x.1): ∃ p:PodD,cs=p.cells.toList∧p.ok W:=by
 obtain ⟨xs,m,_,rfl,hl,hxl,hf⟩:=DataW.trod_struct Tryz.underlying45 h
 rw [Tryz.cellsRP] at hl
 obtain ⟨c0,c1,c2,c3,c4,c5,c6,c7,c8,c9,rfl⟩:=list10 hl
 obtain ⟨y0,y1,y2,y3,y4,y5,y6,y7,rfl⟩:=list8 hxl
 clear hl hxl
 have g0:=hf 0 _ rfl
 have g1:=hf 1 _ rfl
 have g2:=hf 2 _ rfl
 have g3:=hf 3 _ rfl
 have g4:=hf 4 _ rfl
 have g5:=hf 5 _ rfl
 have g6:=hf 6 _ rfl
 have g7:=hf 7 _ rfl
 simp [Tryz.cellsStr,Tryz.cellsA3,Tryz.cellsRL,Tryz.cellsI] at g0 g1 g2 g3 g4 g5 g6 g7
 have w3:Light 40 y3.1:=fun n hn=>hw n (by simp [DataW.weights,Tryz.underlying45,DataW.weightsEach,hn])
 have w4:Light 40 y4.1:=fun n hn=>hw n (by simp [DataW.weights,Tryz.underlying45,DataW.weightsEach,hn])
 have w5:Light 40 y5.1:=fun n hn=>hw n (by simp [DataW.weights,Tryz.underlying45,DataW.weightsEach,hn])
 have w6:Light 40 y6.1:=fun n hn=>hw n (by simp [DataW.weights,Tryz.underlying45,DataW.weightsEach,hn])
 have w7:Light 40 y7.1:=fun n hn=>hw n (by simp [DataW.weights,Tryz.underlying45,DataW.weightsEach,hn])
 obtain ⟨s,e0,_,hs⟩:=DataW.trod_string Tryz.underlying9 g0
 obtain ⟨a,b,c,e1⟩:=open_three g1
 obtain ⟨pt,e2,_,_⟩:=DataW.trod_int Tryz.underlying3 g2
 obtain ⟨l3,e3,o3⟩:=qhf g3 w3
 obtain ⟨l4,e4,o4⟩:=qhf g4 w4
 obtain ⟨l5,e5,o5⟩:=qhf g5 w5
 obtain ⟨l6,e6,o6⟩:=qhf g6 w6
 obtain ⟨l7,e7,o7⟩:=qhf g7 w7
 simp at e0 e1 e2 e3 e4 e5 e6 e7
 unfold maxLen at hs
 refine ⟨⟨s,a,b,c,pt,l3,l4,l5,l6,l7⟩,by simp [PodD.cells,e0,e1,e2,e3,e4,e5,e6,e7],by simp only;omega,fun x hx=> ?_⟩
 simp only [PodD.lists,List.mem_cons,List.not_mem_nil,or_false] at hx
 rcases hx with rfl| rfl| rfl| rfl| rfl
 ·exact o3
 ·exact o4
 ·exact o5
 ·exact o6
 ·exact o7
end
end
section
open Go.ChangeShapes Go.WideShapes Go.ChangeAt Go.RowKit
theorem Tryz.cellsST:Tryz.prog.cellsOf 47=20:=by kernel_rfl
theorem Tryz.bytesST:Tryz.prog.bytesOf 47=296:=by kernel_rfl
theorem list20 {α:Type} {l:List α} (h:l.length=20): ∃ c0 c1 c2 c3 c4 c5 c6 c7 c8 c9 c10 c11 c12 c13 c14 c15 c16 c17 c18 c19,l= [c0,c1,c2,c3,c4,c5,c6,c7,c8,c9,c10,c11,c12,c13,c14,c15,c16,c17,c18,c19]:=by
 match l,h with
 | [c0,c1,c2,c3,c4,c5,c6,c7,c8,c9,c10,c11,c12,c13,c14,c15,c16,c17,c18,c19],_=>exact ⟨c0,c1,c2,c3,c4,c5,c6,c7,c8,c9,c10,c11,c12,c13,c14,c15,c16,c17,c18,c19,rfl⟩
section
variable {H:Type} {enc:TypeId×Value→H} {W:World} {base fuel:Nat} {spare:Nat→Bool} {held:Bool} {cs:List Value} {x:DataW H×List MemPlace}
theorem wf_range {n:Int} (h:(Lit.int .i64 n).wf=true): -9223372036854775808≤n∧n≤9223372036854775807:=by
 have h1:IntKind.min .i64= -9223372036854775808:=by decide
 have h2:IntKind.max .i64=9223372036854775807:=by decide
 simp [Lit.wf,h1,h2] at h
 exact h
theorem open_step (h:DataW.trod enc Tryz.prog W base spare held fuel 47 cs=some x) (hw:Light 47 x.1): ∃ o:qbr,cs=o.cells.toList∧o.s.size≤maxLen∧o.n.ok W∧o.p.ok W∧ -9223372036854775808≤o.a∧o.a≤9223372036854775807:=by
 obtain ⟨xs,m,_,rfl,hl,hxl,hf⟩:=DataW.trod_struct Tryz.underlying47 h
 rw [Tryz.cellsST] at hl
 obtain ⟨c0,c1,c2,c3,c4,c5,c6,c7,c8,c9,c10,c11,c12,c13,c14,c15,c16,c17,c18,c19,rfl⟩:=list20 hl
 obtain ⟨y0,y1,y2,y3,y4,y5,rfl⟩:=list6 hxl
 clear hl hxl
 have g0:=hf 0 _ rfl
 have g1:=hf 1 _ rfl
 have g2:=hf 2 _ rfl
 have g3:=hf 3 _ rfl
 have g4:=hf 4 _ rfl
 have g5:=hf 5 _ rfl
 simp [Tryz.cellsStr,Tryz.cellsI,Tryz.cellsRN,Tryz.cellsRP] at g0 g1 g2 g3 g4 g5
 have w4:Light 43 y4.1:=fun n hn=>hw n (by simp [DataW.weights,Tryz.underlying47,DataW.weightsEach,hn])
 have w5:Light 45 y5.1:=fun n hn=>hw n (by simp [DataW.weights,Tryz.underlying47,DataW.weightsEach,hn])
 obtain ⟨i0,e0,_,_⟩:=DataW.trod_int Tryz.underlying3 g0
 obtain ⟨i1,e1,_,_⟩:=DataW.trod_int Tryz.underlying3 g1
 obtain ⟨i2,e2,_,b2⟩:=DataW.trod_int Tryz.underlying3 g2
 obtain ⟨s,e3,_,hs⟩:=DataW.trod_string Tryz.underlying9 g3
 obtain ⟨n,e4,o4⟩:=open_node g4 w4
 obtain ⟨p,e5,o5⟩:=open_pod g5 w5
 simp [qu.cells,PodD.cells,Lst.val] at e0 e1 e2 e3 e4 e5
 refine ⟨⟨i0,i1,i2,s,n,p⟩,?_,hs,o4,o5,wf_range b2⟩
 simp [qbr.cells,e0,e1,e2,e3,e4,e5]
theorem qbr.ok.low {W:World} {o:qbr} (h1:o.s.size≤maxLen) (h2:o.n.ok W) (h3:o.p.ok W) (h4: -9223372036854775808≤o.a∧o.a≤9223372036854775807):o.ok (fun b=>b < W.heap.size) W:=
 ⟨h1,h2,fun x hx h0 q e=>(h2.2 x hx).2.2.1.low h0 q e,h3,fun x hx h0 q e=>(h3.2 x hx).2.2.1.low h0 q e,h4⟩
theorem weights_all {H:Type} {P:Program} {e:TypeId} {d:DataW H} {n:Nat}: ∀ {l:List (DataW H)},d∈l→n∈d.weights P e→n∈DataW.weightsAll P e l
 | x::r,hd,hn=>by
  unfold DataW.weightsAll
  rcases List.mem_cons.1 hd with rfl| hd
  ·exact List.mem_append.2 (.inl hn)
  ·exact List.mem_append.2 (.inr (weights_all hd hn))
theorem open_steps (h:DataW.trod enc Tryz.prog W base spare held fuel 24 cs=some x) (hw:Light 24 x.1): ∃ a cap L,cs= [.slice a L.length cap]∧L.length≤480000000000∧qbl (fun b=>b < W.heap.size) W a L:=by
 rcases Deep.open_slice Tryz.underlying24 h with ⟨rfl,rfl⟩| ⟨a,len,cap,m,n,D,Pl,rfl,hb,hlc,hcm,hm,rfl,hx⟩
 ·exact ⟨none,0,[],rfl,by simp,fun k hk=>by simp at hk⟩
 ·have hlm:len≤m:=by rw [hm];split<;>omega
  have hlen:len≤480000000000:=by
   have:=hw ((len+(m - len)) * 296) (by simp [DataW.weights,Tryz.underlying24,Tryz.bytesST])
   simp only [reachBytes] at this
   omega
  have hlight: ∀ i,i < len→Light 47 (D i):=fun i hi n hn=>hw n (by
   simp only [DataW.weights,Tryz.underlying24]
   exact List.mem_cons.2 (.inr (List.mem_append.2 (.inl (weights_all (List.mem_map.2 ⟨i,List.mem_range.2 hi,rfl⟩) hn)))))
  have each: ∀ i,i < len→ ∃ o:qbr,(∀ j v,o.cells.toList[j]? =some v→W.cell? ((a.add (i * 20)).add j)=some v)∧o.s.size≤maxLen∧o.n.ok W∧o.p.ok W∧ -9223372036854775808≤o.a∧o.a≤9223372036854775807:=fun i hi=>by
   obtain ⟨cs',h1,h2⟩:=hx i (by omega)
   obtain ⟨o,rfl,hok⟩:=open_step h2 (hlight i hi)
   rw [Tryz.cellsST] at h1
   obtain ⟨_,_,hcell⟩:=World.cells?_some h1
   exact ⟨o,fun j v hj=>by rw [hcell j (by have:=(List.getElem?_eq_some_iff.1 hj).1;simpa [qbr.cells] using this)];exact hj,hok⟩
  haveI:Inhabited qbr:=⟨⟨0,0,0,⟨#[]⟩,⟨⟨#[]⟩,0,0,0,⟨none,[],0⟩,⟨none,[],0⟩⟩,⟨⟨#[]⟩,0,0,0,0,⟨none,[],0⟩,⟨none,[],0⟩,⟨none,[],0⟩,⟨none,[],0⟩,⟨none,[],0⟩⟩⟩⟩
  obtain ⟨q,hq⟩:=Deep.choose_lt each
  refine ⟨some a,cap,(List.range len).map q,by simp,by simpa using hlen,fun k hk=> ?_⟩
  have hk':k < len:=by simpa using hk
  have e:((List.range len).map q)[k]=q k:=by simp
  rw [e]
  obtain ⟨hc,hok⟩:=hq k hk'
  have z0:=(hq 0 (by omega)).1 0 _ rfl
  obtain ⟨b,off,spot⟩:=a
  have hspot:spot=none:=by simpa [Addr.add] using World.cell?_spot z0
  subst hspot
  have hc': ∀ j v,(q k).cells[j]? =some v→W.cell? ⟨b,off+k * 20+j,none⟩=some v:=fun j v hj=>by
   have:=hc j v (by simpa using hj)
   rwa [add_plain,add_plain] at this
  have hb':=World.block_lt_of_cell? W _ (hc' 0 _ rfl)
  exact ⟨b,off,rfl,hb',hb',hc',qbr.ok.low hok.1 hok.2.1 hok.2.2.1 hok.2.2.2⟩
end
end
end Go.Proofs.YtchddaafibjmgaaGreat
