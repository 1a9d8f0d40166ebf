import Derived.Test.YtchddaafibjmgaaGreatMD5
set_option maxRecDepth 100000
set_option maxHeartbeats 20000000
namespace Go.Proofs.YtchddaafibjmgaaGreat
section
open Go.RowKit
def RefD.dropNode (st:RefD) (s:ByteArray):Int×RefD:=
 match qan (st.nodes.map (·.name)) s with
 | none=>(4,st)
 | some i=>(0,{ st with nodes:=st.nodes.eraseIdx i,pods:=st.pods.filter (fun x=> !(x.node.toList==s.toList)),touched:=st.touched.filter (fun t=> !(t.toList==s.toList)) })
def qcj {α:Type} (f:α→Bool) (l:List α) (k:Nat):List α:=(l.take k).filter f
theorem filtTo_yes {α:Type} (f:α→Bool) (l:List α) (k:Nat) (hk:k < l.length) (h:f l[k]=true):qcj f l (k+1)=qcj f l k++ [l[k]]:=by
 unfold qcj
 rw [List.take_succ_eq_append_getElem hk,List.filter_append]
 simp [h]
theorem filtTo_no {α:Type} (f:α→Bool) (l:List α) (k:Nat) (hk:k < l.length) (h:f l[k]=false):qcj f l (k+1)=qcj f l k:=by
 unfold qcj
 rw [List.take_succ_eq_append_getElem hk,List.filter_append]
 simp [h]
theorem filtTo_all {α:Type} (f:α→Bool) (l:List α):qcj f l l.length=l.filter f:=by simp [qcj]
theorem filtTo_length {α:Type} (f:α→Bool) (l:List α) (k:Nat):(qcj f l k).length≤k:=by
 unfold qcj
 have:=List.length_filter_le f (l.take k)
 simp at this
 omega
theorem dropNode_any (Y:Nat) (st:RefD) (v4 v5 v6 v7:Value) (s:ByteArray) (w:World) (H:qbc w Y st v4 v5 v6 v7) (hwf:st.wf) (ht:st.touched.length < 8796093022000):
  Calls Tryz.prog 20 #[.pointer (some ⟨Y,0,none⟩),.string s] w fun e w'=>e= .returned (.int .i64 (st.dropNode s).1)∧qaq w w' Y (st.dropNode s).2 v4 v5 v6 v7:=by
 have hn:=hwf.nodes
 have hp:=hwf.pods
 have c1:=qg2 Y st v4 v5 v6 v7 s w H (by omega)
 cases h1:qan (st.nodes.map (·.name)) s with
 | none=>
  have HE:Hid (st.dropNode s=(4,st)):=by show st.dropNode s=_;simp [RefD.dropNode,h1]
  rw [h1] at c1
  unfold idxI at c1
  clear h1
  go_enter Tryz.func20,Tryz.ntmps20
  go_wp2_with (go_at_call 45;refine c1.mono ?_;rintro e w2 ⟨rfl,rfl⟩)
  go_ret
  exact ⟨by rw [HE.out];rfl,by rw [HE.out];exact qaq.same H (Below.refl _ _)⟩
 | some i=>
  have hi:i < st.nodes.length:=by simpa using nameIdx_lt h1
  have HE:Hid (st.dropNode s=(0,{ st with nodes:=st.nodes.eraseIdx i,pods:=st.pods.filter (fun x=> !(x.node.toList==s.toList)),touched:=st.touched.filter (fun t=> !(t.toList==s.toList)) })):=by show st.dropNode s=_;simp [RefD.dropNode,h1]
  rw [h1] at c1
  unfold idxI at c1
  clear h1
  obtain ⟨i1,hi1,hz10,hz11,hz12⟩:=info_parts Tryz.infoRN
  obtain ⟨i2,hi2,hz20,hz21,hz22⟩:=info_parts Tryz.infoLies
  obtain ⟨i3,hi3,hz30,hz31,hz32⟩:=info_parts Tryz.infoStr
  obtain ⟨a4,cp4,rfl⟩:=qv H.r4
  go_enter Tryz.func20,Tryz.ntmps20
  go_wp2_with (go_at_call 45;refine c1.mono ?_;rintro e w2 ⟨rfl,rfl⟩)
  clear c1
  go_loopw [6,7] (fun l j wr=> ∃ (k:Nat),k≤st.nodes.length∧j= .int .i64 k∧ ∃ ao cap,l= .slice ao (qdw st.nodes i k).length cap∧qgc w2 wr 43 6 l (qdw st.nodes i k).length ((qdw st.nodes i k).flatMap qu.row)) (fun _ j _=>st.nodes.length - (intOf j).toNat)
  case atStart=>exact ⟨0,Nat.zero_le _,rfl,none,0,by simp [qdw],by simpa [qdw] using qgc.start _ _ _⟩
  case round=>
   obtain ⟨k,hk,rfl,ao,cap,rfl,hB⟩:=hrel
   have H4:qbc wr Y _ _ _ _ _:=H.kept hB.2.1 (fun _ _=>id)
   have hx4:=ql (i:=4) H4.box
   have il1:=delTo_length st.nodes i k
   by_cases hlt:k < st.nodes.length
   ·by_cases hki:k=i
    ·have HS:Hid (qdw st.nodes i (k+1)=qdw st.nodes i k):=by show qdw _ _ _=_;rw [hki];exact delTo_at st.nodes i hi
     have hkb:((k:Int) != (i:Int))=false:=by simp [hki]
     clear hki
     go_wp2
     go_roundw
     case rel=>exact ⟨k+1,by omega,by go_num,ao,cap,by rw [HS.out],by rw [HS.out];exact hB⟩
     case measure=>simp [intOf];omega
    ·obtain ⟨g,ho,hg,-,-⟩:=qbs H4.r4 (by omega)
     subst ho
     obtain ⟨k0,k1,k2,k3,k4,k5,-,-⟩:=row6 H4.r4 k hlt
     obtain ⟨nd,hnd⟩: ∃ nd,nd=st.nodes[k]:=⟨_,rfl⟩
     simp only [← hnd] at k0 k1 k2 k3 k4 k5
     have HS:Hid (qdw st.nodes i (k+1)=qdw st.nodes i k++ [nd]):=by show qdw _ _ _=_;rw [hnd];exact delTo_ne st.nodes i k hlt hki
     unfold Lst.val at k4 k5
     clear hnd
     have hkb:((k:Int) != (i:Int))=true:=by simp;omega
     clear hki
     generalize qdw st.nodes i k=acc at *
     go_wp2_with (at_builtin;refine qy _ rfl (.tmp 29) (.tmp 37) 101 rfl 43 i1 _ 6 88 Tryz.underlying101 hi1 hz10 hz11 hz12 rfl (by decide) _ acc.length _ rfl (by exact hB.1.alloc _) ⟨wr.heap.size,0,none⟩ 1 1 nd.row rfl rfl (by exact qcr _ nd.cells _ _ rfl) nd.row_one (by unfold maxLen;omega) (by omega) ?_;intro ao1 cp1 w51 ho1 hg1 hf1)
     go_roundw
     case rel=>
      refine ⟨k+1,by omega,by go_num,ao1,cp1,by rw [HS.out];simp,?_⟩
      rw [HS.out]
      exact hB.more hg1 (by simpa using ho1) hf1
     case measure=>simp [intOf];omega
   ·have hkl:k=st.nodes.length:=by omega
    have ad:=delTo_all st.nodes i
    rw [← hkl] at ad
    clear hkl
    have hfr:=qp (i:=4) H4.box
    obtain ⟨g1,g2⟩:=H.put4 hB.2.1 hB.1 hB.2.2
    have b1:=hB.2.2
    have K1:=hB.2.1
    rw [ad] at g1 g2 b1 ⊢
    clear ad hx4 il1 hB
    have hx4:=ql (i:=4) H4.box
    obtain ⟨a5,cp5,rfl⟩:=qv H.r5
    go_wp2
    go_loopw [8,9] (fun l j ws=> ∃ (m:Nat),m≤st.pods.length∧j= .int .i64 m∧ ∃ ao2 cap2,l= .slice ao2 (qcj (fun x=> !(x.node.toList==s.toList)) st.pods m).length cap2∧
      qgc (wr.setCell ⟨Y,4,none⟩ (.slice ao (st.nodes.eraseIdx i).length cap)) ws 110 13 l (qcj (fun x=> !(x.node.toList==s.toList)) st.pods m).length ((qcj (fun x=> !(x.node.toList==s.toList)) st.pods m).flatMap qax.row)) (fun _ j _=>st.pods.length - (intOf j).toNat)
    case atStart=>exact ⟨0,Nat.zero_le _,rfl,none,0,by simp [qcj],by simpa [qcj] using qgc.start _ _ _⟩
    case round=>
     obtain ⟨m,hm,rfl,ao2,cap2,rfl,hB⟩:=hrel
     have H4:=g1.kept hB.2.1 (fun _ _=>id)
     have hx4:=ql (i:=5) H4.box
     have il1:=filtTo_length (fun x:qax=> !(x.node.toList==s.toList)) st.pods m
     by_cases hlt:m < st.pods.length
     ·obtain ⟨g,ho,hg,-,-⟩:=qbs H4.r5 (by dsimp only;omega)
      subst ho
      obtain ⟨k0,k1,k2,k3,k4,k5,k6,k7,k8,k9,k10,k11,k12,-,-⟩:=row13 H4.r5 m hlt
      obtain ⟨nd,hnd⟩: ∃ nd,nd=st.pods[m]:=⟨_,rfl⟩
      simp only [← hnd] at k0 k1 k2 k3 k4 k5 k6 k7 k8 k9 k10 k11 k12
      have fy:=filtTo_yes (fun x:qax=> !(x.node.toList==s.toList)) st.pods m hlt
      have fn:=filtTo_no (fun x:qax=> !(x.node.toList==s.toList)) st.pods m hlt
      rw [← hnd] at fy fn
      unfold Lst.val at k5 k6 k7 k8 k9
      clear hnd
      cases hE:(nd.node.toList==s.toList)
      ·have HS:Hid (qcj (fun x:qax=> !(x.node.toList==s.toList)) st.pods (m+1)=qcj (fun x:qax=> !(x.node.toList==s.toList)) st.pods m++ [nd]):=fy (by simp [hE])
       have hE2:(nd.node.toList != s.toList)=true:=by simp only [bne,hE];rfl
       clear fy fn
       generalize qcj (fun x:qax=> !(x.node.toList==s.toList)) st.pods m=acc at *
       go_wp2_with (at_builtin;refine qy _ rfl (.tmp 62) (.tmp 70) 102 rfl 110 i2 _ 13 200 Tryz.underlying102 hi2 hz20 hz21 hz22 rfl (by decide) _ acc.length _ rfl (by exact hB.1.alloc _) ⟨wr.heap.size,0,none⟩ 1 1 nd.row rfl rfl (by exact qcr _ nd.cells _ _ rfl) nd.row_one (by unfold maxLen;omega) (by omega) ?_;intro ao1 cp1 w51 ho1 hg1 hf1)
       go_roundw
       case rel=>
        refine ⟨m+1,by omega,by go_num,ao1,cp1,by rw [HS.out];simp,?_⟩
        rw [HS.out]
        exact hB.more hg1 (by simpa using ho1) hf1
       case measure=>simp [intOf];omega
      ·have HS:Hid (qcj (fun x:qax=> !(x.node.toList==s.toList)) st.pods (m+1)=qcj (fun x:qax=> !(x.node.toList==s.toList)) st.pods m):=fn (by simp [hE])
       have hE2:(nd.node.toList != s.toList)=false:=by simp only [bne,hE];rfl
       clear fy fn
       go_wp2
       go_roundw
       case rel=>exact ⟨m+1,by omega,by go_num,ao2,cap2,by rw [HS.out],by rw [HS.out];exact hB⟩
       case measure=>simp [intOf];omega
     ·have hkl:m=st.pods.length:=by omega
      have ad:=filtTo_all (fun x:qax=> !(x.node.toList==s.toList)) st.pods
      rw [← hkl] at ad
      clear hkl
      have hfr:=qp (i:=5) H4.box
      obtain ⟨g3,g4⟩:=g1.put5 hB.2.1 hB.1 hB.2.2
      have b3:=hB.2.2
      rw [ad] at g3 g4 b3 ⊢
      clear ad il1 hB
      obtain ⟨a6,cp6,rfl⟩:=qv H.r6
      go_wp2
      go_loopw [10,11] (fun l j ws=> ∃ (q:Nat),q≤st.touched.length∧j= .int .i64 q∧ ∃ ao3 cap3,l= .slice ao3 (qcj (fun t:ByteArray=> !(t.toList==s.toList)) st.touched q).length cap3∧
        qgc (wr.setCell ⟨Y,5,none⟩ (.slice ao2 (st.pods.filter (fun x=> !(x.node.toList==s.toList))).length cap2)) ws 9 1 l (qcj (fun t:ByteArray=> !(t.toList==s.toList)) st.touched q).length ((qcj (fun t:ByteArray=> !(t.toList==s.toList)) st.touched q).map Value.string)) (fun _ j _=>st.touched.length - (intOf j).toNat)
      case atStart=>exact ⟨0,Nat.zero_le _,rfl,none,0,by simp [qcj],by simpa [qcj] using qgc.start _ _ _⟩
      case round=>
       obtain ⟨q,hq,rfl,ao3,cap3,rfl,hB⟩:=hrel
       have H5:=g3.kept hB.2.1 (fun _ _=>id)
       have hx5:=ql (i:=6) H5.box
       have il1:=filtTo_length (fun t:ByteArray=> !(t.toList==s.toList)) st.touched q
       by_cases hlt:q < st.touched.length
       ·obtain ⟨g,ho,hg,hcs,-⟩:=qbs H5.r6 (by dsimp only;omega)
        subst ho
        have k0:wr.cell? ⟨g,q,none⟩=some (.string st.touched[q]):=by rw [hcs q (by dsimp only;omega)];simp [hlt]
        clear hcs
        obtain ⟨nd,hnd⟩: ∃ nd,nd=st.touched[q]:=⟨_,rfl⟩
        rw [← hnd] at k0
        have fy:=filtTo_yes (fun t:ByteArray=> !(t.toList==s.toList)) st.touched q hlt
        have fn:=filtTo_no (fun t:ByteArray=> !(t.toList==s.toList)) st.touched q hlt
        rw [← hnd] at fy fn
        clear hnd
        cases hE:(nd.toList==s.toList)
        ·have HS:Hid (qcj (fun t:ByteArray=> !(t.toList==s.toList)) st.touched (q+1)=qcj (fun t:ByteArray=> !(t.toList==s.toList)) st.touched q++ [nd]):=fy (by simp [hE])
         have hE2:(nd.toList != s.toList)=true:=by simp only [bne,hE];rfl
         clear fy fn
         generalize qcj (fun t:ByteArray=> !(t.toList==s.toList)) st.touched q=acc at *
         go_wp2_with (at_builtin;refine qy _ rfl (.tmp 94) (.tmp 102) 103 rfl 9 i3 _ 1 16 Tryz.underlying103 hi3 hz30 hz31 hz32 rfl (by decide) _ acc.length _ rfl (by exact hB.1.alloc _) ⟨wr.heap.size,0,none⟩ 1 1 [.string nd] rfl rfl (by exact cell_one_new _ _ _) (by intro u hu;simp at hu;subst hu;rfl) (by unfold maxLen;omega) (by omega) ?_;intro ao1 cp1 w51 ho1 hg1 hf1)
         go_roundw
         case rel=>
          refine ⟨q+1,by omega,by go_num,ao1,cp1,by rw [HS.out];simp,?_⟩
          rw [HS.out]
          exact hB.more hg1 (by simpa using ho1) hf1
         case measure=>simp [intOf];omega
        ·have HS:Hid (qcj (fun t:ByteArray=> !(t.toList==s.toList)) st.touched (q+1)=qcj (fun t:ByteArray=> !(t.toList==s.toList)) st.touched q):=fn (by simp [hE])
         have hE2:(nd.toList != s.toList)=false:=by simp only [bne,hE];rfl
         clear fy fn
         go_wp2
         go_roundw
         case rel=>exact ⟨q+1,by omega,by go_num,ao3,cap3,by rw [HS.out],by rw [HS.out];exact hB⟩
         case measure=>simp [intOf];omega
       ·have hkl:q=st.touched.length:=by omega
        have ad:=filtTo_all (fun t:ByteArray=> !(t.toList==s.toList)) st.touched
        rw [← hkl] at ad
        clear hkl
        have hfr5:=qp (i:=6) H5.box
        obtain ⟨g5,g6⟩:=g3.put6 (hB.2.1.mono fun _ _ h=>h.elim) hB.1 (fun k hk=> .inr (hB.2.2 k hk))
        have b5:=hB.2.2
        rw [ad] at g5 g6 b5 ⊢
        clear ad il1 hB
        go_wp2
        go_ret
        refine ⟨by rw [HE.out];rfl,_,_,_,_,by rw [HE.out];exact g5,?_,?_⟩
        ·refine ((g2.mono (G:=qau Y (.slice a4 st.nodes.length cp4) (.slice a5 st.pods.length cp5) (.slice a6 st.touched.length cp6) v7) fun b _ h=> .inl h).trans g4 fun b _ h=> .inl h).trans g6 fun b _ h=> ?_
         exact h.elim .inl (fun h=> .inr (.inr (.inr (.inl h))))
        ·have z1:=g2.size
         have z2:=g4.size
         rintro b (hb'| hb'| hb'| hb'| hb')
         ·exact .inl (.inl hb')
         ·exact .inr (b1 b hb')
         ·exact .inr (by have:=b3 b hb';omega)
         ·exact .inr (by have:=b5 b hb';omega)
         ·exact .inl (.inr (.inr (.inr (.inr hb'))))
end
section
open Go.RowKit
def RefD.empty (hold:Int) (rem whole:Bool):RefD:=⟨hold,rem,whole,0,[],[],[],[]⟩
theorem qbc.init (w:World) (hold:Int) (rem whole:Bool):
  qbc (w.alloc (.cells #[.int .i64 hold,.bool rem,.bool whole,.int .i64 0,.slice none 0 0,.slice none 0 0,.slice none 0 0,.slice none 0 0] 106)) w.heap.size (RefD.empty hold rem whole) (.slice none 0 0) (.slice none 0 0) (.slice none 0 0) (.slice none 0 0):=
 ⟨qm _ _,World.ownsRow_nil _ _ _ _,World.ownsRow_nil _ _ _ _,World.ownsRow_nil _ _ _ _,.inl ⟨rfl,rfl⟩,by simp [Value.ownBlock],by simp [Value.ownBlock],by simp [Value.ownBlock],by simp [Value.ownBlock],
  fun k hk=>by simp [Value.ownBlock] at hk,fun k hk=>by simp [Value.ownBlock] at hk,fun k hk=>by simp [Value.ownBlock] at hk,fun k hk=>by simp [Value.ownBlock] at hk,fun k hk=>by simp [Value.ownBlock] at hk,fun k hk=>by simp [Value.ownBlock] at hk⟩
theorem rnew_no (hold:Int) (rem whole:Bool) (w:World) (h:hold < 1∨1000 < hold):
  Calls Tryz.prog 14 #[.agg #[.int .i64 hold,.bool rem,.bool whole]] w fun e w'=>e= .returned (.tuple #[.pointer none,.int .i64 1])∧Below w.heap.size w w':=by
 by_cases h1:hold < 1
 ·go_enter Tryz.func14,Tryz.ntmps14
  go_wp2
  go_ret2
  exact ⟨rfl,qi _ _⟩
 ·have h2:1000 < hold:=by omega
  clear h
  go_enter Tryz.func14,Tryz.ntmps14
  go_wp2
  go_ret2
  exact ⟨rfl,qi _ _⟩
theorem rnew_yes (hold:Int) (rem whole:Bool) (w:World) (h1:1≤hold) (h2:hold≤1000):
  Calls Tryz.prog 14 #[.agg #[.int .i64 hold,.bool rem,.bool whole]] w fun e w'=> ∃ Y,e= .returned (.tuple #[.pointer (some ⟨Y,0,none⟩),.int .i64 0])∧w.heap.size≤Y∧qbc w' Y (RefD.empty hold rem whole) (.slice none 0 0) (.slice none 0 0) (.slice none 0 0) (.slice none 0 0)∧
   Below w.heap.size w w':=by
 go_enter Tryz.func14,Tryz.ntmps14
 go_wp2
 go_ret2
 exact ⟨_,rfl,by simp,by simpa using qbc.init (w.alloc (.cells #[.int .i64 hold,.bool rem,.bool whole] 23)) hold rem whole,qj (qi _ _) (qi _ _)⟩
def qa8 (l:List qax) (s:ByteArray):Nat→Int×Int×Int×Int
 | 0=>(0,0,0,0)
 | k+1=>match l[k]? with
  | some x=>if x.node.toList==s.toList then ((qa8 l s k).1+x.p.n0,(qa8 l s k).2.1+x.p.n1,(qa8 l s k).2.2.1+x.p.n2,(qa8 l s k).2.2.2+1) else qa8 l s k
  | none=>qa8 l s k
def qfi (l:List qax):Prop:= ∀ x∈l,0≤x.p.n0∧x.p.n0≤1099511627776∧0≤x.p.n1∧x.p.n1≤1099511627776∧0≤x.p.n2∧x.p.n2≤1099511627776
theorem qfa (l:List qax) (s:ByteArray) (h:qfi l) (k:Nat):0≤(qa8 l s k).1∧(qa8 l s k).1≤1099511627776 * k∧0≤(qa8 l s k).2.1∧(qa8 l s k).2.1≤1099511627776 * k∧0≤(qa8 l s k).2.2.1∧(qa8 l s k).2.2.1≤1099511627776 * k∧
  0≤(qa8 l s k).2.2.2∧(qa8 l s k).2.2.2≤k:=by
 induction k with
 | zero=>simp [qa8]
 | succ k ih=>
  unfold qa8
  cases hk:l[k]? with
  | none=>dsimp only;omega
  | some x=>
   have hx:=h x (List.mem_of_getElem? hk)
   dsimp only
   split
   ·dsimp only;omega
   ·omega
theorem used_any (Y:Nat) (st:RefD) (v4 v5 v6 v7:Value) (s:ByteArray) (w:World) (H:qbc w Y st v4 v5 v6 v7) (hp:st.pods.length≤1000) (hnd:qfi st.pods):
  Calls Tryz.prog 35 #[.pointer (some ⟨Y,0,none⟩),.string s] w fun e w'=>e= .returned (.tuple #[.agg #[.int .i64 (qa8 st.pods s st.pods.length).1,.int .i64 (qa8 st.pods s st.pods.length).2.1,.int .i64 (qa8 st.pods s st.pods.length).2.2.1],.int .i64 (qa8 st.pods s st.pods.length).2.2.2])∧
   Below w.heap.size w w':=by
 obtain ⟨a5,cp5,rfl⟩:=qv H.r5
 have Hnd:=hnd
 go_enter Tryz.func35,Tryz.ntmps35
 go_wp2
 go_loopw [7,8] (fun n i wr=> ∃ k:Nat,k≤st.pods.length∧i= .int .i64 k∧n= .int .i64 (qa8 st.pods s k).2.2.2∧Below w.heap.size w wr∧wr.heap[w.heap.size]? =some (.cells #[.int .i64 0,.int .i64 0,.int .i64 0] 41 (0,0))∧
   wr.heap[w.heap.size+1]? =some (.cells #[.int .i64 (qa8 st.pods s k).1,.int .i64 (qa8 st.pods s k).2.1,.int .i64 (qa8 st.pods s k).2.2.1] 41 (0,0))) (fun _ i _=>st.pods.length - (intOf i).toNat)
 case atStart=>
  refine ⟨0,Nat.zero_le _,rfl,rfl,qj (qi _ _) (qi _ _),?_,?_⟩
  ·rw [Below.heap_alloc _ _ _ (by simp)];exact qm _ _
  ·have:=qm (w.alloc (.cells #[.int .i64 0,.int .i64 0,.int .i64 0] 41)) (.cells #[.int .i64 0,.int .i64 0,.int .i64 0] 41)
   simpa [qa8] using this
 case round=>
  obtain ⟨k,hk,rfl,rfl,hbw,hz0,hz1⟩:=hrel
  have H4:=H.kept (Kept.of_below (F:=qq) hbw) (fun _ _=>id)
  have hx4:=ql (i:=5) H4.box
  obtain ⟨b1,b2,b3,b4,b5,b6,b7,b8⟩:=qfa st.pods s hnd k
  by_cases hlt:k < st.pods.length
  ·obtain ⟨g,ho,hg,-,-⟩:=qbs H4.r5 (by omega)
   subst ho
   obtain ⟨k0,k1,k2,k3,k4,k5,k6,k7,k8,k9,k10,k11,k12,-,-⟩:=row13 H4.r5 k hlt
   obtain ⟨x,hxe⟩: ∃ x,x=st.pods[k]:=⟨_,rfl⟩
   simp only [← hxe] at k1 k2 k3 k10
   obtain ⟨x1,x2,x3,x4,x5,x6⟩:=hnd x (hxe▸List.getElem_mem hlt)
   have hu:qa8 st.pods s (k+1)=if x.node.toList==s.toList then ((qa8 st.pods s k).1+x.p.n0,(qa8 st.pods s k).2.1+x.p.n1,(qa8 st.pods s k).2.2.1+x.p.n2,(qa8 st.pods s k).2.2.2+1) else qa8 st.pods s k:=by
    rw [qa8,List.getElem?_eq_getElem hlt,← hxe]
   have Hxe:Hid (x=st.pods[k]):=hxe
   clear hxe k0 k4 k5 k6 k7 k8 k9 k11 k12
   generalize qa8 st.pods s k=U at *
   obtain ⟨u0,u1,u2,u3⟩:=U
   dsimp only at b1 b2 b3 b4 b5 b6 b7 b8 hz1 hu
   have HU:Hid (qa8 st.pods s (k+1)=if x.node.toList==s.toList then (u0+x.p.n0,u1+x.p.n1,u2+x.p.n2,u3+1) else (u0,u1,u2,u3)):=hu
   clear hu
   have Hz0:Hid (wr.heap[w.heap.size]? =some (.cells #[.int .i64 0,.int .i64 0,.int .i64 0] 41 (0,0))):=hz0
   have Hz1:Hid (wr.heap[w.heap.size+1]? =some (.cells #[.int .i64 u0,.int .i64 u1,.int .i64 u2] 41 (0,0))):=hz1
   clear hz0 hz1
   cases hE:(x.node.toList==s.toList)
   ·have HS:Hid (qa8 st.pods s (k+1)=(u0,u1,u2,u3)):=by show qa8 _ _ _=_;rw [HU.out,hE];rfl
    go_wp2
    go_roundw
    case rel=>exact ⟨k+1,by omega,by go_num,by rw [HS.out],hbw,Hz0.out,by rw [HS.out];exact Hz1.out⟩
    case measure=>simp [intOf];omega
   ·have HS:Hid (qa8 st.pods s (k+1)=(u0+x.p.n0,u1+x.p.n1,u2+x.p.n2,u3+1)):=by show qa8 _ _ _=_;rw [HU.out,hE];rfl
    have hgw:g≠w.heap.size+1:=by
     have:=(H.r5.lt g rfl).2
     omega
    go_wp2
    go_loopw [9] (fun j ws=> ∃ m:Nat,m≤3∧j= .int .i64 m∧Below w.heap.size w ws∧ws.heap[w.heap.size]? =some (.cells #[.int .i64 0,.int .i64 0,.int .i64 0] 41 (0,0))∧
      ws.heap[w.heap.size+1]? =some (.cells #[.int .i64 (if 0 < m then u0+x.p.n0 else u0),.int .i64 (if 1 < m then u1+x.p.n1 else u1),.int .i64 (if 2 < m then u2+x.p.n2 else u2)] 41 (0,0))) (fun j _=>3 - (intOf j).toNat)
    case atStart=>exact ⟨0,by omega,rfl,hbw,Hz0.out,Hz1.out⟩
    case round=>
     obtain ⟨m,hm,rfl,hbs,hy0,hy1⟩:=hrel
     have H5:=H.kept (Kept.of_below (F:=qq) hbs) (fun _ _=>id)
     have hx5:=ql (i:=5) H5.box
     obtain ⟨-,m1,m2,m3,-,-,-,-,-,-,-,-,-,-,-⟩:=row13 H5.r5 k hlt
     rw [← Hxe.out] at m1 m2 m3
     have m2':wr.cell? ⟨g,k * 13+1+1,none⟩=some (.int .i64 x.p.n1):=m2
     have m3':wr.cell? ⟨g,k * 13+1+2,none⟩=some (.int .i64 x.p.n2):=m3
     have hm':m=0∨m=1∨m=2∨m=3:=by omega
     clear hm
     rcases hm' with rfl| rfl| rfl| rfl
     ·have hy1':wr.heap[w.heap.size+1]? =some (.cells #[.int .i64 u0,.int .i64 u1,.int .i64 u2] 41 (0,0)):=by simpa using hy1
      have d0:wr.cell? ⟨w.heap.size+1,0,none⟩=some (.int .i64 u0):=by rw [ql hy1'];rfl
      have d1:wr.frozen? ⟨w.heap.size+1,0,none⟩=false:=qp hy1'
      have Hy1:Hid (wr.heap[w.heap.size+1]? =some (.cells #[.int .i64 u0,.int .i64 u1,.int .i64 u2] 41 (0,0))):=hy1'
      have Hy0:Hid (wr.heap[w.heap.size]? =some (.cells #[.int .i64 0,.int .i64 0,.int .i64 0] 41 (0,0))):=hy0
      clear hy1 hy1' hy0
      go_wp2
      go_region
      go_wp2
      go_roundw
      case rel=>
       refine ⟨1,by omega,rfl,(hbs.setCell (p:=⟨w.heap.size+1,0,none⟩) (by simp) _).drew,?_,?_⟩
       ·exact (qbt (by omega) _).trans Hy0.out
       ·exact (qs Hy1.out (.int .i64 (u0+x.p.n0))).trans (by simp)
      case measure=>simp [intOf]
     ·have hy1':wr.heap[w.heap.size+1]? =some (.cells #[.int .i64 (u0+x.p.n0),.int .i64 u1,.int .i64 u2] 41 (0,0)):=by simpa using hy1
      have d0:wr.cell? ⟨w.heap.size+1,1,none⟩=some (.int .i64 u1):=by rw [ql hy1'];rfl
      have d1:wr.frozen? ⟨w.heap.size+1,1,none⟩=false:=qp hy1'
      have Hy1:Hid (wr.heap[w.heap.size+1]? =some (.cells #[.int .i64 (u0+x.p.n0),.int .i64 u1,.int .i64 u2] 41 (0,0))):=hy1'
      have Hy0:Hid (wr.heap[w.heap.size]? =some (.cells #[.int .i64 0,.int .i64 0,.int .i64 0] 41 (0,0))):=hy0
      clear hy1 hy1' hy0
      go_wp2
      go_region
      go_wp2
      go_roundw
      case rel=>
       refine ⟨2,by omega,rfl,(hbs.setCell (p:=⟨w.heap.size+1,1,none⟩) (by simp) _).drew,?_,?_⟩
       ·exact (qbt (by omega) _).trans Hy0.out
       ·exact (qs Hy1.out (.int .i64 (u1+x.p.n1))).trans (by simp)
      case measure=>simp [intOf]
     ·have hy1':wr.heap[w.heap.size+1]? =some (.cells #[.int .i64 (u0+x.p.n0),.int .i64 (u1+x.p.n1),.int .i64 u2] 41 (0,0)):=by simpa using hy1
      have d0:wr.cell? ⟨w.heap.size+1,2,none⟩=some (.int .i64 u2):=by rw [ql hy1'];rfl
      have d1:wr.frozen? ⟨w.heap.size+1,2,none⟩=false:=qp hy1'
      have Hy1:Hid (wr.heap[w.heap.size+1]? =some (.cells #[.int .i64 (u0+x.p.n0),.int .i64 (u1+x.p.n1),.int .i64 u2] 41 (0,0))):=hy1'
      have Hy0:Hid (wr.heap[w.heap.size]? =some (.cells #[.int .i64 0,.int .i64 0,.int .i64 0] 41 (0,0))):=hy0
      clear hy1 hy1' hy0
      go_wp2
      go_region
      go_wp2
      go_roundw
      case rel=>
       refine ⟨3,by omega,rfl,(hbs.setCell (p:=⟨w.heap.size+1,2,none⟩) (by simp) _).drew,?_,?_⟩
       ·exact (qbt (by omega) _).trans Hy0.out
       ·exact (qs Hy1.out (.int .i64 (u2+x.p.n2))).trans (by simp)
      case measure=>simp [intOf]
     ·have hy1':wr.heap[w.heap.size+1]? =some (.cells #[.int .i64 (u0+x.p.n0),.int .i64 (u1+x.p.n1),.int .i64 (u2+x.p.n2)] 41 (0,0)):=by simpa using hy1
      have Hy1:Hid (wr.heap[w.heap.size+1]? =some (.cells #[.int .i64 (u0+x.p.n0),.int .i64 (u1+x.p.n1),.int .i64 (u2+x.p.n2)] 41 (0,0))):=hy1'
      clear hy1'
      have Hy0:Hid (wr.heap[w.heap.size]? =some (.cells #[.int .i64 0,.int .i64 0,.int .i64 0] 41 (0,0))):=hy0
      clear hy1 hy0
      go_wp2
      go_roundw
      case rel=>exact ⟨k+1,by omega,by go_num,by rw [HS.out],hbs,Hy0.out,by rw [HS.out];exact Hy1.out⟩
      case measure=>simp [intOf];omega
  ·have hkl:k=st.pods.length:=by omega
   rw [hkl] at hz1
   rw [hkl]
   clear hkl b1 b2 b3 b4 b5 b6 b7 b8
   obtain ⟨u0,u1,u2,u3,hU⟩: ∃ u0 u1 u2 u3,qa8 st.pods s st.pods.length=(u0,u1,u2,u3):=⟨_,_,_,_,rfl⟩
   rw [hU] at hz1
   rw [hU]
   dsimp only at hz1
   have HU:Hid (qa8 st.pods s st.pods.length=(u0,u1,u2,u3)):=hU
   clear hU
   have d0:wr.cell? ⟨w.heap.size+1,0,none⟩=some (.int .i64 u0):=by rw [ql hz1];rfl
   have d1:wr.cell? ⟨w.heap.size+1,1,none⟩=some (.int .i64 u1):=by rw [ql hz1];rfl
   have d2:wr.cell? ⟨w.heap.size+1,2,none⟩=some (.int .i64 u2):=by rw [ql hz1];rfl
   have e0:wr.cell? ⟨w.heap.size,0,none⟩=some (.int .i64 0):=by rw [ql hz0];rfl
   have e1:wr.cell? ⟨w.heap.size,1,none⟩=some (.int .i64 0):=by rw [ql hz0];rfl
   have e2:wr.cell? ⟨w.heap.size,2,none⟩=some (.int .i64 0):=by rw [ql hz0];rfl
   have f0:=qp (i:=0) hz0
   have f1:=qp (i:=1) hz0
   have f2:=qp (i:=2) hz0
   clear hz0 hz1
   go_wp2
   refine bodyPost_ret (v:= .tuple #[.agg #[.int .i64 u0,.int .i64 u1,.int .i64 u2],.int .i64 u3]) (by simp [results,Tryz.results35,go_sem,e0,e1,e2]) rfl ⟨by rw [HU.out],?_⟩
   exact ((hbw.setCell (p:=⟨w.heap.size,0,none⟩) (Nat.le_refl _) _).setCell (p:=⟨w.heap.size,1,none⟩) (Nat.le_refl _) _).setCell (p:=⟨w.heap.size,2,none⟩) (Nat.le_refl _) _
end
end Go.Proofs.YtchddaafibjmgaaGreat
