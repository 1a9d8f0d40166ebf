import Derived.Test.YtchddaafibjmgaaGreatMD2
import Derived.Test.YtchddaafibjmgaaGreatMD1
import Derived.Deep.QuietTactic
import Derived.BigQuiet
import Derived.BigRegion
set_option maxRecDepth 100000
set_option maxHeartbeats 20000000
namespace Go.Proofs.YtchddaafibjmgaaGreat
section
open Go.RowKit
structure qax where
 p:PodD
 node:ByteArray
 bound:Bool
 since:Int
def PodD.row (p:PodD):List Value:=p.cells.toList
def qu.row (n:qu):List Value:=n.cells.toList
def qax.row (x:qax):List Value:=x.p.row++ [.string x.node,.bool x.bound,.int .i64 x.since]
theorem PodD.row_length (p:PodD):p.row.length=10:=rfl
theorem qu.row_length (p:qu):p.row.length=6:=rfl
theorem qax.row_length (p:qax):p.row.length=13:=rfl
structure RefD where
 hold:Int
 rem:Bool
 whole:Bool
 now:Int
 nodes:List qu
 pods:List qax
 touched:List ByteArray
 waiting:List PodD
def qhm (w:World) (v:Value) (l:List PodD):Prop:=
 (v= .slice none 0 0∧l= [])∨ ∃ g off cap cur,v= .slice (some ⟨g,off,none⟩) l.length cap∧w.heap[g]? =some (.cells cur 45 (0,0))∧l.length≤cap∧cap≤maxLen∧off+cap * 10≤cur.size∧(cur.toList.drop off).take (l.length * 10)=l.flatMap PodD.row
theorem qhm.kept {F:Nat→Prop} {w w':World} {v:Value} {l:List PodD} (h:qhm w v l) (hk:Kept F w w') (hF: ∀ k,v.ownBlock=some k→ ¬ F k):qhm w' v l:=by
 rcases h with h| ⟨g,off,cap,cur,rfl,hg,r⟩
 ·exact .inl h
 ·exact .inr ⟨g,off,cap,cur,rfl,by rw [hk.block g (qo hg) (hF g rfl)];exact hg,r⟩
theorem qhm.lt {w:World} {v:Value} {l:List PodD} (h:qhm w v l) (k:Nat) (hk:v.ownBlock=some k):k < w.heap.size:=by
 rcases h with ⟨rfl,_⟩| ⟨g,off,cap,cur,rfl,hg,r⟩
 ·simp [Value.ownBlock] at hk
 ·simp [Value.ownBlock] at hk
  subst hk
  exact qo hg
def qau (Y:Nat) (v4 v5 v6 v7:Value) (b:Nat):Prop:=b=Y∨v4.ownBlock=some b∨v5.ownBlock=some b∨v6.ownBlock=some b∨v7.ownBlock=some b
def apartV (u v:Value):Prop:= ∀ k,u.ownBlock=some k→v.ownBlock≠some k
theorem apartV.symm {u v:Value} (h:apartV u v):apartV v u:=fun k hk e=>h k e hk
structure qbc (w:World) (Y:Nat) (st:RefD) (v4 v5 v6 v7:Value):Prop where
 box:w.heap[Y]? =some (.cells #[.int .i64 st.hold,.bool st.rem,.bool st.whole,.int .i64 st.now,v4,v5,v6,v7] 106 (0,0))
 r4:w.ownsRow 0 43 6 v4 st.nodes.length (st.nodes.flatMap qu.row)
 r5:w.ownsRow 0 110 13 v5 st.pods.length (st.pods.flatMap qax.row)
 r6:w.ownsRow 0 9 1 v6 st.touched.length (st.touched.map Value.string)
 r7:qhm w v7 st.waiting
 y4:v4.ownBlock≠some Y
 y5:v5.ownBlock≠some Y
 y6:v6.ownBlock≠some Y
 y7:v7.ownBlock≠some Y
 a45:apartV v4 v5
 a46:apartV v4 v6
 a47:apartV v4 v7
 a56:apartV v5 v6
 a57:apartV v5 v7
 a67:apartV v6 v7
theorem qbc.footLt {w:World} {Y:Nat} {st:RefD} {v4 v5 v6 v7:Value} (H:qbc w Y st v4 v5 v6 v7) {b:Nat} (h:qau Y v4 v5 v6 v7 b):b < w.heap.size:=by
 rcases h with rfl| h| h| h| h
 ·exact qo H.box
 ·exact (H.r4.lt b h).2
 ·exact (H.r5.lt b h).2
 ·exact (H.r6.lt b h).2
 ·exact H.r7.lt b h
theorem qbc.kept {F:Nat→Prop} {w w':World} {Y:Nat} {st:RefD} {v4 v5 v6 v7:Value} (H:qbc w Y st v4 v5 v6 v7) (hk:Kept F w w') (hF: ∀ b,qau Y v4 v5 v6 v7 b→ ¬ F b):qbc w' Y st v4 v5 v6 v7:=
 ⟨by rw [hk.block Y (qo H.box) (hF Y (.inl rfl))];exact H.box,hk.ownsRow H.r4 fun k h=>hF k (.inr (.inl h)),hk.ownsRow H.r5 fun k h=>hF k (.inr (.inr (.inl h))),hk.ownsRow H.r6 fun k h=>hF k (.inr (.inr (.inr (.inl h)))),
  H.r7.kept hk fun k h=>hF k (.inr (.inr (.inr (.inr h)))),H.y4,H.y5,H.y6,H.y7,H.a45,H.a46,H.a47,H.a56,H.a57,H.a67⟩
theorem qgi {α:Type} (f:α→List Value) (s:Nat) (hf: ∀ x,(f x).length=s): ∀ (xs:List α) (k j:Nat) (hk:k < xs.length),j < s→(xs.flatMap f)[k * s+j]? =(f xs[k])[j]?
 | x::xs,0,j,_,hj=>by
  rw [List.flatMap_cons,List.getElem?_append_left (by rw [hf];omega)]
  simp
 | x::xs,k+1,j,hk,hj=>by
  rw [List.flatMap_cons,List.getElem?_append_right (by rw [hf,Nat.add_mul];omega),hf,show (k+1) * s+j - s=k * s+j from by rw [Nat.add_mul];omega]
  simpa using qgi f s hf xs k j (by simpa using hk) hj
theorem qhj {α:Type} (f:α→List Value) (s:Nat) (hf: ∀ x,(f x).length=s) (xs:List α):(xs.flatMap f).length=xs.length * s:=by
 induction xs with
 | nil=>simp
 | cons x xs ih=>rw [List.flatMap_cons,List.length_append,ih,hf,List.length_cons,Nat.add_mul];omega
theorem qbs {w:World} {base:Nat} {e:TypeId} {ao:Option Addr} {s m cap n:Nat} {xs:List Value} (h:w.ownsRow base e s (.slice ao m cap) n xs) (hn:0 < n):
  ∃ g,ao=some ⟨g,0,none⟩∧g < w.heap.size∧(∀ i,i < n * s→w.cell? ⟨g,i,none⟩=xs[i]?)∧(∀ i,w.frozen? ⟨g,i,none⟩=false):=by
 rcases h.2 with ⟨_,rfl⟩| ⟨g,cap',cur,hv,_,hgg,_,_,_,htk⟩
 ·omega
 ·simp only [Value.slice.injEq] at hv
  refine ⟨g,hv.1,qo hgg,fun i hi=> ?_,fun i=>qp hgg⟩
  rw [ql hgg,← htk,List.getElem?_take,if_pos hi]
  simp
def qan (l:List ByteArray) (s:ByteArray):Option Nat:=l.findIdx? fun x=>x.toList==s.toList
def idxI:Option Nat→Int
 | some i=>i
 | none=> -1
theorem nameIdx_at {l:List ByteArray} {s:ByteArray} {k:Nat} (hk:k < l.length) (hno: ∀ j (h:j < k),(l[j].toList==s.toList)=false) (h:(l[k].toList==s.toList)=true):qan l s=some k:=by
 unfold qan
 rw [List.findIdx?_eq_some_iff_getElem]
 exact ⟨hk,h,fun j hj=>by simp [hno j hj]⟩
theorem nameIdx_none {l:List ByteArray} {s:ByteArray} (hno: ∀ j (h:j < l.length),(l[j].toList==s.toList)=false):qan l s=none:=by
 unfold qan
 rw [List.findIdx?_eq_none_iff]
 intro x hx
 obtain ⟨j,hj,rfl⟩:=List.getElem_of_mem hx
 exact hno j hj
theorem qu.row_name (n:qu):n.row[0]? =some (.string n.name):=rfl
theorem qax.row_name (n:qax):n.row[0]? =some (.string n.p.name):=rfl
theorem qg2 (Y:Nat) (st:RefD) (v4 v5 v6 v7:Value) (s:ByteArray) (w:World) (H:qbc w Y st v4 v5 v6 v7) (hn:st.nodes.length≤100000):
  Calls Tryz.prog 45 #[.pointer (some ⟨Y,0,none⟩),.string s] w fun e w'=>e= .returned (.int .i64 (idxI (qan (st.nodes.map (·.name)) s)))∧w'=w:=by
 obtain ⟨a4,c4,rfl⟩:=qv H.r4
 have hx:w.cell? ⟨Y,4,none⟩=some (.slice a4 st.nodes.length c4):=by rw [ql H.box];rfl
 go_enter Tryz.func45,Tryz.ntmps45
 go_wp2
 go_loop [5] (fun i=> ∃ k:Nat,k≤st.nodes.length∧i= .int .i64 k∧ ∀ j (h:j < st.nodes.length),j < k→(st.nodes[j].name.toList==s.toList)=false) (fun i=>st.nodes.length - (intOf i).toNat)
 case atStart=>exact ⟨0,Nat.zero_le _,rfl,fun j _ h=>by omega⟩
 case round=>
  obtain ⟨k,hk,rfl,hno⟩:=hrel
  have Hno:Hid (∀ j (h:j < st.nodes.length),j < k→(st.nodes[j].name.toList==s.toList)=false):=hno
  clear hno
  by_cases hlt:k < st.nodes.length
  ·obtain ⟨g,rfl,hg,hc,_⟩:=qbs H.r4 (by omega)
   have hc0:w.cell? ⟨g,k * 6,none⟩=some (.string st.nodes[k].name):=by
    rw [hc _ (by omega)]
    exact (qgi qu.row 6 qu.row_length st.nodes k 0 hlt (by omega)).trans (qu.row_name _)
   obtain ⟨nm,hnm⟩: ∃ nm,nm=st.nodes[k].name:=⟨_,rfl⟩
   rw [← hnm] at hc0
   have Hnm:Hid (nm=st.nodes[k].name):=hnm
   clear hnm hc
   cases hE:(nm.toList==s.toList)
   ·go_wp2
    go_round
    case rel=>
     refine ⟨k+1,by omega,by go_num,fun j h hj=> ?_⟩
     rcases Nat.lt_or_eq_of_le (Nat.le_of_lt_succ hj) with hj| rfl
     ·exact Hno.out j h hj
     ·rw [← Hnm.out];exact hE
    case measure=>simp [intOf];omega
   ·go_wp2
    go_ret
    have hi:qan (st.nodes.map (·.name)) s=some k:=nameIdx_at (by simpa using hlt) (fun j hj=>by simpa using Hno.out j (by omega) hj) (by rw [List.getElem_map,← Hnm.out];exact hE)
    exact ⟨by rw [hi];rfl,rfl⟩
  ·go_wp2
   go_ret
   have hi:qan (st.nodes.map (·.name)) s=none:=nameIdx_none fun j hj=>by
    rw [List.length_map] at hj
    simpa using Hno.out j hj (by omega)
   exact ⟨by rw [hi];rfl,rfl⟩
theorem rpod_any (Y:Nat) (st:RefD) (v4 v5 v6 v7:Value) (s:ByteArray) (w:World) (H:qbc w Y st v4 v5 v6 v7) (hn:st.pods.length≤100000):
  Calls Tryz.prog 57 #[.pointer (some ⟨Y,0,none⟩),.string s] w fun e w'=>e= .returned (.int .i64 (idxI (qan (st.pods.map (·.p.name)) s)))∧w'=w:=by
 obtain ⟨a4,c4,rfl⟩:=qv H.r5
 have hx:w.cell? ⟨Y,5,none⟩=some (.slice a4 st.pods.length c4):=by rw [ql H.box];rfl
 go_enter Tryz.func57,Tryz.ntmps57
 go_wp2
 go_loop [5] (fun i=> ∃ k:Nat,k≤st.pods.length∧i= .int .i64 k∧ ∀ j (h:j < st.pods.length),j < k→(st.pods[j].p.name.toList==s.toList)=false) (fun i=>st.pods.length - (intOf i).toNat)
 case atStart=>exact ⟨0,Nat.zero_le _,rfl,fun j _ h=>by omega⟩
 case round=>
  obtain ⟨k,hk,rfl,hno⟩:=hrel
  have Hno:Hid (∀ j (h:j < st.pods.length),j < k→(st.pods[j].p.name.toList==s.toList)=false):=hno
  clear hno
  by_cases hlt:k < st.pods.length
  ·obtain ⟨g,rfl,hg,hc,_⟩:=qbs H.r5 (by omega)
   have hc0:w.cell? ⟨g,k * 13,none⟩=some (.string st.pods[k].p.name):=by
    rw [hc _ (by omega)]
    exact (qgi qax.row 13 qax.row_length st.pods k 0 hlt (by omega)).trans (qax.row_name _)
   obtain ⟨nm,hnm⟩: ∃ nm,nm=st.pods[k].p.name:=⟨_,rfl⟩
   rw [← hnm] at hc0
   have Hnm:Hid (nm=st.pods[k].p.name):=hnm
   clear hnm hc
   cases hE:(nm.toList==s.toList)
   ·go_wp2
    go_round
    case rel=>
     refine ⟨k+1,by omega,by go_num,fun j h hj=> ?_⟩
     rcases Nat.lt_or_eq_of_le (Nat.le_of_lt_succ hj) with hj| rfl
     ·exact Hno.out j h hj
     ·rw [← Hnm.out];exact hE
    case measure=>simp [intOf];omega
   ·go_wp2
    go_ret
    have hi:qan (st.pods.map (·.p.name)) s=some k:=nameIdx_at (by simpa using hlt) (fun j hj=>by simpa using Hno.out j (by omega) hj) (by rw [List.getElem_map,← Hnm.out];exact hE)
    exact ⟨by rw [hi];rfl,rfl⟩
  ·go_wp2
   go_ret
   have hi:qan (st.pods.map (·.p.name)) s=none:=nameIdx_none fun j hj=>by
    rw [List.length_map] at hj
    simpa using Hno.out j hj (by omega)
   exact ⟨by rw [hi];rfl,rfl⟩
end
section
open Go.RowKit
section
variable {w w2:World} {Y:Nat} {st:RefD} {v4 v5 v6 v7:Value}
theorem box_set {b:Nat} {c:Array Value} {e:TypeId} (h:w.heap[b]? =some (.cells c e (0,0))) (i:Nat) (v:Value):(w.setCell ⟨b,i,none⟩ v).heap[b]? =some (.cells (c.setIfInBounds i v) e (0,0)):=qs h v
theorem qbc.put6 (H:qbc w Y st v4 v5 v6 v7) (K:Kept (fun b=>v6.ownBlock=some b) w w2) {v6':Value} {tl:List ByteArray} (ho:w2.ownsRow 0 9 1 v6' tl.length (tl.map Value.string))
  (hf: ∀ k,v6'.ownBlock=some k→v6.ownBlock=some k∨w.heap.size≤k):
  qbc (w2.setCell ⟨Y,6,none⟩ v6') Y { st with touched:=tl } v4 v5 v6' v7∧Kept (fun b=>b=Y∨v6.ownBlock=some b) w (w2.setCell ⟨Y,6,none⟩ v6'):=by
 have hY:=qo H.box
 have K1:Kept (fun b=>b=Y∨v6.ownBlock=some b) w (w2.setCell ⟨Y,6,none⟩ v6'):=(K.mono (G:=fun b=>b=Y∨v6.ownBlock=some b) fun _ _ h=> .inr h).setCell (p:=⟨Y,6,none⟩) (fun _=> .inl rfl) v6'
 have hb:w2.heap[Y]? =_:=(K.block Y hY H.y6).trans H.box
 have l4: ∀ k,v4.ownBlock=some k→k < w.heap.size:=fun k hk=>(H.r4.lt k hk).2
 have l5: ∀ k,v5.ownBlock=some k→k < w.heap.size:=fun k hk=>(H.r5.lt k hk).2
 have l7: ∀ k,v7.ownBlock=some k→k < w.heap.size:=fun k hk=>H.r7.lt k hk
 have y6':v6'.ownBlock≠some Y:=fun e=>(hf Y e).elim H.y6 (fun h=>by omega)
 refine ⟨⟨?_,?_,?_,?_,?_,H.y4,H.y5,y6',H.y7,H.a45,?_,H.a47,?_,H.a57,?_⟩,K1⟩
 ·exact box_set hb 6 v6'
 ·exact K1.ownsRow H.r4 fun k hk hF=>hF.elim (fun e=>H.y4 (e▸hk)) (fun e=>H.a46 k hk e)
 ·exact K1.ownsRow H.r5 fun k hk hF=>hF.elim (fun e=>H.y5 (e▸hk)) (fun e=>H.a56 k hk e)
 ·exact ((Kept.refl (fun b=>b=Y) w2).setCell (p:=⟨Y,6,none⟩) (fun _=>rfl) v6').ownsRow ho fun k hk e=>y6' (e▸hk)
 ·exact H.r7.kept K1 fun k hk hF=>hF.elim (fun e=>H.y7 (e▸hk)) (fun e=>H.a67 k e hk)
 ·exact fun k hk e=>(hf k e).elim (fun h=>H.a46 k hk h) (fun h=>by have:=l4 k hk;omega)
 ·exact fun k hk e=>(hf k e).elim (fun h=>H.a56 k hk h) (fun h=>by have:=l5 k hk;omega)
 ·exact fun k hk e=>(hf k hk).elim (fun h=>H.a67 k h e) (fun h=>by have:=l7 k e;omega)
theorem qbc.put4 (H:qbc w Y st v4 v5 v6 v7) (K:Kept qq w w2) {v4':Value} {l:List qu} (ho:w2.ownsRow 0 43 6 v4' l.length (l.flatMap qu.row)) (hf: ∀ k,v4'.ownBlock=some k→w.heap.size≤k):
  qbc (w2.setCell ⟨Y,4,none⟩ v4') Y { st with nodes:=l } v4' v5 v6 v7∧Kept (fun b=>b=Y) w (w2.setCell ⟨Y,4,none⟩ v4'):=by
 have hY:=qo H.box
 have K1:Kept (fun b=>b=Y) w (w2.setCell ⟨Y,4,none⟩ v4'):=(K.mono (G:=fun b=>b=Y) fun _ _ h=>h.elim).setCell (p:=⟨Y,4,none⟩) (fun _=>rfl) v4'
 have hb:w2.heap[Y]? =_:=(K.block Y hY (fun h=>h)).trans H.box
 have l5: ∀ k,v5.ownBlock=some k→k < w.heap.size:=fun k hk=>(H.r5.lt k hk).2
 have l6: ∀ k,v6.ownBlock=some k→k < w.heap.size:=fun k hk=>(H.r6.lt k hk).2
 have l7: ∀ k,v7.ownBlock=some k→k < w.heap.size:=fun k hk=>H.r7.lt k hk
 have y4':v4'.ownBlock≠some Y:=fun e=>by have:=hf Y e;omega
 refine ⟨⟨?_,?_,?_,?_,?_,y4',H.y5,H.y6,H.y7,?_,?_,?_,H.a56,H.a57,H.a67⟩,K1⟩
 ·exact box_set hb 4 v4'
 ·exact ((Kept.refl (fun b=>b=Y) w2).setCell (p:=⟨Y,4,none⟩) (fun _=>rfl) v4').ownsRow ho fun k hk e=>y4' (e▸hk)
 ·exact K1.ownsRow H.r5 fun k hk e=>H.y5 (e▸hk)
 ·exact K1.ownsRow H.r6 fun k hk e=>H.y6 (e▸hk)
 ·exact H.r7.kept K1 fun k hk e=>H.y7 (e▸hk)
 ·exact fun k hk e=>by have:=hf k hk;have:=l5 k e;omega
 ·exact fun k hk e=>by have:=hf k hk;have:=l6 k e;omega
 ·exact fun k hk e=>by have:=hf k hk;have:=l7 k e;omega
theorem qbc.put5 (H:qbc w Y st v4 v5 v6 v7) (K:Kept qq w w2) {v5':Value} {l:List qax} (ho:w2.ownsRow 0 110 13 v5' l.length (l.flatMap qax.row)) (hf: ∀ k,v5'.ownBlock=some k→w.heap.size≤k):
  qbc (w2.setCell ⟨Y,5,none⟩ v5') Y { st with pods:=l } v4 v5' v6 v7∧Kept (fun b=>b=Y) w (w2.setCell ⟨Y,5,none⟩ v5'):=by
 have hY:=qo H.box
 have K1:Kept (fun b=>b=Y) w (w2.setCell ⟨Y,5,none⟩ v5'):=(K.mono (G:=fun b=>b=Y) fun _ _ h=>h.elim).setCell (p:=⟨Y,5,none⟩) (fun _=>rfl) v5'
 have hb:w2.heap[Y]? =_:=(K.block Y hY (fun h=>h)).trans H.box
 have l4: ∀ k,v4.ownBlock=some k→k < w.heap.size:=fun k hk=>(H.r4.lt k hk).2
 have l6: ∀ k,v6.ownBlock=some k→k < w.heap.size:=fun k hk=>(H.r6.lt k hk).2
 have l7: ∀ k,v7.ownBlock=some k→k < w.heap.size:=fun k hk=>H.r7.lt k hk
 have y5':v5'.ownBlock≠some Y:=fun e=>by have:=hf Y e;omega
 refine ⟨⟨?_,?_,?_,?_,?_,H.y4,y5',H.y6,H.y7,?_,H.a46,H.a47,?_,?_,H.a67⟩,K1⟩
 ·exact box_set hb 5 v5'
 ·exact K1.ownsRow H.r4 fun k hk e=>H.y4 (e▸hk)
 ·exact ((Kept.refl (fun b=>b=Y) w2).setCell (p:=⟨Y,5,none⟩) (fun _=>rfl) v5').ownsRow ho fun k hk e=>y5' (e▸hk)
 ·exact K1.ownsRow H.r6 fun k hk e=>H.y6 (e▸hk)
 ·exact H.r7.kept K1 fun k hk e=>H.y7 (e▸hk)
 ·exact fun k hk e=>by have:=hf k e;have:=l4 k hk;omega
 ·exact fun k hk e=>by have:=hf k hk;have:=l6 k e;omega
 ·exact fun k hk e=>by have:=hf k hk;have:=l7 k e;omega
theorem qbc.put3 (H:qbc w Y st v4 v5 v6 v7) (n:Int):qbc (w.setCell ⟨Y,3,none⟩ (.int .i64 n)) Y { st with now:=n } v4 v5 v6 v7∧Kept (fun b=>b=Y) w (w.setCell ⟨Y,3,none⟩ (.int .i64 n)):=by
 have K1:Kept (fun b=>b=Y) w (w.setCell ⟨Y,3,none⟩ (.int .i64 n)):=(Kept.refl (fun b=>b=Y) w).setCell (p:=⟨Y,3,none⟩) (fun _=>rfl) _
 refine ⟨⟨box_set H.box 3 _,K1.ownsRow H.r4 fun k hk e=>H.y4 (e▸hk),K1.ownsRow H.r5 fun k hk e=>H.y5 (e▸hk),K1.ownsRow H.r6 fun k hk e=>H.y6 (e▸hk),H.r7.kept K1 fun k hk e=>H.y7 (e▸hk),H.y4,H.y5,H.y6,H.y7,H.a45,H.a46,H.a47,H.a56,H.a57,H.a67⟩,K1⟩
end
theorem Tryz.infoStr:(Tryz.prog.info? 9).map (fun i=>(i.zero,i.size,i.bytes))=some (some (.string ⟨#[]⟩),1,16):=by kernel_rfl
theorem touch_any (Y:Nat) (st:RefD) (v4 v5 v6 v7:Value) (s:ByteArray) (w:World) (H:qbc w Y st v4 v5 v6 v7) (hn:st.touched.length < 8796093022207):
  Calls Tryz.prog 46 #[.pointer (some ⟨Y,0,none⟩),.string s] w fun e w'=>e= .returned (.tuple #[])∧ ∃ v6',qbc w' Y { st with touched:=st.touched++ [s] } v4 v5 v6' v7∧
   Kept (fun b=>b=Y∨v6.ownBlock=some b) w w'∧ ∀ k,v6'.ownBlock=some k→v6.ownBlock=some k∨w.heap.size≤k:=by
 have hx:w.cell? ⟨Y,6,none⟩=some v6:=by rw [ql H.box];rfl
 have hY:=qo H.box
 have hY6:=H.y6
 obtain ⟨i1,hi1,hz10,hz11,hz12⟩:=info_parts Tryz.infoStr
 have hbox:=H.box
 have HB:Hid (w.heap[Y]? =some (.cells #[.int .i64 st.hold,.bool st.rem,.bool st.whole,.int .i64 st.now,v4,v5,v6,v7] 106 (0,0))):=hbox
 clear hbox
 go_enter Tryz.func46,Tryz.ntmps46
 go_wp2_with (at_builtin;refine qy _ rfl (.tmp 8) (.tmp 10) 103 rfl 9 i1 _ 1 16 Tryz.underlying103 hi1 hz10 hz11 hz12 rfl (by decide) v6 st.touched.length _ rfl (by exact H.r6.alloc _) ⟨w.heap.size,0,none⟩ 1 1 [.string s] rfl rfl (by exact cell_one_new _ _ _) (by intro u hu;simp at hu;subst hu;rfl) (by unfold maxLen;omega) (by omega) ?_;intro ao1 cp1 w2 ho1 hg1 hf1;have hb2:=(hg1.block Y (by simp;omega) (fun e=>hY6 e.symm)).trans ((Below.heap_alloc w _ Y hY).trans HB.out);have t1:=ql (i:=6) hb2;have t2:=qp (i:=6) hb2;have HB2:=HB;clear hb2)
 have ho2:w2.ownsRow 0 9 1 (.slice ao1 (st.touched.length+1) cp1) (st.touched++ [s]).length ((st.touched++ [s]).map Value.string):=by simpa using ho1
 have hfr: ∀ k,(Value.slice ao1 (st.touched.length+1) cp1).ownBlock=some k→v6.ownBlock=some k∨w.heap.size≤k:=fun k hk=>hf1.elim (fun e=> .inl (e▸hk)) (fun f=> .inr (by have:=f k hk;simp at this;omega))
 obtain ⟨g1,g2⟩:=H.put6 (((Kept.refl _ w).alloc _).grown hg1 fun k hk _=>hk) ho2 hfr
 go_end0
 exact ⟨rfl,_,g1,g2,hfr⟩
def RefD.admits (st:RefD) (s:ByteArray):Int:=if (qan (st.pods.map (·.p.name)) s).isSome then 5 else if 127 < st.pods.length then 6 else 0
theorem admits_any (Y:Nat) (st:RefD) (v4 v5 v6 v7:Value) (p:PodD) (w:World) (H:qbc w Y st v4 v5 v6 v7) (hn:st.pods.length≤100000):
  Calls Tryz.prog 51 #[.pointer (some ⟨Y,0,none⟩),.agg p.cells] w fun e w'=>e= .returned (.int .i64 (st.admits p.name))∧Below w.heap.size w w':=by
 obtain ⟨a4,c4,rfl⟩:=qv H.r5
 have hx:w.cell? ⟨Y,5,none⟩=some (.slice a4 st.pods.length c4):=by rw [ql H.box];rfl
 have hY:=qo H.box
 have c1:=fun o=>rpod_any Y st v4 _ v6 v7 p.name (w.alloc o) (H.kept ((Kept.refl qq w).alloc o) fun _ _=>id) hn
 unfold PodD.cells Lst.val
 cases hE:qan (st.pods.map (·.p.name)) p.name with
 | some i=>
  rw [hE] at c1
  have HE:Hid (st.admits p.name=5):=by show st.admits p.name=5;simp [RefD.admits,hE]
  clear hE
  unfold idxI at c1
  go_enter Tryz.func51,Tryz.ntmps51
  go_wp2_with (go_at_call 57;refine (c1 _).mono ?_;rintro e w' ⟨rfl,rfl⟩)
  go_ret
  exact ⟨by rw [HE.out];rfl,qi _ _⟩
 | none=>
  rw [hE] at c1
  unfold idxI at c1
  by_cases h7:127 < st.pods.length
  ·have HE:Hid (st.admits p.name=6):=by show st.admits p.name=6;simp [RefD.admits,hE,h7]
   clear hE
   go_enter Tryz.func51,Tryz.ntmps51
   go_wp2_with (go_at_call 57;refine (c1 _).mono ?_;rintro e w' ⟨rfl,rfl⟩)
   go_ret
   exact ⟨by rw [HE.out];rfl,qi _ _⟩
  ·have HE:Hid (st.admits p.name=0):=by show st.admits p.name=0;simp [RefD.admits,hE,h7]
   clear hE
   go_enter Tryz.func51,Tryz.ntmps51
   go_wp2_with (go_at_call 57;refine (c1 _).mono ?_;rintro e w' ⟨rfl,rfl⟩)
   go_ret
   exact ⟨by rw [HE.out];rfl,qi _ _⟩
end
section
section
variable {α:Type} (key:α→ByteArray)
def ltB (a b:ByteArray):Bool:=Op.bytesLess a.toList b.toList
def qb8 (x:α):List α→List α
 | []=> [x]
 | y::l=>if ltB (key x) (key y) then x::y::l else y::qb8 x l
def qca (x:α) (a:List α×Bool) (y:α):List α×Bool:=if !a.2&&ltB (key x) (key y) then (a.1++ [x]++ [y],true) else (a.1++ [y],a.2)
def qc8 (x:α) (l:List α) (k:Nat):List α×Bool:=(l.take k).foldl (qca key x) ([],false)
theorem insTo_succ (x:α) (l:List α) (k:Nat) (h:k < l.length):qc8 key x l (k+1)=qca key x (qc8 key x l k) l[k]:=by
 unfold qc8
 rw [List.take_succ_eq_append_getElem h,List.foldl_append]
 rfl
theorem ins_done (x:α) (l:List α) (acc:List α):l.foldl (qca key x) (acc,true)=(acc++l,true):=by
 induction l generalizing acc with
 | nil=>simp
 | cons y l ih=>simp [qca,ih]
theorem ins_fold (x:α) (l:List α) (acc:List α):
  (l.foldl (qca key x) (acc,false)).1++(if (l.foldl (qca key x) (acc,false)).2 then [] else [x])=acc++qb8 key x l:=by
 induction l generalizing acc with
 | nil=>simp [qb8]
 | cons y l ih=>
  rw [List.foldl_cons]
  by_cases h:ltB (key x) (key y)=true
  ·simp [qca,qb8,h,ins_done]
  ·simp only [qca,qb8,h,Bool.not_false,Bool.and_false,Bool.false_eq_true,if_false]
   rw [ih]
   simp
theorem ins_all_done (x:α) (l:List α) (h:(qc8 key x l l.length).2=true):(qc8 key x l l.length).1=qb8 key x l:=by
 have:=ins_fold key x l []
 unfold qc8 at h ⊢
 rw [List.take_length] at h ⊢
 rw [h] at this
 simpa using this
theorem ins_all_not (x:α) (l:List α) (h:(qc8 key x l l.length).2=false):(qc8 key x l l.length).1++ [x]=qb8 key x l:=by
 have:=ins_fold key x l []
 unfold qc8 at h ⊢
 rw [List.take_length] at h ⊢
 rw [h] at this
 simpa using this
theorem insTo_length (x:α) (l:List α) (k:Nat):(qc8 key x l k).1.length≤k+1∧((qc8 key x l k).2=false→(qc8 key x l k).1.length≤k):=by
 unfold qc8
 have hlen:(l.take k).length≤k:=by simp;omega
 have gen: ∀ (m:List α) (acc:List α) (d:Bool),((m.foldl (qca key x) (acc,d)).1.length≤acc.length+m.length+(if d then 0 else 1))∧((m.foldl (qca key x) (acc,d)).2=false→(m.foldl (qca key x) (acc,d)).1.length≤acc.length+m.length):=by
  intro m
  induction m with
  | nil=>intro acc d;simp
  | cons y m ih=>
   intro acc d
   rw [List.foldl_cons]
   cases d
   ·by_cases h:ltB (key x) (key y)=true
    ·have e:qca key x (acc,false) y=(acc++ [x]++ [y],true):=by simp [qca,h]
     rw [e]
     have:=ih (acc++ [x]++ [y]) true
     simp at this ⊢
     refine ⟨by omega,fun hf=> ?_⟩
     have hd:=ins_done key x m (acc++ [x]++ [y])
     simp at hd
     rw [hd] at hf
     simp at hf
    ·have e:qca key x (acc,false) y=(acc++ [y],false):=by simp [qca,h]
     rw [e]
     have:=ih (acc++ [y]) false
     simp at this ⊢
     refine ⟨by omega,fun hf=>by have:=this.2 hf;omega⟩
   ·have e:qca key x (acc,true) y=(acc++ [y],true):=by simp [qca]
    rw [e]
    have:=ih (acc++ [y]) true
    simp at this ⊢
    refine ⟨by omega,fun hf=>by have:=this.2 hf;omega⟩
 obtain ⟨g1,g2⟩:=gen (l.take k) [] false
 simp at g1 g2
 exact ⟨by omega,fun h=>by have:=g2 h;omega⟩
theorem qhi (x:α) (l:List α):(qb8 key x l).length=l.length+1:=by
 induction l with
 | nil=>rfl
 | cons y l ih=>
  unfold qb8
  split
  ·simp
  ·simp [ih]
theorem mem_insKey (x y:α) (l:List α):y∈qb8 key x l↔y=x∨y∈l:=by
 induction l with
 | nil=>simp [qb8]
 | cons z l ih=>
  unfold qb8
  split
  ·simp
  ·simp only [List.mem_cons,ih]
   constructor
   ·rintro (h| h| h)
    ·exact .inr (.inl h)
    ·exact .inl h
    ·exact .inr (.inr h)
   ·rintro (h| h| h)
    ·exact .inr (.inl h)
    ·exact .inl h
    ·exact .inr (.inr h)
end
end
section
open Go.RowKit
def RefD.putNode (st:RefD) (n:qu):Int×RefD:=
 if n.err≠0 then (n.err,st)
 else match qan (st.nodes.map (·.name)) n.name with
  | some i=>(0,{ st with nodes:=st.nodes.set i n,touched:=st.touched++ [n.name] })
  | none=>if 31 < st.nodes.length then (6,st) else (0,{ st with nodes:=qb8 (·.name) n st.nodes,touched:=st.touched++ [n.name] })
theorem qcr (w:World) (C:Array Value) (t:TypeId) (n:Nat) (hn:n=w.heap.size): ∀ j u,C.toList[j]? =some u→(w.alloc (.cells C t)).cell? ((⟨n,0,none⟩:Addr).add j)=some u:=by
 subst hn
 intro j u hj
 have e:((⟨w.heap.size,0,none⟩:Addr).add j)=⟨w.heap.size,j,none⟩:=by unfold Addr.add;split<;>simp_all
 rw [e,ql (qm w _)]
 simpa using hj
theorem qu.row_one (n:qu): ∀ u∈n.row,u.oneCell'=true:=by
 intro u hu
 simp only [qu.row,qu.cells,Lst.val,List.mem_cons,List.not_mem_nil,or_false] at hu
 rcases hu with rfl| rfl| rfl| rfl| rfl| rfl<;>rfl
theorem Tryz.infoRN:(Tryz.prog.info? 43).map (fun i=>(i.zero,i.size,i.bytes))=some (some (.agg #[.string ⟨#[]⟩,.int .i64 0,.int .i64 0,.int .i64 0,.slice none 0 0,.slice none 0 0]),6,88):=by kernel_rfl
theorem own_set {α:Type} (f:α→List Value) (s:Nat) (hs:0 < s) (hf: ∀ x,(f x).length=s) {w W:World} {e:TypeId} {g m cap:Nat} {xs:List α} (h:w.ownsRow 0 e s (.slice (some ⟨g,0,none⟩) m cap) xs.length (xs.flatMap f)) (i:Nat) (x:α)
  (hW: ∀ cur,w.heap[g]? =some (.cells cur e (0,0))→ ∃ cur',W.heap[g]? =some (.cells cur' e (0,0))∧cur'.size=cur.size∧ ∀ t,t < cur.size→cur'[t]? =if i * s≤t∧t < i * s+s then (f x)[t - i * s]? else cur[t]?):
  W.ownsRow 0 e s (.slice (some ⟨g,0,none⟩) m cap) (xs.set i x).length ((xs.set i x).flatMap f):=by
 rcases h.2 with ⟨hv,_⟩| ⟨g',cap',cur,hv,_,hgg,hnc,hcm,hcs,htk⟩
 ·simp at hv
 ·simp only [Value.slice.injEq,Option.some.injEq,Addr.mk.injEq,and_true] at hv
  obtain ⟨rfl,rfl,rfl⟩:=hv
  obtain ⟨cur',hg',hsz,hget⟩:=hW cur hgg
  refine ⟨by rw [qhj f s hf],.inr ⟨g,cap,cur',by simp,Nat.zero_le _,hg',by simpa using hnc,hcm,by rw [hsz];exact hcs,?_⟩⟩
  have hfit:xs.length * s≤cur.size:=by rw [hcs];exact Nat.mul_le_mul_right _ hnc
  apply List.ext_getElem?
  intro t
  rw [List.length_set,List.getElem?_take]
  by_cases ht:t < xs.length * s
  ·rw [if_pos ht]
   have hk:t / s < xs.length:=Nat.div_lt_of_lt_mul (by rw [Nat.mul_comm];exact ht)
   have hj:t % s < s:=Nat.mod_lt _ hs
   have hdm:t=t / s * s+t % s:=by rw [Nat.mul_comm];exact (Nat.div_add_mod t s).symm
   have hr:((xs.set i x).flatMap f)[t]? =(f ((xs.set i x)[t / s]'(by simpa using hk)))[t % s]? :=by
    have:=qgi f s hf (xs.set i x) (t / s) (t % s) (by simpa using hk) hj
    rw [← hdm] at this
    exact this
   have ho:(xs.flatMap f)[t]? =(f xs[t / s])[t % s]? :=by
    have:=qgi f s hf xs (t / s) (t % s) hk hj
    rw [← hdm] at this
    exact this
   have hc:cur[t]? =(xs.flatMap f)[t]? :=by
    rw [← htk,List.getElem?_take,if_pos ht]
    simp
   rw [hr,Array.getElem?_toList,hget t (by omega)]
   by_cases hki:t / s=i
   ·have h1:i * s≤t∧t < i * s+s:=by rw [← hki];exact ⟨Nat.div_mul_le_self t s,by generalize t / s * s=A at *;omega⟩
    rw [if_pos h1]
    have h2:t - i * s=t % s:=by rw [← hki];exact Nat.sub_eq_of_eq_add (by rw [Nat.add_comm];exact hdm)
    rw [h2]
    simp [hki]
   ·have h1: ¬ (i * s≤t∧t < i * s+s):=by
     rintro ⟨g1,g2⟩
     apply hki
     have h3:t - i * s < s:=by omega
     have:t=s * i+(t - i * s):=by rw [Nat.mul_comm s i];omega
     rw [this,Nat.mul_add_div hs,Nat.div_eq_of_lt h3,Nat.add_zero]
    rw [if_neg h1,hc,ho,List.getElem_set_ne (fun e=>hki e.symm)]
  ·rw [if_neg ht,List.getElem?_eq_none (by rw [qhj f s hf];simpa using ht)]
def qaq (w w':World) (Y:Nat) (st:RefD) (v4 v5 v6 v7:Value):Prop:=
 ∃ v4' v5' v6' v7',qbc w' Y st v4' v5' v6' v7'∧Kept (qau Y v4 v5 v6 v7) w w'∧ ∀ b,qau Y v4' v5' v6' v7' b→qau Y v4 v5 v6 v7 b∨w.heap.size≤b
theorem putNode_early (Y:Nat) (st:RefD) (v4 v5 v6 v7:Value) (n:qu) (w:World) (H:qbc w Y st v4 v5 v6 v7) (hok:n.ok w) (hn:st.nodes.length≤100)
  (he:n.err≠0∨(qan (st.nodes.map (·.name)) n.name=none∧31 < st.nodes.length)):
  Calls Tryz.prog 18 #[.pointer (some ⟨Y,0,none⟩),.agg n.cells] w fun e w'=>e= .returned (.int .i64 (st.putNode n).1)∧(st.putNode n).2=st∧Below w.heap.size w w':=by
 have hW:=fun o=>qi w o
 have c1:=fun o=>qgr n (w.alloc o) (hok.below (hW o))
 have hb: ∀ w1:World,Below w.heap.size w w1→qbc w1 Y st v4 v5 v6 v7:=fun w1 hb=>H.kept (Kept.of_below (F:=qq) hb) fun _ _=>id
 unfold qu.cells Lst.val
 unfold qu.cells Lst.val at c1
 by_cases h0:n.err=0
 ·obtain ⟨h1,h2⟩:=he.resolve_left (fun h=>h h0)
  have HE:Hid (st.putNode n=(6,st)):=by show st.putNode n=(6,st);simp [RefD.putNode,h0,h1,h2]
  have c2:=fun w1 hb1=>qg2 Y st v4 v5 v6 v7 n.name w1 (hb w1 hb1) (by omega)
  rw [h1] at c2
  unfold idxI at c2
  rw [h0] at c1
  obtain ⟨a4,cp4,rfl⟩:=qv H.r4
  have hY:=qo H.box
  have hx: ∀ w1,Below w.heap.size w w1→w1.cell? ⟨Y,4,none⟩=some (.slice a4 st.nodes.length cp4):=fun w1 hb1=>by rw [hb1.cell (p:=⟨Y,4,none⟩) hY,ql H.box];rfl
  have Hx:Hid (∀ w1,Below w.heap.size w w1→w1.cell? ⟨Y,4,none⟩=some (.slice a4 st.nodes.length cp4)):=hx
  clear h0 h1 he hx
  go_enter Tryz.func18,Tryz.ntmps18
  go_wp2_with (first
   | (go_at_call 44;refine (c1 _).mono ?_;rintro e w1 ⟨rfl,hb1⟩;have r1:=fun o=>hb1.cell (p:=⟨w.heap.size,o,none⟩) (by simp);have hB1:=qj (hW _) hb1;have hx1:=Hx.out w1 hB1)
   | (go_at_call 45;refine (c2 w1 hB1).mono ?_;rintro e w2 ⟨rfl,rfl⟩))
  go_ret
  exact ⟨by rw [HE.out];rfl,by rw [HE.out],hB1⟩
 ·have HE:Hid (st.putNode n=(n.err,st)):=by show st.putNode n=(n.err,st);simp [RefD.putNode,h0]
  have h0':(n.err != 0)=true:=by simpa using h0
  clear h0 he
  go_enter Tryz.func18,Tryz.ntmps18
  go_wp2_with (first
   | (go_at_call 44;refine (c1 _).mono ?_;rintro e w1 ⟨rfl,hb1⟩;have r1:=fun o=>hb1.cell (p:=⟨w.heap.size,o,none⟩) (by simp)))
  go_ret
  exact ⟨by rw [HE.out];rfl,by rw [HE.out],qj (hW _) hb1⟩
theorem row6 {w:World} {g m cap:Nat} {xs:List qu} (h:w.ownsRow 0 43 6 (.slice (some ⟨g,0,none⟩) m cap) xs.length (xs.flatMap qu.row)) (i:Nat) (hi:i < xs.length):
  w.cell? ⟨g,i * 6,none⟩=some (.string xs[i].name)∧w.cell? ⟨g,i * 6+1,none⟩=some (.int .i64 xs[i].r0)∧w.cell? ⟨g,i * 6+2,none⟩=some (.int .i64 xs[i].r1)∧w.cell? ⟨g,i * 6+3,none⟩=some (.int .i64 xs[i].r2)∧
   w.cell? ⟨g,i * 6+4,none⟩=some (xs[i].labels.val)∧w.cell? ⟨g,i * 6+5,none⟩=some (xs[i].taints.val)∧(∀ o,w.frozen? ⟨g,o,none⟩=false)∧g < w.heap.size:=by
 obtain ⟨g',e,hg,hc,hf⟩:=qbs h (by omega)
 simp only [Option.some.injEq,Addr.mk.injEq,and_true] at e
 subst e
 have key: ∀ j,j < 6→w.cell? ⟨g,i * 6+j,none⟩=xs[i].row[j]? :=fun j hj=>by rw [hc _ (by omega)];exact qgi qu.row 6 qu.row_length xs i j hi hj
 exact ⟨key 0 (by omega),key 1 (by omega),key 2 (by omega),key 3 (by omega),key 4 (by omega),key 5 (by omega),hf,hg⟩
theorem qbc.set4 {w W:World} {Y g cap:Nat} {st:RefD} {v5 v6 v7:Value} (H:qbc w Y st (.slice (some ⟨g,0,none⟩) st.nodes.length cap) v5 v6 v7) (i:Nat) (n:qu) (K:Kept (fun b=>b=g) w W)
  (hW: ∀ cur,w.heap[g]? =some (.cells cur 43 (0,0))→ ∃ cur',W.heap[g]? =some (.cells cur' 43 (0,0))∧cur'.size=cur.size∧ ∀ t,t < cur.size→cur'[t]? =if i * 6≤t∧t < i * 6+6 then n.row[t - i * 6]? else cur[t]?):
  qbc W Y { st with nodes:=st.nodes.set i n } (.slice (some ⟨g,0,none⟩) st.nodes.length cap) v5 v6 v7:=by
 have r:=own_set qu.row 6 (by omega) qu.row_length H.r4 i n hW
 have y4:=H.y4
 refine ⟨?_,r,K.ownsRow H.r5 fun k hk e=>H.a45 g rfl (e▸hk),K.ownsRow H.r6 fun k hk e=>H.a46 g rfl (e▸hk),H.r7.kept K fun k hk e=>H.a47 g rfl (e▸hk),H.y4,H.y5,H.y6,H.y7,H.a45,H.a46,H.a47,H.a56,H.a57,H.a67⟩
 rw [K.block Y (qo H.box) (fun e=>y4 (by rw [e];rfl))]
 exact H.box
theorem six_sets {w W:World} {g i:Nat} {u0 u1 u2 u3 u4 u5:Value} {e:TypeId}
  (hW:W=(((((w.setCell ⟨g,i * 6,none⟩ u0).setCell ⟨g,i * 6+1,none⟩ u1).setCell ⟨g,i * 6+2,none⟩ u2).setCell ⟨g,i * 6+3,none⟩ u3).setCell ⟨g,i * 6+4,none⟩ u4).setCell ⟨g,i * 6+5,none⟩ u5):
  Kept (fun b=>b=g) w W∧ ∀ cur,w.heap[g]? =some (.cells cur e (0,0))→ ∃ cur',W.heap[g]? =some (.cells cur' e (0,0))∧cur'.size=cur.size∧ ∀ t,t < cur.size→cur'[t]? =if i * 6≤t∧t < i * 6+6 then [u0,u1,u2,u3,u4,u5][t - i * 6]? else cur[t]? :=by
 subst hW
 constructor
 ·exact (((((((Kept.refl (fun b=>b=g) w).setCell (p:=⟨g,i * 6,none⟩) (fun _=>rfl) u0).setCell (p:=⟨g,i * 6+1,none⟩) (fun _=>rfl) u1).setCell (p:=⟨g,i * 6+2,none⟩) (fun _=>rfl) u2).setCell (p:=⟨g,i * 6+3,none⟩) (fun _=>rfl) u3).setCell (p:=⟨g,i * 6+4,none⟩) (fun _=>rfl) u4).setCell (p:=⟨g,i * 6+5,none⟩) (fun _=>rfl) u5)
 ·intro cur hg
  have hb:=qs (qs (qs (qs (qs (qs hg (i:=i * 6) u0) (i:=i * 6+1) u1) (i:=i * 6+2) u2) (i:=i * 6+3) u3) (i:=i * 6+4) u4) (i:=i * 6+5) u5
  refine ⟨_,hb,by simp only [Array.size_setIfInBounds],fun t ht=> ?_⟩
  clear hb hg
  by_cases h:i * 6≤t∧t < i * 6+6
  ·rw [if_pos h]
   have:t=i * 6∨t=i * 6+1∨t=i * 6+2∨t=i * 6+3∨t=i * 6+4∨t=i * 6+5:=by omega
   rcases this with rfl| rfl| rfl| rfl| rfl| rfl
   ·rw [Array.getElem?_setIfInBounds_ne (by omega),Array.getElem?_setIfInBounds_ne (by omega),Array.getElem?_setIfInBounds_ne (by omega),Array.getElem?_setIfInBounds_ne (by omega),Array.getElem?_setIfInBounds_ne (by omega),Array.getElem?_setIfInBounds_self_of_lt ht,Nat.sub_self];rfl
   ·rw [Array.getElem?_setIfInBounds_ne (by omega),Array.getElem?_setIfInBounds_ne (by omega),Array.getElem?_setIfInBounds_ne (by omega),Array.getElem?_setIfInBounds_ne (by omega),Array.getElem?_setIfInBounds_self_of_lt (by simp only [Array.size_setIfInBounds];exact ht),Nat.add_sub_cancel_left];rfl
   ·rw [Array.getElem?_setIfInBounds_ne (by omega),Array.getElem?_setIfInBounds_ne (by omega),Array.getElem?_setIfInBounds_ne (by omega),Array.getElem?_setIfInBounds_self_of_lt (by simp only [Array.size_setIfInBounds];exact ht),Nat.add_sub_cancel_left];rfl
   ·rw [Array.getElem?_setIfInBounds_ne (by omega),Array.getElem?_setIfInBounds_ne (by omega),Array.getElem?_setIfInBounds_self_of_lt (by simp only [Array.size_setIfInBounds];exact ht),Nat.add_sub_cancel_left];rfl
   ·rw [Array.getElem?_setIfInBounds_ne (by omega),Array.getElem?_setIfInBounds_self_of_lt (by simp only [Array.size_setIfInBounds];exact ht),Nat.add_sub_cancel_left];rfl
   ·rw [Array.getElem?_setIfInBounds_self_of_lt (by simp only [Array.size_setIfInBounds];exact ht),Nat.add_sub_cancel_left];rfl
  ·rw [if_neg h]
   rw [Array.getElem?_setIfInBounds_ne (by omega),Array.getElem?_setIfInBounds_ne (by omega),Array.getElem?_setIfInBounds_ne (by omega),Array.getElem?_setIfInBounds_ne (by omega),Array.getElem?_setIfInBounds_ne (by omega),Array.getElem?_setIfInBounds_ne (by omega)]
theorem putNode_found (Y:Nat) (st:RefD) (v4 v5 v6 v7:Value) (n:qu) (i:Nat) (w:World) (H:qbc w Y st v4 v5 v6 v7) (hok:n.ok w) (hn:st.nodes.length≤100) (ht:st.touched.length < 8796093022207)
  (h0:n.err=0) (h1:qan (st.nodes.map (·.name)) n.name=some i):
  Calls Tryz.prog 18 #[.pointer (some ⟨Y,0,none⟩),.agg n.cells] w fun e w'=>e= .returned (.int .i64 (st.putNode n).1)∧qaq w w' Y (st.putNode n).2 v4 v5 v6 v7:=by
 have hi:i < st.nodes.length:=by
  have:=(List.findIdx?_eq_some_iff_getElem.1 h1).1
  simpa using this
 have HE:Hid (st.putNode n=(0,{ st with nodes:=st.nodes.set i n,touched:=st.touched++ [n.name] })):=by show st.putNode n=_;simp [RefD.putNode,h0,h1]
 have hW:=fun o=>qi w o
 have c1:=fun o=>qgr n (w.alloc o) (hok.below (hW o))
 have hb: ∀ w1:World,Below w.heap.size w w1→qbc w1 Y st v4 v5 v6 v7:=fun w1 hb=>H.kept (Kept.of_below (F:=qq) hb) fun _ _=>id
 have c2:=fun w1 hb1=>qg2 Y st v4 v5 v6 v7 n.name w1 (hb w1 hb1) (by omega)
 have c3:=fun w1 hb1=>touch_any Y st v4 v5 v6 v7 n.name w1 (hb w1 hb1) ht
 rw [h1] at c2
 unfold idxI at c2
 rw [h0] at c1
 obtain ⟨a4,cp4,rfl⟩:=qv H.r4
 have hY:=qo H.box
 obtain ⟨g,rfl,hg,_,_⟩:=qbs H.r4 (by omega)
 have hi1:(0:Int)≤(i:Int):=by omega
 have hi2:(i:Int) < (st.nodes.length:Int):=by omega
 have nB: ¬ (w.heap.size=Y∨v6.ownBlock=some w.heap.size):=by
  rintro (h| h)
  ·omega
  ·have:=(H.r6.lt _ h).2;omega
 unfold qu.cells Lst.val at c1
 unfold qu.cells Lst.val
 clear h0 h1
 go_enter Tryz.func18,Tryz.ntmps18
 go_wp2_with (first
  | (go_at_call 44;refine (c1 _).mono ?_;rintro e w1 ⟨rfl,hb1⟩;have r1:=fun o=>hb1.cell (p:=⟨w.heap.size,o,none⟩) (by simp);have hB1:=qj (hW _) hb1;have z1:=hb1.size)
  | (go_at_call 45;refine (c2 w1 hB1).mono ?_;rintro e w2 ⟨rfl,rfl⟩)
  | (go_at_call 46;refine (c3 w2 hB1).mono ?_;rintro e w3 ⟨rfl,v6',H3,K3,hf3⟩;have r3:=fun o=>K3.cell (p:=⟨w.heap.size,o,none⟩) (by simp at z1;simp;omega) nB;have hx3:=ql (i:=4) H3.box;obtain ⟨k0,k1,k2,k3,k4,k5,kf,kg⟩:=row6 H3.r4 i hi))
 go_region
 go_wp2
 go_ret
 obtain ⟨K4,hset⟩:=six_sets (w:=w3) (g:=g) (i:=i) (e:=43) rfl
 have H4:=(H3.set4 i n K4 hset).kept ((Kept.refl qq _).drew) fun _ _=>id
 refine ⟨by rw [HE.out];rfl,_,_,_,_,by rw [HE.out];exact H4,?_,?_⟩
 ·have K1:Kept (qau Y (.slice (some ⟨g,0,none⟩) st.nodes.length cp4) v5 v6 v7) w w2:=Kept.of_below hB1
  exact (K1.trans K3 fun b _ hb=>hb.elim .inl (fun h=> .inr (.inr (.inr (.inl h))))).trans K4.drew fun b _ hb=> .inr (.inl (by rw [hb];rfl))
 ·rintro b (hb| hb| hb| hb| hb)
  ·exact .inl (.inl hb)
  ·exact .inl (.inr (.inl hb))
  ·exact .inl (.inr (.inr (.inl hb)))
  ·exact (hf3 b hb).elim (fun h=> .inl (.inr (.inr (.inr (.inl h))))) (fun h=> .inr (Nat.le_trans hB1.size h))
  ·exact .inl (.inr (.inr (.inr (.inr hb))))
end
end Go.Proofs.YtchddaafibjmgaaGreat
