import Derived.Test.YtchddaafibjmgaaGreatME5
import Derived.Deep.MidRow
set_option maxRecDepth 100000
set_option maxHeartbeats 20000000
namespace Go.Proofs.YtchddaafibjmgaaGreat
section
open Go.RowKit Go.Maps
theorem OpenAt.pairNew {C:Nat→Prop} {w w' w2:World} {Zp Yp Yr Lp X:Nat} {F:Nat→Prop} {hold:Int} {rem whole:Bool} (h:OpenAt w w' Zp Yp Yr Lp X F hold rem whole) (h1:1≤hold) (h2:hold≤1000) (hb2:Below w'.heap.size w' w2) (hC: ∀ b,C b→w'.heap.size≤b∧b < w2.heap.size): ∃ D,Pair C D w2 Zp X (RefD.empty hold rem whole) 0∧ ∀ b,D b→w.heap.size≤b∧b < w'.heap.size:=by
  obtain ⟨D,⟨Yp',Yr',Lp',F',P',v4,v5,v6,v7,its,H,hn,hD⟩,hlow⟩:=h.pair (C:=fun _=>False) h1 h2 fun b hb=>hb.elim
  have hlt: ∀ b,D b→b < w'.heap.size:=fun b hb=>H.lt ((hD b).2 hb)
  have hits:its= []:=List.length_eq_zero_iff.1 (by omega)
  subst hits
  have H2:=H.below hb2
  have hcd: ∀ b,C b→ ¬ D b:=fun b hc hd=>by have h1:=hC b hc;have h2:=hlt b hd;omega
  have hfoot: ∀ b,C b→ ¬ qx Zp F' Yr' v4 v5 v6 v7 P' b:=fun b hc hp=>hcd b hc ((hD b).1 hp)
  refine ⟨D,⟨Yp',Yr',Lp',F',P',v4,v5,v6,v7,[],⟨H2.box,H2.bst,H2.ref,?_,RefD.sound.empty hold rem whole h1 h2,H2.pl,fun b hc=>(hC b hc).2,H2.zf,H2.zr,H2.zp,H2.fr,H2.fp,H2.rp,fun hc=>hfoot _ hc (.inl rfl),fun b hc hf=>hfoot b hc (.inr (.inl hf)),fun b hc hf=>hfoot b hc (.inr (.inr (.inl hf))),fun b hc hf=>hfoot b hc (.inr (.inr (.inr hf)))⟩,Nat.le_refl _,hD⟩,fun b hb=>⟨hlow b hb,hlt b hb⟩⟩
  obtain ⟨u1,u2,L,hP,_⟩:=H2.lent
  exact ⟨u1,u2,L,hP,fun it hi=>by simp at hi⟩
theorem steps_block {C:Nat→Prop} {w:World} {sb:Nat} {L:List qbr} (hb:w.heap[sb]? =some (.cells (L.flatMap fun o=>o.cells.toList).toArray 47 (0,0))) (hC:C sb) (hok: ∀ o∈L,o.ok C w):qbl C w (some ⟨sb,0,none⟩) L:=by
  intro k hk
  refine ⟨sb,0,rfl,hC,qo hb,fun j v hj=> ?_,hok _ (List.getElem_mem hk)⟩
  have hj20:j < 20:=by
    have:=(Array.getElem?_eq_some_iff.1 hj).1
    simpa [qbr.cells] using this
  have:=qc6 (fun o:qbr=>o.cells.toList) 20 (fun _=>rfl) L k j hk hj20
  rw [ql hb]
  simp only [Nat.zero_add,List.getElem?_toArray]
  rw [this]
  simpa using hj
theorem sizeSTb:(Tryz.prog.info? 47).map (·.size)=some 20:=by kernel_rfl
def noLst:Lst:=⟨none,[],0⟩
def noPod:PodD:=⟨⟨#[]⟩,0,0,0,0,noLst,noLst,noLst,noLst,noLst⟩
def noNode:qu:=⟨⟨#[]⟩,0,0,0,noLst,noLst⟩
def qgn (zb:Nat):Lst:=⟨some ⟨zb,0,none⟩,[(⟨#[122,111,110,101]⟩,⟨#[120]⟩)],1⟩
def qam (zb:Nat):List qbr:= [⟨0,1,0,⟨#[]⟩,⟨⟨#[98]⟩,20,10,0,qgn zb,noLst⟩,noPod⟩,⟨0,1,0,⟨#[]⟩,⟨⟨#[97]⟩,10,10,0,qgn zb,noLst⟩,noPod⟩,⟨0,3,0,⟨#[97]⟩,noNode,{ noPod with name:=⟨#[112]⟩ }⟩,⟨0,6,0,⟨#[112]⟩,noNode,noPod⟩,⟨0,10,0,⟨#[]⟩,noNode,noPod⟩]
theorem noLst_ok (w:World):noLst.ok w:=⟨by simp [noLst],by simp [noLst],qbd.nil _ _,fun x hx=>by simp [noLst] at hx⟩
theorem zone_ok {w:World} {zb:Nat} (hz:w.heap[zb]? =some (.cells #[.string ⟨#[122,111,110,101]⟩,.string ⟨#[120]⟩] 39 (0,0))):(qgn zb).ok w:=by
  refine ⟨by simp [qgn],by simp [qgn],fun k hk=> ?_,fun x hx=> ?_⟩
  · have hk0:k=0:=by simp [qgn] at hk;exact hk
    subst hk0
    exact ⟨zb,0,rfl,by rw [ql hz];rfl,by rw [ql hz];rfl⟩
  · simp only [qgn,List.mem_singleton] at hx
    subst hx
    exact ⟨by decide,by decide⟩
theorem lists_no {C:Nat→Prop} {w:World}:(∀ x∈noPod.lists,x.ok w∧x.inC C)∧ ∀ x∈noNode.lists,x.ok w∧x.inC C:=by
  constructor<;>intro x hx<;>simp only [noPod,noNode,PodD.lists,qu.lists,List.mem_cons,List.not_mem_nil,or_false,or_self] at hx<;>subst hx<;>exact ⟨noLst_ok w,fun h=>by simp [noLst] at h⟩
theorem begun_ok {C:Nat→Prop} {w:World} {zb:Nat} (hz:(qgn zb).ok w) (hC:C zb): ∀ o∈qam zb,o.ok C w:=by
  have hp:=(lists_no (C:=C) (w:=w)).1
  have hn:=(lists_no (C:=C) (w:=w)).2
  have hzn: ∀ (s:ByteArray) (a b c:Int),∀ x∈(⟨s,a,b,c,qgn zb,noLst⟩:qu).lists,x.ok w∧x.inC C:=fun s a b c x hx=>by
    simp only [qu.lists,List.mem_cons,List.not_mem_nil,or_false] at hx
    rcases hx with rfl| rfl
    · exact ⟨hz,fun _ p e=>by simp only [qgn,Option.some.injEq] at e;subst e;exact hC⟩
    · exact ⟨noLst_ok w,fun h=>by simp [noLst] at h⟩
  intro o ho
  simp only [qam,List.mem_cons,List.not_mem_nil,or_false] at ho
  rcases ho with rfl| rfl| rfl| rfl| rfl
  · exact ⟨by dsimp only;decide,⟨by dsimp only;decide,fun x hx=>(hzn _ _ _ _ x hx).1⟩,fun x hx=>(hzn _ _ _ _ x hx).2,⟨by dsimp only;decide,fun x hx=>(hp x hx).1⟩,fun x hx=>(hp x hx).2⟩
  · exact ⟨by dsimp only;decide,⟨by dsimp only;decide,fun x hx=>(hzn _ _ _ _ x hx).1⟩,fun x hx=>(hzn _ _ _ _ x hx).2,⟨by dsimp only;decide,fun x hx=>(hp x hx).1⟩,fun x hx=>(hp x hx).2⟩
  all_goals exact ⟨by decide,⟨by decide,fun x hx=>(hn x hx).1⟩,fun x hx=>(hn x hx).2,⟨by decide,fun x hx=>(hp x hx).1⟩,fun x hx=>(hp x hx).2⟩
theorem qbl.up {C C':Nat→Prop} {w:World} {a:Option Addr} {L:List qbr} (h:qbl C w a L) (hc: ∀ b,C b→C' b):qbl C' w a L:=by
  intro k hl
  obtain ⟨b,off,e,hC,hb,hcell,ho⟩:=h k hl
  exact ⟨b,off,e,hc b hC,hb,hcell,⟨ho.s,ho.n,fun x hx h0 p hp=>hc _ (ho.nc x hx h0 p hp),ho.p,fun x hx h0 p hp=>hc _ (ho.pc x hx h0 p hp)⟩⟩
def One (C:Nat→Prop) (B:Nat) (w:World) (Z X k:Nat):Prop:= ∃ D G st c0 c1 c2 c3,Pair C D w Z X st (5 * k)∧Book G w X c0 c1 c2 c3∧(∀ b,D b→ ¬ G b)∧(∀ b,C b→ ¬ G b)∧st.tally≤2 * k∧c0+st.waiting.length≤k∧c1≤k∧c2≤k∧c3≤k∧ ∀ b,D b∨G b→B≤b
theorem one_step {lets:Int→Prop} (hrule:StepRule lets) {C:Nat→Prop} {B:Nat} {w:World} {Z X k:Nat} (h:One C B w Z X k) (hBw:B≤w.heap.size) (o:qbr) (ho:o.ok C w) (hl:lets o.kind) (hk:k≤100):
    Calls Tryz.prog 9 #[.pointer (some ⟨Z,0,none⟩),.agg o.cells] w fun e w'=>e= .returned (.bool true)∧One C B w' Z X (k+1)∧Kept (fun b=>B≤b∧ ¬ C b) w w':=by
  obtain ⟨D,G,st,c0,c1,c2,c3,hp,hb,hDG,hCG,t,b0,b1,b2,b3,hB⟩:=h
  have hcf:=hp.cfoot
  refine (hrule C D G w Z X st (5 * k) c0 c1 c2 c3 o hp hb hDG hCG ho hl (by omega) (by omega) (by omega) (by omega) (by omega) (by omega)).mono ?_
  rintro e w' ⟨rfl,D',G',st',d0,d1,d2,d3,q1,q2,q3,q4,t',k0,k1,k2,k3⟩
  refine ⟨rfl,⟨D',G',st',d0,d1,d2,d3,by rw [show 5 * (k+1)=5 * k+5 from by omega];exact q1,q2,q4,fun b hc hg=> ?_,by omega,by omega,by omega,by omega,by omega,fun b h=> ?_⟩,q3.1.mono fun b _ h=>⟨hB b h,fun hc=>h.elim (hcf.1 b hc) (hCG b hc)⟩⟩
  · rcases q3.2 b (.inr hg) with h| h
    · exact h.elim (hcf.1 b hc) (hCG b hc)
    · have:=hcf.2 b hc;omega
  · rcases q3.2 b h with h| h
    · exact hB b h
    · omega
theorem begun_no (w:World):Calls Tryz.prog 6 #[.bool false] w fun e w'=>e= .returned (.bool true)∧Below w.heap.size w w':=by
  go_enter Tryz.func6,Tryz.ntmps6
  go_upto_region 8 with ((go_at_call 8;refine (opened_yes 5 false false _ _ (by omega) (by omega)).mono ?_;rintro e w1 ⟨Zp,Yp,Yr,Lp,F,rfl,hO⟩;have HO:Hid _:=hO;clear hO))
  change Code.wp _ _ _ _ ((w1.alloc (.cells #[.string ⟨#[122,111,110,101]⟩,.string ⟨#[120]⟩] 39)).alloc (.cells ((qam w1.heap.size).flatMap fun o=>o.cells.toList).toArray 47))
  obtain ⟨w2,hw2⟩: ∃ W,W=(w1.alloc (.cells #[.string ⟨#[122,111,110,101]⟩,.string ⟨#[120]⟩] 39)).alloc (.cells ((qam w1.heap.size).flatMap fun o=>o.cells.toList).toArray 47):=⟨_,rfl⟩
  rw [← hw2]
  have s2:w2.heap.size=w1.heap.size+2:=by rw [hw2];simp
  have hb12:Below w1.heap.size w1 w2:=by rw [hw2];exact qj (qi _ _) (qi _ _)
  have bz:w2.heap[w1.heap.size]? =some (.cells #[.string ⟨#[122,111,110,101]⟩,.string ⟨#[120]⟩] 39 (0,0)):=by
    rw [hw2,(qi _ _).block _ (by simp)]
    exact qm _ _
  have bs2:w2.heap[w1.heap.size+1]? =some (.cells ((qam w1.heap.size).flatMap fun o=>o.cells.toList).toArray 47 (0,0)):=by
    rw [hw2]
    have:=qm (w1.alloc (.cells #[.string ⟨#[122,111,110,101]⟩,.string ⟨#[120]⟩] 39)) (.cells ((qam w1.heap.size).flatMap fun o=>o.cells.toList).toArray 47)
    simpa using this
  have HL:Hid (qbl (fun b=>b=w1.heap.size∨b=w1.heap.size+1) w2 (some ⟨w1.heap.size+1,0,none⟩) (qam w1.heap.size)):=steps_block bs2 (.inr rfl) (begun_ok (zone_ok bz) (.inl rfl))
  have hb01:=HO.out.below
  have hbw:Below w.heap.size w w2:=qj (qj (qi _ _) hb01) hb12
  have h1:w.heap.size+1≤w1.heap.size:=by have:=hb01.size;simpa using this
  have HD0:Hid (One (fun b=>b=w1.heap.size∨b=w1.heap.size+1) w.heap.size w2 Zp w.heap.size 0):=by
    obtain ⟨D,hp,hD⟩:=HO.out.pairNew (C:=fun b=>b=w1.heap.size∨b=w1.heap.size+1) (by omega) (by omega) hb12 fun b hb=>by omega
    have hB:=((Book.init w).kept (Kept.of_below (F:=qq) hb01) fun _ _=>id).kept (Kept.of_below (F:=qq) hb12) fun _ _=>id
    refine ⟨D,_,_,0,0,0,0,hp,hB,fun b hd hg=> ?_,fun b hc hg=>by omega,Nat.le_refl _,Nat.le_refl _,Nat.le_refl _,Nat.le_refl _,Nat.le_refl _,fun b hb=> ?_⟩
    · have:=(hD b hd).1
      simp at this
      omega
    · rcases hb with hb| hb
      · have:=(hD b hb).1
        simp at this
        omega
      · omega
  have Hbw:Hid _:=hbw
  clear hw2 bz bs2 hb01 hbw hb12 HO
  go_wp2
  go_loopw [7] (fun i wr=> ∃ k:Nat,k≤5∧i= .int .i64 k∧One (fun b=>b=w1.heap.size∨b=w1.heap.size+1) w.heap.size wr Zp w.heap.size k∧qbl (fun b=>b=w1.heap.size∨b=w1.heap.size+1) wr (some ⟨w1.heap.size+1,0,none⟩) (qam w1.heap.size)∧Below w.heap.size w wr) (fun i _=>5 - (intOf i).toNat)
  case atStart=>exact ⟨0,by omega,rfl,HD0.out,HL.out,Hbw.out⟩
  case round=>
    clear HD0 HL Hbw
    obtain ⟨k,hk,rfl,hone,hst,hbr⟩:=hrel
    have HOn:Hid _:=hone
    have HSt:Hid (qbl (fun b=>b=w1.heap.size∨b=w1.heap.size+1) wr (some ⟨w1.heap.size+1,0,none⟩) (qam w1.heap.size)):=hst
    have HBr:Hid (Below w.heap.size w wr):=hbr
    clear hone hbr
    by_cases hlt:k < 5
    · have hlt':k < (qam w1.heap.size).length:=hlt
      obtain ⟨b,off,e,_,hlb,hc,hok⟩:=hst k hlt'
      simp only [Option.some.injEq,Addr.mk.injEq,and_true] at e
      obtain ⟨rfl,rfl⟩:=e
      have hl:(qam w1.heap.size)[k].kind≠4∧(qam w1.heap.size)[k].kind≠8∧(qam w1.heap.size)[k].kind≠9:=by
        have: ∀ o∈qam w1.heap.size,o.kind≠4∧o.kind≠8∧o.kind≠9:=by simp [qam]
        exact this _ (List.getElem_mem hlt')
      have cT:=one_step rule_keeps HOn.out HBr.out.size _ hok hl (by omega)
      generalize (qam w1.heap.size)[k]=o at *
      have HRg:Hid (wr.rangeAt (w1.heap.size+1) (k * 20) o.cells.toList):=fun j v hv=>by
        have:=hc j v (by simpa using hv)
        rwa [Nat.zero_add] at this
      clear hc hst hok hl
      go_wp2_with (first
        | (go_at_call 9;refine cT.mono ?_;rintro e w3 ⟨rfl,h1',h2'⟩)
        | (refine wpList_load_mid rfl 47 (.tmp 56) rfl (w1.heap.size+1) (k * 20) rfl o.cells.toList _ HRg.out Tryz.underlying47 rfl (by rw [sizeSTb];rfl) ?_;rw [Array.toArray_toList]))
      go_roundw
      case rel=>exact ⟨k+1,by omega,by go_num,h1',qbl.kept HSt.out h2' (fun b hb h=>h.2 hb),HBr.out.trans ((h2'.mono fun b _ h=>h.1).below HBr.out.size fun i hi h=>by omega)⟩
      case measure=>simp [intOf];omega
    · go_wp2
      go_ret
      exact ⟨rfl,HBr.out⟩
end
end Go.Proofs.YtchddaafibjmgaaGreat
