import Derived.Test.YtchddaafibjmgaaGreatME5
import Derived.Deep.MidRow
set_option maxRecDepth 100000
set_option maxHeartbeats 20000000
namespace Go.Proofs.YtchddaafibjmgaaGreat
section
open Go.RowKit Go.Maps
theorem OpenAt.pairNew {C:Nat→Prop} {w w' w2:World} {Zp Yp Yr Lp X:Nat} {F:Nat→Prop} {hold:Int} {rem whole:Bool} (h:OpenAt w w' Zp Yp Yr Lp X F hold rem whole) (h1:1≤hold) (h2:hold≤1000) (hb2:Below w'.heap.size w' w2) (hC: ∀ b,C b→w'.heap.size≤b∧b < w2.heap.size): ∃ D,Pair C D w2 Zp X (RefD.empty hold rem whole) 0∧ ∀ b,D b→w.heap.size≤b∧b < w'.heap.size:=by
 obtain ⟨D,⟨Yp',Yr',Lp',F',P',v4,v5,v6,v7,its,H,hn,hD⟩,hlow⟩:=h.pair (C:=fun _=>False) h1 h2 fun b hb=>hb.elim
 have hlt: ∀ b,D b→b < w'.heap.size:=fun b hb=>H.lt ((hD b).2 hb)
 have hits:its= []:=List.length_eq_zero_iff.1 (by omega)
 subst hits
 have H2:=H.below hb2
 have hcd: ∀ b,C b→ ¬ D b:=fun b hc hd=>by have h1:=hC b hc;have h2:=hlt b hd;omega
 have hfoot: ∀ b,C b→ ¬ qx Zp F' Yr' v4 v5 v6 v7 P' b:=fun b hc hp=>hcd b hc ((hD b).1 hp)
 refine ⟨D,⟨Yp',Yr',Lp',F',P',v4,v5,v6,v7,[],⟨H2.box,H2.bst,H2.ref,?_,RefD.sound.empty hold rem whole h1 h2,H2.pl,fun b hc=>(hC b hc).2,H2.zf,H2.zr,H2.zp,H2.fr,H2.fp,H2.rp,fun hc=>hfoot _ hc (.inl rfl),fun b hc hf=>hfoot b hc (.inr (.inl hf)),fun b hc hf=>hfoot b hc (.inr (.inr (.inl hf))),fun b hc hf=>hfoot b hc (.inr (.inr (.inr hf))),fun p hp=>by simp [RefD.empty] at hp⟩,Nat.le_refl _,hD⟩,fun b hb=>⟨hlow b hb,hlt b hb⟩⟩
 obtain ⟨u1,u2,L,hP,_⟩:=H2.lent
 exact ⟨u1,u2,L,hP,fun it hi=>by simp at hi⟩
theorem sizeSTb:(Tryz.prog.info? 47).map (·.size)=some 20:=by kernel_rfl
def noLst:Lst:=⟨none,[],0⟩
def noPod:PodD:=⟨⟨#[]⟩,0,0,0,0,noLst,noLst,noLst,noLst,noLst⟩
def noNode:qu:=⟨⟨#[]⟩,0,0,0,noLst,noLst⟩
def qgn (zb:Nat):Lst:=⟨some ⟨zb,0,none⟩,[(⟨#[122,111,110,101]⟩,⟨#[120]⟩)],1⟩
def qam (zb:Nat):List qbr:= [⟨0,1,0,⟨#[]⟩,⟨⟨#[98]⟩,20,10,0,qgn zb,noLst⟩,noPod⟩,⟨0,1,0,⟨#[]⟩,⟨⟨#[97]⟩,10,10,0,qgn zb,noLst⟩,noPod⟩,⟨0,3,0,⟨#[97]⟩,noNode,{ noPod with name:=⟨#[112]⟩ }⟩,⟨0,6,0,⟨#[112]⟩,noNode,noPod⟩,⟨0,10,0,⟨#[]⟩,noNode,noPod⟩]
theorem noLst_ok (w:World):noLst.ok w:=⟨by simp [noLst],by simp [noLst],qbd.nil _ _,fun x hx=>by simp [noLst] at hx⟩
theorem zone_ok {w:World} {zb:Nat} (hz:w.heap[zb]? =some (.cells #[.string ⟨#[122,111,110,101]⟩,.string ⟨#[120]⟩] 39 (0,0))):(qgn zb).ok w:=by
 refine ⟨by simp [qgn],by simp [qgn],fun k hk=> ?_,fun x hx=> ?_⟩
 ·have hk0:k=0:=by simp [qgn] at hk;exact hk
  subst hk0
  exact ⟨zb,0,rfl,by rw [ql hz];rfl,by rw [ql hz];rfl⟩
 ·simp only [qgn,List.mem_singleton] at hx
  subst hx
  exact ⟨by decide,by decide⟩
theorem lists_no {C:Nat→Prop} {w:World}:(∀ x∈noPod.lists,x.ok w∧x.inC C)∧ ∀ x∈noNode.lists,x.ok w∧x.inC C:=by
 constructor<;>intro x hx<;>simp only [noPod,noNode,PodD.lists,qu.lists,List.mem_cons,List.not_mem_nil,or_false,or_self] at hx<;>subst hx<;>exact ⟨noLst_ok w,fun h=>by simp [noLst] at h⟩
theorem begun_ok {C:Nat→Prop} {w:World} {zb:Nat} (hz:(qgn zb).ok w) (hC:C zb): ∀ o∈qam zb,o.ok C w:=by
 have hp:=(lists_no (C:=C) (w:=w)).1
 have hn:=(lists_no (C:=C) (w:=w)).2
 have hzn: ∀ (s:ByteArray) (a b c:Int),∀ x∈(⟨s,a,b,c,qgn zb,noLst⟩:qu).lists,x.ok w∧x.inC C:=fun s a b c x hx=>by
  simp only [qu.lists,List.mem_cons,List.not_mem_nil,or_false] at hx
  rcases hx with rfl| rfl
  ·exact ⟨hz,fun _ p e=>by simp only [qgn,Option.some.injEq] at e;subst e;exact hC⟩
  ·exact ⟨noLst_ok w,fun h=>by simp [noLst] at h⟩
 intro o ho
 simp only [qam,List.mem_cons,List.not_mem_nil,or_false] at ho
 rcases ho with rfl| rfl| rfl| rfl| rfl
 ·exact ⟨by dsimp only;decide,⟨by dsimp only;decide,fun x hx=>(hzn _ _ _ _ x hx).1⟩,fun x hx=>(hzn _ _ _ _ x hx).2,⟨by dsimp only;decide,fun x hx=>(hp x hx).1⟩,fun x hx=>(hp x hx).2,by dsimp only;decide⟩
 ·exact ⟨by dsimp only;decide,⟨by dsimp only;decide,fun x hx=>(hzn _ _ _ _ x hx).1⟩,fun x hx=>(hzn _ _ _ _ x hx).2,⟨by dsimp only;decide,fun x hx=>(hp x hx).1⟩,fun x hx=>(hp x hx).2,by dsimp only;decide⟩
 all_goals exact ⟨by decide,⟨by decide,fun x hx=>(hn x hx).1⟩,fun x hx=>(hn x hx).2,⟨by decide,fun x hx=>(hp x hx).1⟩,fun x hx=>(hp x hx).2,by dsimp only;decide⟩
theorem qbl.up {C C':Nat→Prop} {w:World} {a:Option Addr} {L:List qbr} (h:qbl C w a L) (hc: ∀ b,C b→C' b):qbl C' w a L:=by
 intro k hl
 obtain ⟨b,off,e,hC,hb,hcell,ho⟩:=h k hl
 exact ⟨b,off,e,hc b hC,hb,hcell,⟨ho.s,ho.n,fun x hx h0 p hp=>hc _ (ho.nc x hx h0 p hp),ho.p,fun x hx h0 p hp=>hc _ (ho.pc x hx h0 p hp),ho.i⟩⟩
def One (C:Nat→Prop) (B:Nat) (w:World) (Z X k:Nat):Prop:= ∃ D G st c0 c1 c2 c3,Pair C D w Z X st (5 * k)∧Book G w X c0 c1 c2 c3∧(∀ b,D b→ ¬ G b)∧(∀ b,C b→ ¬ G b)∧st.tally≤2 * k∧c0+st.waiting.length≤k∧c1≤k∧c2≤k∧c3≤k∧ ∀ b,D b∨G b→B≤b
theorem one_step {lets:Int→Prop} (hrule:StepRule lets) {C:Nat→Prop} {B:Nat} {w:World} {Z X k:Nat} (h:One C B w Z X k) (hBw:B≤w.heap.size) (o:qbr) (ho:o.ok C w) (hl:lets o.kind) (hk:k≤100):
  Calls Tryz.prog 9 #[.pointer (some ⟨Z,0,none⟩),.agg o.cells] w fun e w'=>e= .returned (.bool true)∧One C B w' Z X (k+1)∧Kept (fun b=>B≤b∧ ¬ C b) w w':=by
 obtain ⟨D,G,st,c0,c1,c2,c3,hp,hb,hDG,hCG,t,b0,b1,b2,b3,hB⟩:=h
 have hcf:=hp.cfoot
 refine (hrule C D G w Z X st (5 * k) c0 c1 c2 c3 o hp hb hDG hCG ho hl (by omega) (by omega) (by omega) (by omega) (by omega) (by omega)).mono ?_
 rintro e w' ⟨rfl,D',G',st',d0,d1,d2,d3,q1,q2,q3,q4,t',k0,k1,k2,k3⟩
 refine ⟨rfl,⟨D',G',st',d0,d1,d2,d3,by rw [show 5 * (k+1)=5 * k+5 from by omega];exact q1,q2,q4,fun b hc hg=> ?_,by omega,by omega,by omega,by omega,by omega,fun b h=> ?_⟩,q3.1.mono fun b _ h=>⟨hB b h,fun hc=>h.elim (hcf.1 b hc) (hCG b hc)⟩⟩
 ·rcases q3.2 b (.inr hg) with h| h
  ·exact h.elim (hcf.1 b hc) (hCG b hc)
  ·have:=hcf.2 b hc;omega
 ·rcases q3.2 b h with h| h
  ·exact hB b h
  ·omega
end
end Go.Proofs.YtchddaafibjmgaaGreat
