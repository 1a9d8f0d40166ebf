import Derived.Test.YtchddaafibjmgaaGreatME3
import Derived.Test.YtchddaafibjmgaaGreatME1
import Derived.Test.YtchddaafibjmgaaGreatMD14
import Derived.Test.YtchddaafibjmgaaGreatMA25
import Derived.Test.YtchddaafibjmgaaGreatMF5
import Derived.Test.YtchddaafibjmgaaGreatMF1
import Derived.Deep.RegionHeld3
set_option maxRecDepth 100000
set_option maxHeartbeats 20000000
namespace Go.Proofs.YtchddaafibjmgaaGreat
section
open Go.RowKit Go.Maps
theorem infoSRT:(Tryz.prog.info? 95).map (fun i=>(i.zero,i.size,i.bytes))=some (some (.slice none 0 0),1,24):=by kernel_rfl
theorem sets_cell {g:Nat} {e:TypeId} {us:List Value} {o:Nat} {w:World} {cur:Array Value} (h:w.heap[g]? =some (.cells cur e (0,0))) {t:Nat} (ht:t < o∨o+us.length≤t):(sets g us o w).cell? ⟨g,t,none⟩=w.cell? ⟨g,t,none⟩:=by
 obtain ⟨cur',h1,h2,h3⟩:=sets_block g e us o w cur h
 rw [ql h1,ql h]
 by_cases hl:t < cur.size
 ·rw [h3 t hl,if_neg (by omega)]
 ·rw [Array.getElem?_eq_none (by omega),Array.getElem?_eq_none (by omega)]
theorem qdn.block {w:World} {e:TypeId} {mark:List Value} {g n cap k:Nat} (h:qdn w e mark (.slice (some ⟨g,0,none⟩) n cap) n k): ∃ cur,w.heap[g]? =some (.cells cur e (0,0)):=by
 rcases h.at' with ⟨h,_⟩| ⟨g',cap',cur,hv,hg,_⟩
 ·simp at h
 ·simp only [Value.slice.injEq,Option.some.injEq,Addr.mk.injEq,and_true,true_and] at hv
  obtain ⟨rfl,rfl⟩:=hv
  exact ⟨cur,hg⟩
def qhs (l:List (Rep×Option Addr×Nat)) (b:Nat):Prop:= ∃ x∈l,(Value.slice x.2.1 x.1.reasons.length x.2.2).ownBlock=some b
theorem reps_cell {w:World} {oo:Option Addr} {n oc:Nat} {l:List (Rep×Option Addr×Nat)} (R:w.ownsRow 0 97 5 (.slice oo n oc) n (l.flatMap qhp)) (hl:l.length=n) (i:Nat) (hi:i < l.length): ∃ g,oo=some ⟨g,0,none⟩∧w.cell? ⟨g,i * 5+3,none⟩=some (.slice l[i].2.1 l[i].1.reasons.length l[i].2.2):=by
 obtain ⟨g,e,_,c,_⟩:=qfd R (by omega)
 refine ⟨g,e,?_⟩
 have f:=qc6 qhp 5 (fun _=>rfl) l i 3 hi (by omega)
 rw [c (i * 5+3) (by omega),f]
 rfl
theorem reps_close {Gk:Nat→Prop} {wr w':World} {X c c0 c1 c2 c3 k oc k0:Nat} {oo a0:Option Addr} {v0 v1 v2:Value} {l0 l1 l2 l3:List Bk} (B:qf8 wr X v0 v1 v2 (.slice a0 c k0) l0 l1 l2 l3) (e0:l0.length=4 * c0) (e1:l1.length=4 * c1) (e2:l2.length=4 * c2) (e3:l3.length=4 * c3) (hc:c=4 * c3) (hG: ∀ b,qa7 X v0 v1 v2 (.slice a0 c k0) l0 l1 l2 l3 b↔Gk b) (ho: ∀ b,(Value.slice oo k oc).ownBlock=some b→ ¬ Gk b) (hc3:c3≤1000000000000) (hk:k≤128)
  (KM:qeh 97 95 [.int .i64 0,.string ⟨#[]⟩,.int .i64 0,.slice none 0 0,.int .i64 (-1 - (c:Int))] (.slice oo k oc) (.slice a0 c k0) c k (l3.map Bk.val) X 3 wr w'): ∃ G',Book G' w' X c0 c1 c2 (c3+1)∧Kept (fun b=>Gk b∨(Value.slice oo k oc).ownBlock=some b) wr w'∧ ∀ b,G' b→Gk b∨(Value.slice oo k oc).ownBlock=some b∨wr.heap.size≤b:=by
 obtain ⟨w1,W3,W,ao,cp,l,rfl,k1,M,k3,h4,hn',hrow,hv⟩:=KM
 obtain rfl:c=l3.length:=by omega
 rw [markI_len e3] at M
 obtain ⟨q1,q2,q3⟩:=B.more3 e3 (fun b hb hf=>ho b hb ((hG b).1 hf)) hc3 k1 M k3 h4 (fun x hx=>by have:=hn' x hx;omega) hrow hv
 exact ⟨_,⟨v0,v1,v2,_,l0,l1,l2,l3++l,q1,⟨e0,e1,e2,by rw [List.length_append,h4,e3];omega⟩,fun b=>Iff.rfl⟩,q2.mono fun b _ h=>h.imp (hG b).1 id,fun b hb=>(q3 b hb).imp (hG b).1 id⟩
theorem keepReplies_any {G:Nat→Prop} {w:World} {X c0 c1 c2 c3:Nat} (h:Book G w X c0 c1 c2 c3) {l:List (Rep×Option Addr×Nat)} {oo:Option Addr} {n oc:Nat} (hln:l.length=n) (R:w.ownsRow 0 97 5 (.slice oo n oc) n (l.flatMap qhp)) (hR: ∀ b,(Value.slice oo n oc).ownBlock=some b→ ¬ G b)
  (rs: ∀ x∈l,w.ownsRow 0 88 2 (.slice x.2.1 x.1.reasons.length x.2.2) x.1.reasons.length (x.1.reasons.flatMap qfb)) (rG: ∀ x∈l,∀ b,(Value.slice x.2.1 x.1.reasons.length x.2.2).ownBlock=some b→ ¬ G b) (dis:l.Pairwise fun x y=> ∀ b,(Value.slice x.2.1 x.1.reasons.length x.2.2).ownBlock=some b→(Value.slice y.2.1 y.1.reasons.length y.2.2).ownBlock≠some b) (hn:n≤128) (hrs: ∀ x∈l,x.1.reasons.length≤990) (hc0:c0+n≤1000000000000) (hc3:c3≤1000000000000):
  Calls Tryz.prog 63 #[.pointer (some ⟨X,0,none⟩),.slice oo n oc] w fun e w'=>e= .returned (.tuple #[])∧ ∃ G',Book G' w' X (c0+n) c1 c2 (c3+1)∧Kept (fun b=>G b∨(Value.slice oo n oc).ownBlock=some b∨qhs l b) w w'∧ ∀ b,G' b→G b∨(Value.slice oo n oc).ownBlock=some b∨qhs l b∨w.heap.size≤b:=by
 obtain ⟨c,hc⟩: ∃ c,c=4 * c3:=⟨_,rfl⟩
 obtain ⟨a3,k3,x3⟩: ∃ a3 k3,w.cell? ⟨X,3,none⟩=some (.slice a3 c k3):=by
  obtain ⟨v0,v1,v2,v3,l0,l1,l2,l3,B,hl,hG⟩:=h
  obtain ⟨a3,k3,rfl⟩:=qv B.b3.row
  refine ⟨a3,k3,?_⟩
  rw [ql B.box,hl.2.2.2,← hc]
  rfl
 have hcl:c≤4000000000000:=by omega
 have lX:=Book.lt h X (Book.x h)
 have HO:Hid (∀ u∈ [Value.int .i64 0,Value.string ⟨#[]⟩,Value.int .i64 0,Value.slice none 0 0,Value.int .i64 (-1 - (c:Int))],u.oneCell'=true):=by
  intro u hu
  simp only [List.mem_cons,List.not_mem_nil,or_false] at hu
  rcases hu with rfl| rfl| rfl| rfl| rfl<;>rfl
 obtain ⟨wm,hwm⟩: ∃ W,W=w.alloc (.cells #[.int .i64 0,.string ⟨#[]⟩,.int .i64 0,.slice none 0 0,.int .i64 (-1 - (c:Int))] 97):=⟨_,rfl⟩
 have hbm:Below w.heap.size w wm:=by rw [hwm];exact qi _ _
 have sm:wm.heap.size=w.heap.size+1:=by rw [hwm];simp
 have lz:w.heap.size < wm.heap.size:=by omega
 have bm:wm.heap[w.heap.size]? =some (.cells #[.int .i64 0,.string ⟨#[]⟩,.int .i64 0,.slice none 0 0,.int .i64 (-1 - (c:Int))] 97 (0,0)):=by rw [hwm];exact qm _ _
 have m0:wm.cell? ⟨w.heap.size,0,none⟩=some (.int .i64 0):=by rw [ql bm];rfl
 have m1:wm.cell? ⟨w.heap.size,1,none⟩=some (.string ⟨#[]⟩):=by rw [ql bm];rfl
 have m2:wm.cell? ⟨w.heap.size,2,none⟩=some (.int .i64 0):=by rw [ql bm];rfl
 have m3:wm.cell? ⟨w.heap.size,3,none⟩=some (.slice none 0 0):=by rw [ql bm];rfl
 have m4:wm.cell? ⟨w.heap.size,4,none⟩=some (.int .i64 (-1 - (c:Int))):=by rw [ql bm];rfl
 have HRlt:Hid (∀ b,(Value.slice oo n oc).ownBlock=some b→b < w.heap.size):=fun b h=>(R.lt b h).2
 have Hrl:Hid (∀ x∈l,∀ b,(Value.slice x.2.1 x.1.reasons.length x.2.2).ownBlock=some b→b < w.heap.size∧(Value.slice oo n oc).ownBlock≠some b):=fun x hx b hb=>⟨((rs x hx).lt b hb).2,fun e=>qce (rs x hx) R (by decide) hb e⟩
 have HNm:Hid (∀ k,¬ (G w.heap.size∨(Value.slice oo n oc).ownBlock=some w.heap.size∨qhs (l.take k) w.heap.size)):=fun k hh=>by
  rcases hh with hh| hh| ⟨x,hx,hh⟩
  ·exact Nat.lt_irrefl _ (Book.lt h _ hh)
  ·exact Nat.lt_irrefl _ (HRlt.out _ hh)
  ·exact Nat.lt_irrefl _ (Hrl.out x (List.mem_of_mem_take hx) _ hh).1
 have HF0:Hid (qdn wm 97 [.int .i64 0,.string ⟨#[]⟩,.int .i64 0,.slice none 0 0,.int .i64 (-1 - (c:Int))] (.slice oo n oc) n 0):=(qdn.start (mark:= [.int .i64 0,.string ⟨#[]⟩,.int .i64 0,.slice none 0 0,.int .i64 (-1 - (c:Int))]) R).kept (Kept.of_below (F:=qq) hbm) fun _ _=>id
 have HB0:Hid (Book G wm X c0 c1 c2 c3):=Book.kept h (Kept.of_below (F:=qq) hbm) fun _ _=>id
 have HC0:Hid (∀ i (hi:i < l.length),0≤i→ ∃ g,oo=some ⟨g,0,none⟩∧wm.cell? ⟨g,i * 5+3,none⟩=some (.slice l[i].2.1 l[i].1.reasons.length l[i].2.2)):=fun i hi _=>by
  obtain ⟨g,e,c⟩:=reps_cell R hln i hi
  have lg:g < w.heap.size:=HRlt.out g (by rw [e];rfl)
  exact ⟨g,e,(hbm.cell (p:=⟨g,i * 5+3,none⟩) lg).trans c⟩
 have HA:Hid _:=And.intro hR (And.intro rs (And.intro rG (And.intro dis hrs)))
 have HBm:Hid (Below w.heap.size w wm):=hbm
 have HL:Hid (l.length=n):=hln
 have Hc:Hid (c=4 * c3):=hc
 have HG:Hid (Book G w X c0 c1 c2 c3):=h
 clear hR rs rG dis hrs R bm h hbm hln hc sm
 go_enter Tryz.func63,Tryz.ntmps63
 go_wp2
 rw [← hwm]
 clear hwm x3
 go_loopw [5] (fun i wr=> ∃ (k:Nat) (Gk:Nat→Prop),k≤n∧i= .int .i64 k∧Book Gk wr X (c0+k) c1 c2 c3∧Kept (fun b=>G b∨(Value.slice oo n oc).ownBlock=some b∨qhs (l.take k) b) wm wr∧(∀ b,Gk b→G b∨qhs (l.take k) b∨wm.heap.size≤b)∧qdn wr 97 [.int .i64 0,.string ⟨#[]⟩,.int .i64 0,.slice none 0 0,.int .i64 (-1 - (c:Int))] (.slice oo n oc) n k∧ ∀ i (hi:i < l.length),k≤i→ ∃ g,oo=some ⟨g,0,none⟩∧wr.cell? ⟨g,i * 5+3,none⟩=some (.slice l[i].2.1 l[i].1.reasons.length l[i].2.2)) (fun i _=>n - (intOf i).toNat)
 case atStart=>exact ⟨0,G,Nat.zero_le _,rfl,HB0.out,Kept.refl _ _,fun b hb=> .inl hb,HF0.out,HC0.out⟩
 case round=>
  clear HB0 HF0 HC0
  obtain ⟨k,Gk,hk,rfl,hBk,hkr,hGk,hfr,hce⟩:=hrel
  have HBk:Hid (Book Gk wr X (c0+k) c1 c2 c3):=hBk
  have HGk:Hid (∀ b,Gk b→G b∨qhs (l.take k) b∨wm.heap.size≤b):=hGk
  have zm:w.heap.size < wr.heap.size:=Nat.lt_of_lt_of_le lz hkr.size
  have m0r:=(hkr.cell (p:=⟨w.heap.size,0,none⟩) lz (HNm.out k)).trans m0
  have m1r:=(hkr.cell (p:=⟨w.heap.size,1,none⟩) lz (HNm.out k)).trans m1
  have m2r:=(hkr.cell (p:=⟨w.heap.size,2,none⟩) lz (HNm.out k)).trans m2
  have m3r:=(hkr.cell (p:=⟨w.heap.size,3,none⟩) lz (HNm.out k)).trans m3
  have m4r:=(hkr.cell (p:=⟨w.heap.size,4,none⟩) lz (HNm.out k)).trans m4
  have Hng:Hid (∀ b,(Value.slice oo n oc).ownBlock=some b→ ¬ Gk b):=fun b hb hg=>by
   rcases hGk b hg with h| ⟨x,hx,h⟩| h
   ·exact HA.out.1 b hb h
   ·exact (Hrl.out x (List.mem_of_mem_take hx) b h).2 hb
   ·have:=HRlt.out b hb;omega
  have Hnm:Hid (¬ Gk w.heap.size):=fun hg=>by
   rcases hGk _ hg with h| h| h
   ·exact HNm.out k (.inl h)
   ·exact HNm.out k (.inr (.inr h))
   ·omega
  by_cases hlt:k < n
  ·have hlt':k < l.length:=by rw [HL.out];exact hlt
   obtain ⟨g,rfl,hu3⟩:=hce k hlt' (Nat.le_refl _)
   obtain ⟨g',e',lg,fz⟩:=hfr.here (by omega)
   simp only [Option.some.injEq,Addr.mk.injEq,and_true] at e'
   subst e'
   obtain ⟨u0,hu0⟩:=hfr.cell hlt (j:=0) (by simp)
   obtain ⟨u1,hu1⟩:=hfr.cell hlt (j:=1) (by simp)
   obtain ⟨u2,hu2⟩:=hfr.cell hlt (j:=2) (by simp)
   obtain ⟨u4,hu4⟩:=hfr.cell hlt (j:=4) (by simp)
   simp only [List.length_cons,List.length_nil,Nat.zero_add,Nat.reduceAdd,Nat.add_zero] at hu0 hu1 hu2 hu4
   obtain ⟨x,hx⟩: ∃ x,x=l[k]:=⟨_,rfl⟩
   rw [← hx] at hu3
   have hxl:x∈l:=by rw [hx];exact List.getElem_mem hlt'
   have Hnx:Hid (∀ b,(Value.slice x.2.1 x.1.reasons.length x.2.2).ownBlock=some b→ ¬ (G b∨(Value.slice (some ⟨g,0,none⟩) n oc).ownBlock=some b∨qhs (l.take k) b)):=fun b hb hh=>by
    rcases hh with hh| hh| ⟨y,hy,hh⟩
    ·exact HA.out.2.2.1 x hxl b hb hh
    ·exact (Hrl.out x hxl b hb).2 hh
    ·obtain ⟨j,hj,rfl⟩:=List.mem_take_iff_getElem.1 hy
     have hp:=List.pairwise_iff_getElem.1 HA.out.2.2.2.1 j k (by omega) hlt' (by omega) b hh
     rw [← hx] at hp
     exact hp hb
   have hxr:=hkr.ownsRow ((Kept.of_below (F:=qq) HBm.out).ownsRow (HA.out.2.1 x hxl) fun _ _=>id) Hnx.out
   have hxg: ∀ b,(Value.slice x.2.1 x.1.reasons.length x.2.2).ownBlock=some b→ ¬ Gk b:=fun b hb hg=>by
    rcases hGk b hg with h| h| h
    ·exact Hnx.out b hb (.inl h)
    ·exact Hnx.out b hb (.inr (.inr h))
    ·have:=(Hrl.out x hxl b hb).1;omega
   have cR:=keepReasons_any hBk hxr (HA.out.2.2.2.2 x hxl) hxg (by omega)
   have ng2: ¬ (Gk g∨(Value.slice x.2.1 x.1.reasons.length x.2.2).ownBlock=some g):=fun hh=>hh.elim (Hng.out g rfl) fun hh=>(Hrl.out x hxl g hh).2 rfl
   have nm2: ¬ (Gk w.heap.size∨(Value.slice x.2.1 x.1.reasons.length x.2.2).ownBlock=some w.heap.size):=fun hh=>hh.elim Hnm.out fun hh=>Nat.lt_irrefl _ (Hrl.out x hxl _ hh).1
   have HFr:Hid _:=hfr
   have HKr:Hid _:=hkr
   have HCe:Hid (∀ i (hi:i < l.length),k≤i→ ∃ g',(some ⟨g,0,none⟩:Option Addr)=some ⟨g',0,none⟩∧wr.cell? ⟨g',i * 5+3,none⟩=some (.slice l[i].2.1 l[i].1.reasons.length l[i].2.2)):=hce
   have Hx:Hid (x=l[k]):=hx
   have HNg:Hid (¬ (Gk g∨(Value.slice x.2.1 x.1.reasons.length x.2.2).ownBlock=some g)):=ng2
   clear hfr hkr hBk hGk hce hxr hxg hx
   go_wp2_with ((go_at_call 56;refine cR.mono ?_;rintro e w2 ⟨rfl,G2,B2,K2,hG2⟩;have e0:=(K2.cell (p:=⟨g,k * 5,none⟩) lg ng2).trans hu0;have f0:=(K2.frozen (p:=⟨g,k * 5,none⟩) lg ng2).trans (fz (k * 5));have e1:=(K2.cell (p:=⟨g,k * 5+1,none⟩) lg ng2).trans hu1;have f1:=(K2.frozen (p:=⟨g,k * 5+1,none⟩) lg ng2).trans (fz (k * 5+1));have e2:=(K2.cell (p:=⟨g,k * 5+2,none⟩) lg ng2).trans hu2;have f2:=(K2.frozen (p:=⟨g,k * 5+2,none⟩) lg ng2).trans (fz (k * 5+2));have e3:=(K2.cell (p:=⟨g,k * 5+3,none⟩) lg ng2).trans hu3;have f3:=(K2.frozen (p:=⟨g,k * 5+3,none⟩) lg ng2).trans (fz (k * 5+3));have e4:=(K2.cell (p:=⟨g,k * 5+4,none⟩) lg ng2).trans hu4;have f4:=(K2.frozen (p:=⟨g,k * 5+4,none⟩) lg ng2).trans (fz (k * 5+4));have n0:=(K2.cell (p:=⟨w.heap.size,0,none⟩) zm nm2).trans m0r;have n1:=(K2.cell (p:=⟨w.heap.size,1,none⟩) zm nm2).trans m1r;have n2:=(K2.cell (p:=⟨w.heap.size,2,none⟩) zm nm2).trans m2r;have n3:=(K2.cell (p:=⟨w.heap.size,3,none⟩) zm nm2).trans m3r;have n4:=(K2.cell (p:=⟨w.heap.size,4,none⟩) zm nm2).trans m4r;have HB2:Hid (Book G2 w2 X (c0+k+1) c1 c2 c3):=B2;have HK2:Hid (Kept (fun b=>Gk b∨(Value.slice x.2.1 x.1.reasons.length x.2.2).ownBlock=some b) wr w2):=K2;have HG2:Hid _:=hG2;clear B2 K2 hG2))
   go_roundw
   case rel=>
    have hF2:=HFr.out.kept HK2.out fun b hb hh=>by
     cases hb
     exact HNg.out hh
    obtain ⟨cur,hcur⟩:=hF2.block
    have hs2:=HK2.out.size
    have hsr:=HKr.out.size
    have xin:x∈l.take (k+1):=by rw [Hx.out];exact List.mem_take_iff_getElem.2 ⟨k,by omega,rfl⟩
    have up: ∀ b,qhs (l.take k) b→qhs (l.take (k+1)) b:=fun b ⟨y,hy,hb⟩=>⟨y,by obtain ⟨j,hj,rfl⟩:=List.mem_take_iff_getElem.1 hy;exact List.mem_take_iff_getElem.2 ⟨j,by omega,rfl⟩,hb⟩
    have hG3: ∀ b,G2 b→G b∨qhs (l.take (k+1)) b∨wm.heap.size≤b:=fun b hb=>by
     rcases HG2.out b hb with h| h| h
     ·exact (HGk.out b h).imp id fun h=>h.imp (up b) id
     ·exact .inr (.inl ⟨x,xin,h⟩)
     ·exact .inr (.inr (by omega))
    have hgn: ∀ b,G2 b→b≠g:=fun b hb e=>by
     subst e
     rcases hG3 b hb with h| ⟨y,hy,h⟩| h
     ·exact HA.out.1 b rfl h
     ·exact (Hrl.out y (List.mem_of_mem_take hy) b h).2 rfl
     ·have:=HRlt.out b rfl;omega
    have hB3:Book G2 (sets g [.int .i64 0,.string ⟨#[]⟩,.int .i64 0,.slice none 0 0,.int .i64 (-1 - (c:Int))] (k * 5) w2) X (c0+(k+1)) c1 c2 c3:=Book.kept HB2.out (qg1 g [.int .i64 0,.string ⟨#[]⟩,.int .i64 0,.slice none 0 0,.int .i64 (-1 - (c:Int))] (k * 5) w2) hgn
    have hK3:Kept (fun b=>G b∨(Value.slice (some ⟨g,0,none⟩) n oc).ownBlock=some b∨qhs (l.take (k+1)) b) wm (sets g [.int .i64 0,.string ⟨#[]⟩,.int .i64 0,.slice none 0 0,.int .i64 (-1 - (c:Int))] (k * 5) w2):=by
     refine ((HKr.out.mono fun b _ h=>h.imp id fun h=>h.imp id (up b)).trans HK2.out fun b hb h=> ?_).trans (qg1 g [.int .i64 0,.string ⟨#[]⟩,.int .i64 0,.slice none 0 0,.int .i64 (-1 - (c:Int))] (k * 5) w2) fun b _ h=> .inr (.inl (by rw [h];rfl))
     rcases h with h| h
     ·rcases HGk.out b h with h| h| h
      ·exact .inl h
      ·exact .inr (.inr (up b h))
      ·omega
     ·exact .inr (.inr ⟨x,xin,h⟩)
    have hF3:qdn (sets g [.int .i64 0,.string ⟨#[]⟩,.int .i64 0,.slice none 0 0,.int .i64 (-1 - (c:Int))] (k * 5) w2) 97 [.int .i64 0,.string ⟨#[]⟩,.int .i64 0,.slice none 0 0,.int .i64 (-1 - (c:Int))] (.slice (some ⟨g,0,none⟩) n oc) n (k+1):=hF2.set hlt
    have hC3: ∀ i (hi:i < l.length),k+1≤i→ ∃ g',(some ⟨g,0,none⟩:Option Addr)=some ⟨g',0,none⟩∧(sets g [.int .i64 0,.string ⟨#[]⟩,.int .i64 0,.slice none 0 0,.int .i64 (-1 - (c:Int))] (k * 5) w2).cell? ⟨g',i * 5+3,none⟩=some (.slice l[i].2.1 l[i].1.reasons.length l[i].2.2):=fun i hi hki=>by
     obtain ⟨g',e,hcc⟩:=HCe.out i hi (by omega)
     simp only [Option.some.injEq,Addr.mk.injEq,and_true] at e
     subst e
     exact ⟨g,rfl,(sets_cell hcur (.inr (by show k * 5+5≤i * 5+3;omega))).trans ((HK2.out.cell (p:=⟨g,i * 5+3,none⟩) lg HNg.out).trans hcc)⟩
    exact ⟨k+1,G2,by omega,by go_num,hB3,hK3,hG3,hF3,hC3⟩
   case measure=>simp [intOf];omega
  ·obtain rfl:k=n:=by omega
   have R1:=hfr.done (by simp)
   obtain ⟨v0,v1,v2,v3,l0,l1,l2,l3,B,hl,hGG⟩:=hBk
   obtain ⟨a0,k0,rfl⟩:=qv B.b3.row
   have hl3:l3.length=c:=by rw [hl.2.2.2,Hc.out]
   rw [hl3] at B hGG
   have B3:=B.b3.row
   rw [hl3] at B3
   have inG: ∀ b,(Value.slice a0 c k0).ownBlock=some b→Gk b:=fun b hb=>(hGG b).1 (.inr (.inr (.inr (.inr (.inl hb)))))
   have y0r:wr.cell? ⟨X,3,none⟩=some (.slice a0 c k0):=by rw [ql B.box];rfl
   have fzX:wr.frozen? ⟨X,3,none⟩=false:=qp B.box
   have zX:X < wr.heap.size:=qo B.box
   have M0:MG 97 [.int .i64 0,.string ⟨#[]⟩,.int .i64 0,.slice none 0 0,.int .i64 (-1 - (c:Int))] wr (Value.slice oo k oc).ownBlock wr [⟨oo,k,oc⟩]:=⟨Kept.refl _ _,fun x hx=>by rw [List.mem_singleton] at hx;subst hx;exact R1,fun x hx b hb=>by rw [List.mem_singleton] at hx;subst hx;exact .inl hb,fun b hb=>(R1.lt b hb).2⟩
   have hB:Hid (wr.ownsRow 0 95 1 (.slice a0 c k0) c (l3.map Bk.val)):=B3
   have HM0:Hid _:=M0
   have HX:Hid ((Value.slice oo k oc).ownBlock≠some X∧(Value.slice oo k oc).ownBlock≠some w.heap.size):=⟨fun h=>Hng.out X h (Book.x HBk.out),fun h=>Nat.lt_irrefl _ (HRlt.out _ h)⟩
   have HV:Hid ((∀ b,(Value.slice a0 c k0).ownBlock=some b→(Value.slice oo k oc).ownBlock≠some b)∧ ¬ (Value.slice a0 c k0).ownBlock=some X∧ ¬ (Value.slice a0 c k0).ownBlock=some w.heap.size):=⟨fun b h h'=>Hng.out b h' (inG b h),fun h=>by
    obtain ⟨cur,hcur⟩:=qby B3 h
    rw [B.box] at hcur
    simp at hcur,fun h=>Hnm.out (inG _ h)⟩
   have HS0:Hid (wr.drew.cell? ⟨X,3,none⟩=some (.slice a0 c k0)∧wr.drew.cell? ⟨w.heap.size,0,none⟩=some (.int .i64 0)∧wr.drew.cell? ⟨w.heap.size,1,none⟩=some (.string ⟨#[]⟩)∧wr.drew.cell? ⟨w.heap.size,2,none⟩=some (.int .i64 0)∧wr.drew.cell? ⟨w.heap.size,3,none⟩=some (.slice none 0 0)∧wr.drew.cell? ⟨w.heap.size,4,none⟩=some (.int .i64 (-1 - (c:Int)))):=⟨y0r,m0r,m1r,m2r,m3r,m4r⟩
   have HKr:Hid (Kept (fun b=>G b∨(Value.slice oo k oc).ownBlock=some b∨qhs (l.take k) b) wm wr):=hkr
   have Hfin:Hid (∀ w',qeh 97 95 [.int .i64 0,.string ⟨#[]⟩,.int .i64 0,.slice none 0 0,.int .i64 (-1 - (c:Int))] (.slice oo k oc) (.slice a0 c k0) c k (l3.map Bk.val) X 3 wr w'→ ∃ G',Book G' w' X (c0+k) c1 c2 (c3+1)∧Kept (fun b=>Gk b∨(Value.slice oo k oc).ownBlock=some b) wr w'∧ ∀ b,G' b→Gk b∨(Value.slice oo k oc).ownBlock=some b∨wr.heap.size≤b):=fun w' KM=>reps_close B hl.1 hl.2.1 hl.2.2.1 hl.2.2.2 Hc.out hGG (fun b hb=>Hng.out b hb) hc3 hn KM
   clear hfr hkr hce hGk B hl hGG B3 inG R1 M0 hl3 hlt hk m0 m1 m2 m3 m4
   go_wp2
   have hHeld:=HS0.out
   refine qfy 25 (fun w'=>w'.cell? ⟨X,3,none⟩=some (.slice a0 c k0)∧w'.cell? ⟨w.heap.size,0,none⟩=some (.int .i64 0)∧w'.cell? ⟨w.heap.size,1,none⟩=some (.string ⟨#[]⟩)∧w'.cell? ⟨w.heap.size,2,none⟩=some (.int .i64 0)∧w'.cell? ⟨w.heap.size,3,none⟩=some (.slice none 0 0)∧w'.cell? ⟨w.heap.size,4,none⟩=some (.int .i64 (-1 - (c:Int)))) #[false,false,false,false,false,false,false,false,false,false,false,false,false,false,false,false,false,false,false,false,false,false,false,false,false,false] (by kernel_rfl) rfl ?_
   refine qhr HS0.out 0 (some 30) [] ?_
   simp only [Act.put,pt]
   refine qhr HS0.out 1 (some 31) [] ?_
   simp only [Act.put,pt]
   refine qhr HS0.out 2 (some 32) [] ?_
   simp only [Act.put,pt]
   refine qhr HS0.out 3 (some 33) [] ?_
   simp only [Act.put,pt]
   refine qhr HS0.out 4 (some 34) [] ?_
   simp only [Act.put,pt]
   refine qhr HS0.out 5 (some 35) [] ?_
   simp only [Act.put,pt]
   refine qhr HS0.out 6 (some 36) [] ?_
   simp only [Act.put,pt]
   refine qhr HS0.out 7 (some 37) [] ?_
   simp only [Act.put,pt]
   refine qhr HS0.out 10 (some 40) [] ?_
   simp only [Act.put,pt]
   refine qhr HS0.out 11 (some 41) [] ?_
   simp only [Act.put,pt]
   refine qhr HS0.out 12 (some 42) [] ?_
   simp only [Act.put,pt]
   refine qhr HS0.out 15 (some 45) [] ?_
   simp only [Act.put,pt]
   refine qhr HS0.out 16 (some 46) [] ?_
   simp only [Act.put,pt]
   refine qhr HS0.out 17 (some 47) [] ?_
   simp only [Act.put,pt]
   refine qhr HS0.out 18 (some 48) [] ?_
   simp only [Act.put,pt]
   have KS: ∀ W,Kept (fun b=>(Value.slice oo k oc).ownBlock=some b∨(Value.slice a0 c k0).ownBlock=some b) wr W→(fun w'=>w'.cell? ⟨X,3,none⟩=some (.slice a0 c k0)∧w'.cell? ⟨w.heap.size,0,none⟩=some (.int .i64 0)∧w'.cell? ⟨w.heap.size,1,none⟩=some (.string ⟨#[]⟩)∧w'.cell? ⟨w.heap.size,2,none⟩=some (.int .i64 0)∧w'.cell? ⟨w.heap.size,3,none⟩=some (.slice none 0 0)∧w'.cell? ⟨w.heap.size,4,none⟩=some (.int .i64 (-1 - (c:Int)))) W:=fun W hk=>⟨(hk.cell (p:=⟨X,3,none⟩) zX (fun h=>h.elim HX.out.1 HV.out.2.1)).trans y0r,(hk.cell (p:=⟨w.heap.size,0,none⟩) zm (fun h=>h.elim HX.out.2 HV.out.2.2)).trans m0r,(hk.cell (p:=⟨w.heap.size,1,none⟩) zm (fun h=>h.elim HX.out.2 HV.out.2.2)).trans m1r,(hk.cell (p:=⟨w.heap.size,2,none⟩) zm (fun h=>h.elim HX.out.2 HV.out.2.2)).trans m2r,(hk.cell (p:=⟨w.heap.size,3,none⟩) zm (fun h=>h.elim HX.out.2 HV.out.2.2)).trans m3r,(hk.cell (p:=⟨w.heap.size,4,none⟩) zm (fun h=>h.elim HX.out.2 HV.out.2.2)).trans m4r⟩
   have HKS:Hid _:=KS;clear KS hHeld
   refine keep_draw (L:= #[true,true,true,true,true,true,true,true,false,false,true,true,true,false,false,true,true,true,true,false,false,false,false,false,false,false]) (Lend:= #[true,true,true,true,true,true,true,true,true,true,true,true,true,true,true,true,true,true,true,true,true,true,true,false,false,false]) (mk:= [.int .i64 0,.string ⟨#[]⟩,.int .i64 0,.slice none 0 0,.int .i64 (-1 - (c:Int))]) (e:=97) (te:=97) (le:=95) (tle:=95) (tr:=95) (tl:=35) (oo:=oo) (k:=k) (oc:=oc) (ax:=a0) (c:=c) (kx:=k0) 8 13 19 21 9 14 20 22 38 43 49 51 39 44 50 52 36 40 45 34 rfl rfl rfl rfl rfl rfl rfl rfl ⟨rfl,rfl⟩ ⟨rfl,rfl⟩ ⟨rfl,rfl⟩ ⟨rfl,rfl⟩ ⟨rfl,rfl⟩ ⟨rfl,rfl⟩ ⟨rfl,rfl⟩ ⟨rfl,rfl⟩ (by kernel_rfl) (by decide) (by decide) (by decide) (fun a W hj=>by (have h37:a.eval (.tmp 37)= .agg #[.int .i64 0,.string ⟨#[]⟩,.int .i64 0,.slice none 0 0,.int .i64 (-1 - (c:Int))]:=hj 37 (by decide));refine qdg rfl Tryz.underlying95 infoRTd (by decide) (by decide) ?_;simp only [List.map_toArray,List.map_cons,List.map_nil,h37];kernel_rfl) (fun a W hj=>by (have h41:a.eval (.tmp 41)= .agg #[.int .i64 0,.string ⟨#[]⟩,.int .i64 0,.slice none 0 0,.int .i64 (-1 - (c:Int))]:=hj 41 (by decide);have h42:a.eval (.tmp 42)= .agg #[.int .i64 0,.string ⟨#[]⟩,.int .i64 0,.slice none 0 0,.int .i64 (-1 - (c:Int))]:=hj 42 (by decide));refine qdg rfl Tryz.underlying95 infoRTd (by decide) (by decide) ?_;simp only [List.map_toArray,List.map_cons,List.map_nil,h41,h42];kernel_rfl) (fun a W hj=>by (have h46:a.eval (.tmp 46)= .agg #[.int .i64 0,.string ⟨#[]⟩,.int .i64 0,.slice none 0 0,.int .i64 (-1 - (c:Int))]:=hj 46 (by decide);have h47:a.eval (.tmp 47)= .agg #[.int .i64 0,.string ⟨#[]⟩,.int .i64 0,.slice none 0 0,.int .i64 (-1 - (c:Int))]:=hj 47 (by decide);have h48:a.eval (.tmp 48)= .agg #[.int .i64 0,.string ⟨#[]⟩,.int .i64 0,.slice none 0 0,.int .i64 (-1 - (c:Int))]:=hj 48 (by decide));refine qdg rfl Tryz.underlying95 infoRTd (by decide) (by decide) ?_;simp only [List.map_toArray,List.map_cons,List.map_nil,h46,h47,h48];kernel_rfl) (fun a W qq1 qq2 qq3 nn1 nn2 nn3 mm1 mm2 mm3 hj f1 f2 f3=>by (have h35:a.eval (.tmp 35)= .slice oo k oc:=hj 35 (by decide));refine qdg rfl Tryz.underlying35 infoSRT (by decide) (by decide) ?_;simp only [List.map_toArray,List.map_cons,List.map_nil,h35,f1,f2,f3];kernel_rfl) rfl rfl rfl rfl rfl rfl rfl rfl Tryz.underlying95 infoRTd rfl (by decide) (by simp) HO.out Tryz.underlying35 infoSRT rfl (by omega) (by omega) hB.out HV.out.1 HM0.out.drew HKS.out (by kernel_rfl) (by kernel_rfl) (by kernel_rfl) (by kernel_rfl) (by kernel_rfl) (by kernel_rfl) (by kernel_rfl) (by kernel_rfl) (by kernel_rfl) (by kernel_rfl) (by kernel_rfl) (by kernel_rfl) (by kernel_rfl) (by kernel_rfl) (by kernel_rfl) (by kernel_rfl) (by kernel_rfl) ?_
   intro B1 B2 B3 B4 ao1 cp1 ao2 cp2 ao3 cp3 ao4 cp4 W3 W4 ob M3 hk4 R4 f4 K4
   have fz4:=(K4.frozen (p:=⟨X,3,none⟩) zX (fun h=>h.elim HX.out.1 HV.out.2.1)).trans fzX
   have HS4:=HKS.out _ K4
   have zW:=K4.size
   have HM3:Hid _:=M3;have HK4:Hid _:=hk4;have HR4:Hid _:=R4;have HF4:Hid _:=f4;clear M3 hk4 R4 f4 K4
   simp only [act6,pO,Act.put,List.setIfInBounds_toArray,List.set_cons_zero,List.set_cons_succ]
   have hHeld:=HS4;(try dsimp only at hHeld)
   refine qhr HS4 23 (some 53) [24] ?_
   simp only [Act.put,pt]
   refine qhr HS4 24 (some 54) [] ?_
   simp only [Act.put,pt]
   (refine qaf _ [25] (by kernel_rfl) (by simp) ?_;refine qaa.cons rfl ?_ qaa.nil;intro o ho K hK;simp only [List.getElem?_toArray,List.getElem?_cons_succ,List.getElem?_cons_zero,Option.some.injEq] at ho;subst ho;go_simp;refine hK.out _ _ (fun h=>absurd rfl h) (fun _=> ?_);clear hK K;refine qfu (by kernel_rfl) ?_ _)
   all_goals ((try go_wp2);go_end0)
   all_goals (obtain ⟨G',b1,b2,b3⟩:=Hfin.out _ (keep_close rfl rfl rfl rfl HM3.out (Kept.refl _ wr) HK4.out HR4.out HF4.out))
   all_goals (have hsr:=HKr.out.size)
   all_goals (refine ⟨rfl,G',b1,((Kept.of_below HBm.out).trans (HKr.out.mono fun b _ h=>h.imp id fun h=>h.imp id fun ⟨x,hx,hb⟩=>⟨x,List.mem_of_mem_take hx,hb⟩) fun _ _ h=>h).trans b2 fun b hb h=> ?_,fun b hb=> ?_⟩)
   ·rcases h with h| h
    ·rcases HGk.out b h with h| ⟨x,hx,h⟩| h
     ·exact .inl h
     ·exact .inr (.inr ⟨x,List.mem_of_mem_take hx,h⟩)
     ·omega
    ·exact .inr (.inl h)
   ·rcases b3 b hb with h| h| h
    ·rcases HGk.out b h with h| ⟨x,hx,h⟩| h
     ·exact .inl h
     ·exact .inr (.inr (.inl ⟨x,List.mem_of_mem_take hx,h⟩))
     ·exact .inr (.inr (.inr (by omega)))
    ·exact .inr (.inl h)
    ·exact .inr (.inr (.inr (by omega)))
end
section
open Go.RowKit Go.Maps
section
variable {C:Nat→Prop} {w:World} {Zp Yp Yr Lp X:Nat} {F P:Nat→Prop} {v4 v5 v6 v7:Value} {st:RefD} {its:List Item}
theorem pdrain_pair (H:qas C w Zp Yp Yr Lp X F P v4 v5 v6 v7 st.abs st its) (n:Int) (hn: -9223372036854775808≤n∧n≤9223372036854775807):
  Calls Tryz.prog 61 #[.pointer (some ⟨Yp,0,none⟩),.int .i64 n] w fun e w'=> ∃ F' l oo oc,e= .returned (.slice oo l.length oc)∧l.map (·.1)=(st.drain n.toNat).1.map qg8.rep∧qas C w' Zp Yp Yr Lp X F' P v4 v5 v6 v7 (st.drain n.toNat).2.abs st its∧
   qaw (qx Zp F Yr v4 v5 v6 v7 P) (qx Zp F' Yr v4 v5 v6 v7 P) w w'∧qf6 F' w w' l (.slice oo l.length oc):=by
 have hr:=ref_drain n.toNat st H.sn H.sound H.wt
 refine (spec_drain H.bst n hn).mono ?_
 rintro e w' ⟨F',l,oo,oc,rfl,h1,L,R⟩
 rw [hr] at h1 L
 obtain ⟨H',T⟩:=H.prog L
 exact ⟨F',l,oo,oc,rfl,h1,H',T,R⟩
theorem rdrain_pair {a:Abs} (H:qas C w Zp Yp Yr Lp X F P v4 v5 v6 v7 a st its) (n:Int) (hn: -9223372036854775808≤n∧n≤9223372036854775807) (ht:st.tally≤8000000000000) (hw:st.waiting.length≤128):
  Calls Tryz.prog 62 #[.pointer (some ⟨Yr,0,none⟩),.int .i64 n] w fun e w'=> ∃ l oo oc u4 u5 u6 u7,e= .returned (.slice oo l.length oc)∧l.map (·.1)=(st.drain n.toNat).1∧qas C w' Zp Yp Yr Lp X F P u4 u5 u6 u7 a (st.drain n.toNat).2 its∧
   qaw (qx Zp F Yr v4 v5 v6 v7 P) (qx Zp F Yr u4 u5 u6 u7 P) w w'∧Kept (qau Yr v4 v5 v6 v7) w w'∧qhn (qau Yr u4 u5 u6 u7) w w' l (.slice oo l.length oc):=by
 refine (rdrain_any C Yr st v4 v5 v6 v7 w H.ref H.sound H.wt H.cr H.cl ht hw n hn).mono ?_
 rintro e w' ⟨l,oo,oc,rfl,h1,u4,u5,u6,u7,R,K,hu,Q⟩
 have D:=drain_keeps n.toNat st H.sound H.wt
 obtain ⟨H',T⟩:=H.doc R K hu D.1 D.2.1
 exact ⟨l,oo,oc,u4,u5,u6,u7,rfl,h1,H',T,K,Q⟩
end
end
section
open Go.RowKit Go.Maps
attribute [local go_sem] Go.wp_at_zero Go.wp_at_succ
theorem reps_at {F:Nat→Prop} {w W:World} {l:List (Rep×Option Addr×Nat)} {oo:Option Addr} {oc:Nat} {D:List qg8} (R:qf6 F w W l (.slice oo l.length oc)) (hl:l.map (·.1)=D.map qg8.rep) (k:Nat) (hk:k < D.length): ∃ g a c,oo=some ⟨g,0,none⟩∧g < W.heap.size∧W.cell? ⟨g,k * 5,none⟩=some (.int .i64 D[k].err)∧W.cell? ⟨g,k * 5+1,none⟩=some (.string D[k].node)∧W.cell? ⟨g,k * 5+2,none⟩=some (.int .i64 D[k].score)∧W.cell? ⟨g,k * 5+3,none⟩=some (.slice a D[k].reasons.length c)∧W.cell? ⟨g,k * 5+4,none⟩=some (.int .i64 D[k].fresh)∧
  W.ownsRow 0 88 2 (.slice a D[k].reasons.length c) D[k].reasons.length (D[k].rep.reasons.flatMap qfb):=by
 have hll:l.length=D.length:=by simpa using congrArg List.length hl
 have hk':k < l.length:=by omega
 have hx:l[k].1=D[k].rep:=by
  have h:=congrArg (fun q=>q[k]?) hl
  simpa [hk,hk'] using h
 have hr:D[k].rep.reasons.length=D[k].reasons.length:=List.length_map ..
 obtain ⟨g,e,lg,c,_⟩:=qfd R.row (by omega)
 have f:=fun j hj=>qc6 qhp 5 (fun _=>rfl) l k j hk' hj
 have e5:qhp l[k]= [.int .i64 D[k].err,.string D[k].node,.int .i64 D[k].score,.slice l[k].2.1 D[k].reasons.length l[k].2.2,.int .i64 D[k].fresh]:=by
  unfold qhp
  rw [hx,hr]
  show [_,Value.string (bs (ky D[k].node)),_,_,_]=_
  rw [bs_ky]
  rfl
 have r:=R.rsn l[k] (List.getElem_mem hk')
 rw [hx,hr] at r
 refine ⟨g,l[k].2.1,l[k].2.2,e,lg,(c (k * 5) (by omega)).trans ?_,(c (k * 5+1) (by omega)).trans ?_,(c (k * 5+2) (by omega)).trans ?_,(c (k * 5+3) (by omega)).trans ?_,(c (k * 5+4) (by omega)).trans ?_,r⟩
 ·exact (f 0 (by omega)).trans (by rw [e5];rfl)
 ·exact (f 1 (by omega)).trans (by rw [e5];rfl)
 ·exact (f 2 (by omega)).trans (by rw [e5];rfl)
 ·exact (f 3 (by omega)).trans (by rw [e5];rfl)
 ·exact (f 4 (by omega)).trans (by rw [e5];rfl)
theorem rreps_at {F:Nat→Prop} {w W:World} {l:List (qg8×Option Addr×Nat)} {oo:Option Addr} {oc:Nat} {D:List qg8} (R:qhn F w W l (.slice oo l.length oc)) (hl:l.map (·.1)=D) (k:Nat) (hk:k < D.length): ∃ g a c,oo=some ⟨g,0,none⟩∧g < W.heap.size∧W.cell? ⟨g,k * 5,none⟩=some (.int .i64 D[k].err)∧W.cell? ⟨g,k * 5+1,none⟩=some (.string D[k].node)∧W.cell? ⟨g,k * 5+2,none⟩=some (.int .i64 D[k].score)∧W.cell? ⟨g,k * 5+3,none⟩=some (.slice a D[k].reasons.length c)∧W.cell? ⟨g,k * 5+4,none⟩=some (.int .i64 D[k].fresh)∧
  W.ownsRow 0 165 2 (.slice a D[k].reasons.length c) D[k].reasons.length (D[k].reasons.flatMap qdr):=by
 subst hl
 have hk':k < l.length:=by simpa using hk
 have hx:(l.map (·.1))[k]=l[k].1:=by simp
 rw [hx]
 obtain ⟨g,e,lg,c,_⟩:=qfd R.row (by omega)
 have f:=fun j hj=>qc6 rrepRow 5 (fun _=>rfl) l k j hk' hj
 refine ⟨g,l[k].2.1,l[k].2.2,e,lg,(c (k * 5) (by omega)).trans ?_,(c (k * 5+1) (by omega)).trans ?_,(c (k * 5+2) (by omega)).trans ?_,(c (k * 5+3) (by omega)).trans ?_,(c (k * 5+4) (by omega)).trans ?_,R.rsn l[k] (List.getElem_mem hk')⟩
 ·exact f 0 (by omega)
 ·exact f 1 (by omega)
 ·exact f 2 (by omega)
 ·exact f 3 (by omega)
 ·exact f 4 (by omega)
theorem drain_few: ∀ (k:Nat) (st:RefD),st.nodes.length≤32→ ∀ t∈(st.drain k).1,t.reasons.length≤990
 | 0,_,_,t,ht=>by simp [RefD.drain] at ht
 | k+1,st,hn,t,ht=>by
  cases hW:st.waiting with
  | nil=>
   rw [RefD.drain_nil hW] at ht
   simp at ht
  | cons y T=>
   rw [RefD.drain_cons hW] at ht
   rcases List.mem_cons.1 ht with rfl| ht
   ·exact sched_few ({ st with waiting:=T }:RefD) hn y
   ·exact drain_few k _ (by rw [nodes_sched];exact hn) t ht
def DrainEnd (C:Nat→Prop) (w w':World) (Zp Yp Yr Lp X:Nat) (F P:Nat→Prop) (v4 v5 v6 v7:Value) (st:RefD) (n:Int) (its:List Item) (G:Nat→Prop) (c0 c1 c2 c3:Nat):Prop:=
 ∃ F' u4 u5 u6 u7 G',qas C w' Zp Yp Yr Lp X F' P u4 u5 u6 u7 (st.drain n.toNat).2.abs (st.drain n.toNat).2 its∧Book G' w' X (c0+(st.drain n.toNat).1.length) c1 c2 (c3+1)∧qaw (fun b=>qx Zp F Yr v4 v5 v6 v7 P b∨G b) (fun b=>qx Zp F' Yr u4 u5 u6 u7 P b∨G' b) w w'∧ ∀ b,qx Zp F' Yr u4 u5 u6 u7 P b→ ¬ G' b
theorem drain_keep {C:Nat→Prop} {w w1 w2 w3:World} {Zp Yp Yr Lp X:Nat} {F F' P:Nat→Prop} {v4 v5 v6 v7 u4 u5 u6 u7:Value} {st:RefD} {its:List Item} {n:Int} {G:Nat→Prop} {c0 c1 c2 c3:Nat} {l:List (Rep×Option Addr×Nat)} {oo:Option Addr} {oc:Nat} (H:qas C w Zp Yp Yr Lp X F P v4 v5 v6 v7 st.abs st its) (B:Book G w X c0 c1 c2 c3) (hDG: ∀ b,qx Zp F Yr v4 v5 v6 v7 P b→ ¬ G b) (hCG: ∀ b,C b→ ¬ G b) (h0:c0≤900000000000) (h3:c3≤1000000000000) (hl:l.map (·.1)=(st.drain n.toNat).1.map qg8.rep) (hwl:st.waiting.length≤128)
  (T1:qaw (qx Zp F Yr v4 v5 v6 v7 P) (qx Zp F' Yr v4 v5 v6 v7 P) w w1) (R1:qf6 F' w w1 l (.slice oo l.length oc))
  (H2:qas C w2 Zp Yp Yr Lp X F' P u4 u5 u6 u7 (st.drain n.toNat).2.abs (st.drain n.toNat).2 its) (T2:qaw (qx Zp F' Yr v4 v5 v6 v7 P) (qx Zp F' Yr u4 u5 u6 u7 P) w1 w2) (K2:Kept (qau Yr v4 v5 v6 v7) w1 w2) (hb:Below w2.heap.size w2 w3):
  Calls Tryz.prog 63 #[.pointer (some ⟨X,0,none⟩),.slice oo l.length oc] w3 fun e w'=>e= .returned (.tuple #[])∧DrainEnd C w w' Zp Yp Yr Lp X F P v4 v5 v6 v7 st n its G c0 c1 c2 c3:=by
 have hll:l.length=(st.drain n.toNat).1.length:=by simpa using congrArg List.length hl
 have hwd:=wait_drain n.toNat st
 have T:=T1.trans T2
 have K3:=Kept.of_below (F:=qq) hb
 have s1:=T1.1.size
 have s2:=T2.1.size
 have s3:=hb.size
 have rlt: ∀ b,qau Yr v4 v5 v6 v7 b→b < w.heap.size:=fun b h=>H.ref.footLt h
 have new: ∀ b,w.heap.size≤b→b < w1.heap.size→ ¬ F' b→ ¬ qx Zp F' Yr u4 u5 u6 u7 P b∧ ¬ G b:=fun b h h' hf=>⟨fun hd=>by
  rcases hd with hd| hd| hd| hd
  ·have:=qo H.box;omega
  ·exact hf hd
  ·rcases T2.2 b (.inr (.inr (.inl hd))) with hd'| hd'
   ·rcases hd' with hd'| hd'| hd'| hd'
    ·have:=qo H.box;omega
    ·exact hf hd'
    ·have:=rlt b hd';omega
    ·have:=H.pl b hd';omega
   ·omega
  ·have:=H.pl b hd;omega,fun hg=>by have:=B.lt b hg;omega⟩
 have kr: ∀ {e:TypeId} {s m:Nat} {u:Value} {xs:List Value},w1.ownsRow 0 e s u m xs→(∀ b,u.ownBlock=some b→w.heap.size≤b∧ ¬ F' b)→w3.ownsRow 0 e s u m xs∧ ∀ b,u.ownBlock=some b→w.heap.size≤b∧ ¬ qx Zp F' Yr u4 u5 u6 u7 P b∧ ¬ G b:=fun h hn=>⟨K3.ownsRow (K2.ownsRow h fun b hb hr=>by have:=(hn b hb).1;have:=rlt b hr;omega) fun _ _=>id,fun b hb=>⟨(hn b hb).1,new b (hn b hb).1 (h.lt b hb).2 (hn b hb).2⟩⟩
 have B3:Book G w3 X c0 c1 c2 c3:=((B.kept T.1 fun b hg hd=>hDG b hd hg).kept K3 fun _ _=>id)
 have H3:=H2.below hb
 have q:=kr R1.row R1.new
 have hfew:=drain_few n.toNat st H.sound.wf.nodes
 refine (keepReplies_any B3 rfl q.1 (fun b hb=>(q.2 b hb).2.2) (fun x hx=>(kr (R1.rsn x hx) (R1.rnew x hx)).1) (fun x hx b hb=>((kr (R1.rsn x hx) (R1.rnew x hx)).2 b hb).2.2) R1.dis (by omega) (fun x hx=> ?_) (by omega) h3).mono ?_
 ·have hm:x.1∈(st.drain n.toNat).1.map qg8.rep:=by rw [← hl];exact List.mem_map.2 ⟨x,hx,rfl⟩
  obtain ⟨t,ht,e⟩:=List.mem_map.1 hm
  rw [← e,show t.rep.reasons.length=t.reasons.length from List.length_map ..]
  exact hfew t ht
 ·rintro e w' ⟨rfl,G',b1,b2,b3⟩
  have nD: ∀ b,qx Zp F' Yr u4 u5 u6 u7 P b→ ¬ (G b∨(Value.slice oo l.length oc).ownBlock=some b∨qhs l b):=fun b hd hh=>by
   rcases hh with hh| hh| ⟨x,hx,hh⟩
   ·rcases T.2 b hd with h| h
    ·exact hDG b h hh
    ·have:=B.lt b hh;omega
   ·exact (q.2 b hh).2.1 hd
   ·exact ((kr (R1.rsn x hx) (R1.rnew x hx)).2 b hh).2.1 hd
  have nC: ∀ b,C b→ ¬ (G b∨(Value.slice oo l.length oc).ownBlock=some b∨qhs l b):=fun b hd hh=>by
   have:=H.cl b hd
   rcases hh with hh| hh| ⟨x,hx,hh⟩
   ·exact hCG b hd hh
   ·have:=(q.2 b hh).1;omega
   ·have:=(R1.rnew x hx b hh).1;omega
  rw [hll] at b1
  refine ⟨rfl,F',u4,u5,u6,u7,G',H3.kept b2 nD nC,b1,⟨(((T.1.mono fun b _ h=> .inl h).trans K3 fun _ _ h=>h.elim).trans b2 fun b hb h=> ?_),fun b hb=> ?_⟩,fun b hd hg=> ?_⟩
  ·rcases h with h| h| ⟨x,hx,h⟩
   ·exact .inr h
   ·have:=(q.2 b h).1;omega
   ·have:=(R1.rnew x hx b h).1;omega
  ·rcases hb with hb| hb
   ·exact (T.2 b hb).imp .inl id
   ·rcases b3 b hb with h| h| ⟨x,hx,h⟩| h
    ·exact .inl (.inr h)
    ·exact .inr (q.2 b h).1
    ·exact .inr (R1.rnew x hx b h).1
    ·exact .inr (by omega)
  ·rcases b3 b hg with h| h| h| h
   ·exact nD b hd (.inl h)
   ·exact nD b hd (.inr (.inl h))
   ·exact nD b hd (.inr (.inr h))
   ·have:=H3.lt hd;omega
theorem ldrain_any {C:Nat→Prop} {w:World} {Zp Yp Yr Lp X:Nat} {F P:Nat→Prop} {v4 v5 v6 v7:Value} {st:RefD} {its:List Item} (H:qas C w Zp Yp Yr Lp X F P v4 v5 v6 v7 st.abs st its) (n:Int) (hn: -9223372036854775808≤n∧n≤9223372036854775807) (ht:st.tally≤8000000000000) {G:Nat→Prop} {c0 c1 c2 c3:Nat} (B:Book G w X c0 c1 c2 c3) (hDG: ∀ b,qx Zp F Yr v4 v5 v6 v7 P b→ ¬ G b) (hCG: ∀ b,C b→ ¬ G b) (h0:c0≤900000000000) (h3:c3≤1000000000000):
  Calls Tryz.prog 33 #[.pointer (some ⟨Zp,0,none⟩),.int .i64 n] w fun e w'=>e= .returned (.bool true)∧DrainEnd C w w' Zp Yp Yr Lp X F P v4 v5 v6 v7 st n its G c0 c1 c2 c3:=by
 have hwl:st.waiting.length≤128:=by
  have h:=H.bst.fine.nw
  rwa [show st.abs.W.length=st.waiting.length from List.length_map ..] at h
 have hfew:=drain_few n.toNat st H.sound.wf.nodes
 have hwd:=wait_drain n.toNat st
 obtain ⟨z0,z1,_,z3⟩:=H.cells
 have cP:=pdrain_pair H n hn
 have Hrl:Hid (∀ b,qau Yr v4 v5 v6 v7 b→b < w.heap.size):=fun b h=>H.ref.footLt h
 have Hfin:Hid _:=fun (w1 w2 w3:World) (F':Nat→Prop) (u4 u5 u6 u7:Value) (l:List (Rep×Option Addr×Nat)) (oo:Option Addr) (oc:Nat)=>drain_keep (n:=n) (w1:=w1) (w2:=w2) (w3:=w3) (F':=F') (u4:=u4) (u5:=u5) (u6:=u6) (u7:=u7) (l:=l) (oo:=oo) (oc:=oc) H B hDG hCG h0 h3
 obtain ⟨D,hD⟩: ∃ D,D=(st.drain n.toNat).1:=⟨_,rfl⟩
 rw [← hD] at cP hfew hwd
 have hDl:D.length≤128:=by omega
 have HD:Hid (D=(st.drain n.toNat).1):=hD
 have Hfew:Hid (∀ t∈D,t.reasons.length≤990):=hfew
 clear H B hDG hCG h0 h3 hfew hwd hD
 go_enter Tryz.func33,Tryz.ntmps33
 go_upto_region 2 with ((go_at_call 61;refine cP.mono ?_;rintro e w1 ⟨F',l,oo,oc,rfl,hl,H1,T1,R1⟩;obtain ⟨_,y1,_,y3⟩:=H1.cells;have HH1:Hid _:=H1;have HT1:Hid _:=T1;have HR1:Hid (qf6 F' w w1 l (.slice oo l.length oc)):=R1;have Hl:Hid (l.map (·.1)=D.map qg8.rep):=hl;clear H1 T1 R1 hl))
 have cR:=rdrain_pair HH1.out n hn ht hwl
 rw [← HD.out] at cR
 go_upto_region 3 with ((go_at_call 62;refine cR.mono ?_;rintro e w2 ⟨m,ro,rc,d4,d5,d6,d7,rfl,hm,H2,T2,K2,R2⟩;obtain ⟨_,_,_,x3⟩:=H2.cells;have lZ2:=qo H2.box;have HH2:Hid _:=H2;have HT2:Hid _:=T2;have HK2:Hid (Kept (qau Yr v4 v5 v6 v7) w1 w2):=K2;have HR2:Hid (qhn (qau Yr d4 d5 d6 d7) w1 w2 m (.slice ro m.length rc)):=R2;have Hm:Hid (m.map (·.1)=D):=hm;clear H2 T2 R2 hm K2))
 have hmN:m.length=D.length:=by simpa using congrArg List.length Hm.out
 have hlN:l.length=D.length:=by simpa using congrArg List.length Hl.out
 have HRl:Hid (qf6 F' w w2 l (.slice oo l.length oc)):=HR1.out.kept HK2.out (fun b h _=> .inr (Hrl.out b h)) fun b h=> .inl h
 have HE:Hid _:=reps_at HRl.out Hl.out
 have HE2:Hid _:=rreps_at HR2.out Hm.out
 have HlN:Hid (l.length=D.length):=hlN
 rw [hmN,hlN]
 clear hmN hlN z0 z1 z3 y1 y3
 go_wp2
 go_loopw [7] (fun i wr=> ∃ k:Nat,k≤D.length∧i= .int .i64 k∧Below w2.heap.size w2 wr) (fun i _=>D.length - (intOf i).toNat)
 case atStart=>exact ⟨0,Nat.zero_le _,rfl,Below.refl _ _⟩
 case round=>
  obtain ⟨k,hk,rfl,hbr⟩:=hrel
  have HBr:Hid (Below w2.heap.size w2 wr):=hbr
  have sr:=hbr.size
  by_cases hlt:k < D.length
  ·obtain ⟨g1,a1,b1,rfl,lg1,q10,q11,q12,q13,q14,o1⟩:=HE.out k hlt
   obtain ⟨g2,a2,b2,rfl,lg2,q20,q21,q22,q23,q24,o2⟩:=HE2.out k hlt
   have hle:D[k].reasons.length≤1000:=Nat.le_trans (Hfew.out _ (List.getElem_mem hlt)) (by decide)
   generalize D[k]=t at *
   have r10:=(hbr.cell (p:=⟨g1,k * 5,none⟩) lg1).trans q10
   have r11:=(hbr.cell (p:=⟨g1,k * 5+1,none⟩) lg1).trans q11
   have r12:=(hbr.cell (p:=⟨g1,k * 5+2,none⟩) lg1).trans q12
   have r13:=(hbr.cell (p:=⟨g1,k * 5+3,none⟩) lg1).trans q13
   have r14:=(hbr.cell (p:=⟨g1,k * 5+4,none⟩) lg1).trans q14
   have r20:=(hbr.cell (p:=⟨g2,k * 5,none⟩) lg2).trans q20
   have r21:=(hbr.cell (p:=⟨g2,k * 5+1,none⟩) lg2).trans q21
   have r22:=(hbr.cell (p:=⟨g2,k * 5+2,none⟩) lg2).trans q22
   have r23:=(hbr.cell (p:=⟨g2,k * 5+3,none⟩) lg2).trans q23
   have r24:=(hbr.cell (p:=⟨g2,k * 5+4,none⟩) lg2).trans q24
   have cY:=reply_any t wr.drew a1 a2 b1 b2 hle ((Kept.of_below (F:=qq) hbr.drew).ownsRow o1 fun _ _=>id) ((Kept.of_below (F:=qq) hbr.drew).ownsRow o2 fun _ _=>id)
   have lg1:=Nat.lt_of_lt_of_le lg1 sr
   have lg2:=Nat.lt_of_lt_of_le lg2 sr
   clear q10 q11 q12 q13 q14 q20 q21 q22 q23 q24 o1 o2 hbr HE HE2
   go_wp2
   go_region_held3 (fun w'=>w'.cell? ⟨g1,k * 5,none⟩=some (.int .i64 t.err)∧w'.cell? ⟨g1,k * 5+1,none⟩=some (.string t.node)∧w'.cell? ⟨g1,k * 5+2,none⟩=some (.int .i64 t.score)∧w'.cell? ⟨g1,k * 5+3,none⟩=some (.slice a1 t.reasons.length b1)∧w'.cell? ⟨g1,k * 5+4,none⟩=some (.int .i64 t.fresh)∧w'.cell? ⟨g2,k * 5,none⟩=some (.int .i64 t.err)∧w'.cell? ⟨g2,k * 5+1,none⟩=some (.string t.node)∧w'.cell? ⟨g2,k * 5+2,none⟩=some (.int .i64 t.score)∧w'.cell? ⟨g2,k * 5+3,none⟩=some (.slice a2 t.reasons.length b2)∧w'.cell? ⟨g2,k * 5+4,none⟩=some (.int .i64 t.fresh)) (go_keep)
    (first
     | (go_at_call 55;refine cY.mono ?_;rintro e w3 ⟨rfl,hb3⟩;have s10:=(hb3.cell (p:=⟨g1,k * 5,none⟩) lg1).trans r10;have s11:=(hb3.cell (p:=⟨g1,k * 5+1,none⟩) lg1).trans r11;have s12:=(hb3.cell (p:=⟨g1,k * 5+2,none⟩) lg1).trans r12;have s13:=(hb3.cell (p:=⟨g1,k * 5+3,none⟩) lg1).trans r13;have s14:=(hb3.cell (p:=⟨g1,k * 5+4,none⟩) lg1).trans r14;have s20:=(hb3.cell (p:=⟨g2,k * 5,none⟩) lg2).trans r20;have s21:=(hb3.cell (p:=⟨g2,k * 5+1,none⟩) lg2).trans r21;have s22:=(hb3.cell (p:=⟨g2,k * 5+2,none⟩) lg2).trans r22;have s23:=(hb3.cell (p:=⟨g2,k * 5+3,none⟩) lg2).trans r23;have s24:=(hb3.cell (p:=⟨g2,k * 5+4,none⟩) lg2).trans r24))
   go_wp2
   go_roundw
   case rel=>exact ⟨k+1,by omega,by go_num,qj HBr.out ((Below.refl _ _).drew.trans hb3)⟩
   case measure=>simp [intOf];omega
  ·have hkD:k=D.length:=by omega
   have y3:=(hbr.cell (p:=⟨Zp,3,none⟩) lZ2).trans x3
   have cK:=Hfin.out w1 w2 wr F' d4 d5 d6 d7 l oo oc (by rw [← HD.out];exact Hl.out) hwl HT1.out HR1.out HH2.out HT2.out HK2.out hbr
   rw [HlN.out] at cK
   clear hbr
   go_wp2_with ((go_at_call 63;refine cK.mono ?_;rintro e w4 ⟨rfl,hq⟩;have HQ:Hid _:=hq;clear hq))
   go_ret
   exact ⟨rfl,HQ.out⟩
end
end Go.Proofs.YtchddaafibjmgaaGreat
