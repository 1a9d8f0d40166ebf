import Derived.Test.YtchddaafibjmgaaGreatMD11
import Derived.Test.YtchddaafibjmgaaGreatMB1
import Derived.Test.YtchddaafibjmgaaGreatMD14
import Derived.Test.YtchddaafibjmgaaGreatMD9
set_option maxRecDepth 100000
set_option maxHeartbeats 20000000
namespace Go.Proofs.YtchddaafibjmgaaGreat
section
open Go.RowKit Go.Maps
theorem ref_confirm {st:RefD} (hp:qad st.P) (s:ByteArray):st.abs.confirmErr (ky s)=(st.confirm s).1∧(st.confirm s).2.abs=st.abs.confirm (ky s):=by
 have hi:=P_isSome st s
 unfold RefD.confirm Abs.confirmErr
 show (match getL st.P (ky s) with
  | some x=>if x.bound then (7:Int) else 0
  | none=>4)=_∧_
 cases h:qan (st.pods.map (·.p.name)) s with
 | none=>
  rw [h] at hi
  have hg:getL st.P (ky s)=none:=by
   cases e:getL st.P (ky s) with
   | none=>rfl
   | some u=>rw [e] at hi;cases hi
  rw [hg]
  refine ⟨rfl,(qgk (a:=st.abs) hp fun x hx=> ?_).symm⟩
  have hx':getL st.P (ky s)=some x:=hx
  rw [hg] at hx'
  cases hx'
 | some i=>
  obtain ⟨h1,h2,h3⟩:=qde (fun x:qax=>x.p.name) (fun x=>x.v) st.pods s i h
  have hg:getL st.P (ky s)=some (st.pods[i]).v:=h3
  rw [hg]
  dsimp only
  rw [List.getElem?_eq_getElem h1]
  dsimp only
  by_cases hb:(st.pods[i]).bound=true
  ·have hb':(st.pods[i]).v.bound=true:=hb
   rw [if_pos hb,if_pos hb']
   refine ⟨rfl,(qgk (a:=st.abs) hp fun x hx=> ?_).symm⟩
   have hx':getL st.P (ky s)=some x:=hx
   rw [hg] at hx'
   cases hx'
   exact hb
  ·have hb': ¬ (st.pods[i]).v.bound=true:=hb
   rw [if_neg hb,if_neg hb']
   refine ⟨rfl,?_⟩
   have hP:(st.pods.set i { st.pods[i] with bound:=true }).map podP=putL st.P (ky s) ({ st.pods[i] with bound:=true }:qax).v:=by
    have:=set_put (fun x:qax=>x.p.name) (fun x=>x.v) st.pods i { st.pods[i] with bound:=true } h1 hp rfl
    rw [show ky (({ st.pods[i] with bound:=true }:qax).p.name)=ky s from h2] at this
    exact this
   have hM:(st.P.map fun p=>(p.1,if p.1==ky s then { p.2 with bound:=true } else p.2))=putL st.P (ky s) ({ st.pods[i] with bound:=true }:qax).v:=by
    have hsm:qad (st.P.map fun p=>(p.1,if p.1==ky s then { p.2 with bound:=true } else p.2)):=by
     unfold qad at hp ⊢
     rw [List.pairwise_map]
     exact hp
    refine qex hsm (qcn hp _ _) fun j=> ?_
    rw [getL_map2 (fun (q:qn) (y:qag)=>if q==ky s then { y with bound:=true } else y) st.P j]
    by_cases e:j=ky s
    ·subst e
     rw [qap,hg]
     simp
     rfl
    ·rw [qaj _ _ e]
     have:(j==ky s)=false:=by simpa using e
     cases getL st.P j with
     | none=>rfl
     | some u=>simp [this]
   show Abs.mk st.hold st.now st.N ((st.pods.set i { st.pods[i] with bound:=true }).map podP) st.F st.W=Abs.mk st.hold st.now st.N (st.P.map fun p=>(p.1,if p.1==ky s then { p.2 with bound:=true } else p.2)) st.F st.W
   rw [hP,hM]
end
section
open Go.RowKit Go.Maps
structure OpenAt (w w':World) (Zp Yp Yr Lp X:Nat) (F:Nat→Prop) (hold:Int) (rem whole:Bool):Prop where
 box:w'.heap[Zp]? =some (.cells #[.pointer (some ⟨Yp,0,none⟩),.pointer (some ⟨Yr,0,none⟩),.pointer (some ⟨Lp,0,none⟩),.pointer (some ⟨X,0,none⟩)] 53 (0,0))
 st:BSt F w' Yp ⟨hold,0,[],[],[],[]⟩
 ref:qbc w' Yr (RefD.empty hold rem whole) (.slice none 0 0) (.slice none 0 0) (.slice none 0 0) (.slice none 0 0)
 lent:w'.heap[Lp]? =some (.cells #[.slice none 0 0,.slice none 0 0] 65 (0,0))
 low: ∀ b,F b→w.heap.size≤b∧b < Yr
 ord:w.heap.size≤Yr∧Yr < Lp∧Lp < Zp
 below:Below w.heap.size w w'
theorem opened_yes (hold:Int) (rem whole:Bool) (X:Nat) (w:World) (h1:1≤hold) (h2:hold≤1000):
  Calls Tryz.prog 8 #[.agg #[.int .i64 hold,.bool rem,.bool whole],.pointer (some ⟨X,0,none⟩)] w fun e w'=> ∃ Zp Yp Yr Lp F,e= .returned (.tuple #[.pointer (some ⟨Zp,0,none⟩),.bool true])∧OpenAt w w' Zp Yp Yr Lp X F hold rem whole:=by
 have c1:=fun W=>spec_new hold rem whole W h1 h2
 have c2:=fun W=>rnew_yes hold rem whole W h1 h2
 have c3:=qhg 0
 have hb0:Below w.heap.size w (w.alloc (.cells #[.int .i64 hold,.bool rem,.bool whole] 23)):=qi _ _
 have z0:w.heap.size < (w.alloc (.cells #[.int .i64 hold,.bool rem,.bool whole] 23)).heap.size:=by simp
 go_enter Tryz.func8,Tryz.ntmps8
 go_wp2_with (first
  | (go_at_call 13;refine (c1 _).mono ?_;rintro e w1 ⟨Yp,rfl,B1,hb1⟩;have s0:=hb1.cell (p:=⟨w.heap.size,0,none⟩) z0;have s1:=hb1.cell (p:=⟨w.heap.size,1,none⟩) z0;have s2:=hb1.cell (p:=⟨w.heap.size,2,none⟩) z0;have hW1:=qj hb0 hb1)
  | (go_at_call 14;refine (c2 _).mono ?_;rintro e w2 ⟨Yr,rfl,hYr,R2,hb2⟩;have hW2:=qj hW1 hb2)
  | (go_at_call 15;refine (c3 _).mono ?_;rintro e wq ⟨rfl,hq⟩;have hq:=hq.symm;subst hq))
 go_ret2
 have hb3:Below w2.heap.size w2 ((w2.alloc (.cells #[.slice none 0 0,.slice none 0 0] 65)).alloc (.cells #[.pointer (some ⟨Yp,0,none⟩),.pointer (some ⟨Yr,0,none⟩),.pointer (some ⟨w2.heap.size,0,none⟩),.pointer (some ⟨X,0,none⟩)] 53)):=qj (qi _ _) (qi _ _)
 have lY:=qo R2.box
 have s1':=hW1.size
 refine ⟨w2.heap.size+1,Yp,Yr,w2.heap.size,_,rfl,⟨?_,B1.below (qj hb2 hb3),R2.kept (Kept.of_below (F:=qq) hb3) fun _ _=>id,?_,fun b hb=> ?_,⟨by omega,lY,by omega⟩,qj hW2 hb3⟩⟩
 ·have:=qm (w2.alloc (.cells #[.slice none 0 0,.slice none 0 0] 65)) (.cells #[.pointer (some ⟨Yp,0,none⟩),.pointer (some ⟨Yr,0,none⟩),.pointer (some ⟨w2.heap.size,0,none⟩),.pointer (some ⟨X,0,none⟩)] 53)
  simpa using this
 ·rw [(qi _ _).block _ (by simp)]
  exact qm _ _
 ·rcases hb with h| h
  ·exact h.elim
  ·exact ⟨Nat.le_trans hb0.size h.1,by omega⟩
theorem opened_no (hold:Int) (rem whole:Bool) (X:Nat) (w:World) (h:hold < 1∨1000 < hold):
  Calls Tryz.prog 8 #[.agg #[.int .i64 hold,.bool rem,.bool whole],.pointer (some ⟨X,0,none⟩)] w fun e w'=>e= .returned (.tuple #[.pointer none,.bool true])∧Below w.heap.size w w':=by
 have c1:=fun W=>pnew_no hold rem whole W h
 have c2:=fun W=>rnew_no hold rem whole W h
 have c3:=qhg 1
 have hb0:Below w.heap.size w (w.alloc (.cells #[.int .i64 hold,.bool rem,.bool whole] 23)):=qi _ _
 have z0:w.heap.size < (w.alloc (.cells #[.int .i64 hold,.bool rem,.bool whole] 23)).heap.size:=by simp
 clear h
 go_enter Tryz.func8,Tryz.ntmps8
 go_wp2_with (first
  | (go_at_call 13;refine (c1 _).mono ?_;rintro e w1 ⟨rfl,hb1⟩;have s0:=hb1.cell (p:=⟨w.heap.size,0,none⟩) z0;have s1:=hb1.cell (p:=⟨w.heap.size,1,none⟩) z0;have s2:=hb1.cell (p:=⟨w.heap.size,2,none⟩) z0;have hW1:=qj hb0 hb1)
  | (go_at_call 14;refine (c2 _).mono ?_;rintro e w2 ⟨rfl,hb2⟩;have hW2:=qj hW1 hb2)
  | (go_at_call 15;refine (c3 _).mono ?_;rintro e wq ⟨rfl,hq⟩;have hq:=hq.symm;subst hq))
 go_ret2
 exact ⟨rfl,hW2⟩
end
end Go.Proofs.YtchddaafibjmgaaGreat
