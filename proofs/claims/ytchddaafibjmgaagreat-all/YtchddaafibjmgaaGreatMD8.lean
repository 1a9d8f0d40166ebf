import Derived.Test.YtchddaafibjmgaaGreatMD7
import Derived.Test.YtchddaafibjmgaaGreatMA1
import Derived.Deep.LoopGhost
import Derived.Deep.Cut
import Derived.Deep.CutRange
import Derived.Deep.CutBlock
set_option maxRecDepth 100000
set_option maxHeartbeats 20000000
namespace Go.Proofs.YtchddaafibjmgaaGreat
section
open Go.RowKit
attribute [local go_sem] Go.wp_at_zero Go.wp_at_succ
def qgq (n:qu) (p:PodD) (u:Int×Int×Int×Int):Bool:=(decide (0 < p.n0)&&decide (n.r0 < u.1+p.n0)) || (decide (0 < p.n1)&&decide (n.r1 < u.2.1+p.n1)) || (decide (0 < p.n2)&&decide (n.r2 < u.2.2.1+p.n2))
def qep (n:qu) (p:PodD) (u:Int×Int×Int×Int) (m:Nat):Bool:=(decide (0 < m)&&decide (0 < p.n0)&&decide (n.r0 < u.1+p.n0)) || (decide (1 < m)&&decide (0 < p.n1)&&decide (n.r1 < u.2.1+p.n1)) || (decide (2 < m)&&decide (0 < p.n2)&&decide (n.r2 < u.2.2.1+p.n2))
theorem roomTo_all (n:qu) (p:PodD) (u:Int×Int×Int×Int):qep n p u 3=qgq n p u:=by simp [qep,qgq]
theorem roomTo_0 (n:qu) (p:PodD) (u:Int×Int×Int×Int) (h:qep n p u 0=false) (h1: ¬ (0 < p.n0∧n.r0 < u.1+p.n0)):qep n p u 1=false:=by
 simp only [qep,Bool.or_eq_false_iff,Bool.and_eq_false_iff,decide_eq_false_iff_not] at *;omega
theorem roomTo_1 (n:qu) (p:PodD) (u:Int×Int×Int×Int) (h:qep n p u 1=false) (h1: ¬ (0 < p.n1∧n.r1 < u.2.1+p.n1)):qep n p u 2=false:=by
 simp only [qep,Bool.or_eq_false_iff,Bool.and_eq_false_iff,decide_eq_false_iff_not] at *;omega
theorem roomTo_2 (n:qu) (p:PodD) (u:Int×Int×Int×Int) (h:qep n p u 2=false) (h1: ¬ (0 < p.n2∧n.r2 < u.2.2.1+p.n2)):qep n p u 3=false:=by
 simp only [qep,Bool.or_eq_false_iff,Bool.and_eq_false_iff,decide_eq_false_iff_not] at *;omega
def qcz (l:List qax) (n:qu) (p:PodD):Bool:=l.any fun x=>(x.node.toList==n.name.toList)&&decide (0 < p.port)&&(x.p.port==p.port)
def qfg (st:RefD) (n:qu) (x:qax):Bool:=match qan (st.nodes.map (·.name)) x.node with
 | some i=>match st.nodes[i]? with
  | some m=>nearB n m
  | none=>false
 | none=>false
def qdm (st:RefD) (n:qu) (p:PodD) (k:Nat):Bool:=(p.near.L.length==0) || (st.pods.take k).any fun x=>qfg st n x&&qae p.near.L x.p.labels.L
def qe2 (st:RefD) (n:qu) (p:PodD) (k:Nat):Bool:=(st.pods.take k).any fun x=>(qfg st n x&&decide (0 < p.apart.L.length)&&qae p.apart.L x.p.labels.L) || (qfg st n x&&decide (0 < x.p.apart.L.length)&&qae x.p.apart.L p.labels.L)
def RefD.why (st:RefD) (n:qu) (p:PodD):Int:=
 if qgq n p (qa8 st.pods n.name st.pods.length) then 1 else if qcz st.pods n p then 2 else if !qae p.select.L n.labels.L then 3 else if !qae n.taints.L p.bears.L then 4
 else if !qdm st n p st.pods.length then 5 else if qe2 st n p st.pods.length then 6 else 0
theorem portBad_take (l:List qax) (n:qu) (p:PodD) (k:Nat) (hk:k < l.length):qcz (l.take (k+1)) n p=(qcz (l.take k) n p || ((l[k].node.toList==n.name.toList)&&decide (0 < p.port)&&(l[k].p.port==p.port))):=by
 unfold qcz
 rw [List.take_add_one,List.getElem?_eq_getElem hk,List.any_append]
 simp
theorem friendTo_succ (st:RefD) (n:qu) (p:PodD) (k:Nat) (hk:k < st.pods.length):qdm st n p (k+1)=(qdm st n p k || (qfg st n st.pods[k]&&qae p.near.L st.pods[k].p.labels.L)):=by
 unfold qdm
 rw [List.take_add_one,List.getElem?_eq_getElem hk,List.any_append,Bool.or_assoc]
 simp
theorem apartTo_succ (st:RefD) (n:qu) (p:PodD) (k:Nat) (hk:k < st.pods.length):qe2 st n p (k+1)=((qe2 st n p k || (qfg st n st.pods[k]&&decide (0 < p.apart.L.length)&&qae p.apart.L st.pods[k].p.labels.L)) ||
  (qfg st n st.pods[k]&&decide (0 < st.pods[k].p.apart.L.length)&&qae st.pods[k].p.apart.L p.labels.L)):=by
 unfold qe2
 rw [List.take_add_one,List.getElem?_eq_getElem hk,List.any_append,Bool.or_assoc]
 simp
theorem after_box {B:Nat} {W wr w4:World} {C:Array Value} {t:TypeId} (hb3:Below B W wr) (hB:B≤wr.heap.size) (hb4:Below (wr.alloc (.cells C t)).drew.heap.size (wr.alloc (.cells C t)).drew w4):
  Below B W w4∧(∀ o,w4.cell? ⟨wr.heap.size,o,none⟩=C[o]?)∧wr.heap.size < w4.heap.size:=by
 have h4:Below (wr.alloc (.cells C t)).heap.size (wr.alloc (.cells C t)) w4:=⟨hb4.os,hb4.tape,hb4.output,hb4.size,hb4.block⟩
 refine ⟨hb3.trans ((qj (qi wr _) h4).mono hB),fun o=> ?_,Nat.lt_of_lt_of_le (by simp) h4.size⟩
 rw [h4.cell (p:=⟨wr.heap.size,o,none⟩) (by simp)]
 exact ql (qm _ _)
theorem lenB (n:Nat):((n:Int)==0)=(n==0):=by cases n<;>simp<;>omega
theorem boxes3 {n:qu} {p:PodD} {w w2 wr:World} {u0 u1 u2:Int} (hb2:Below ((w.alloc (.cells n.cells 43)).alloc (.cells p.cells 45)).heap.size ((w.alloc (.cells n.cells 43)).alloc (.cells p.cells 45)) w2)
  (hbs:Below (w2.heap.size+1) (w2.alloc (.cells #[.int .i64 u0,.int .i64 u1,.int .i64 u2] 41)) wr):
  (∀ o,wr.cell? ⟨w.heap.size,o,none⟩=n.cells[o]?)∧(∀ o,wr.cell? ⟨w.heap.size+1,o,none⟩=p.cells[o]?)∧(∀ o,wr.cell? ⟨w2.heap.size,o,none⟩=(#[.int .i64 u0,.int .i64 u1,.int .i64 u2]:Array Value)[o]?)∧Below w.heap.size w wr∧w.heap.size+1 < w2.heap.size:=by
 have hW:=qj (qi w (.cells n.cells 43)) (qi _ (.cells p.cells 45))
 have hsz:w.heap.size+1 < w2.heap.size:=Nat.lt_of_lt_of_le (by simp) hb2.size
 refine ⟨fun o=> ?_,fun o=> ?_,fun o=> ?_,(qj (qj hW hb2) (qi _ _)).trans (hbs.mono (by omega)),hsz⟩
 ·rw [hbs.cell (p:=⟨w.heap.size,o,none⟩) (by simp;omega),(qi w2 _).cell (p:=⟨w.heap.size,o,none⟩) (by simp;omega),hb2.cell (p:=⟨w.heap.size,o,none⟩) (by simp;omega)]
  refine ql ?_ (e:=43) (fr:=(0,0))
  rw [Below.heap_alloc _ _ _ (by simp)];exact qm _ _
 ·rw [hbs.cell (p:=⟨w.heap.size+1,o,none⟩) (by simp;omega),(qi w2 _).cell (p:=⟨w.heap.size+1,o,none⟩) (by simp;omega),hb2.cell (p:=⟨w.heap.size+1,o,none⟩) (by simp)]
  refine ql ?_ (e:=45) (fr:=(0,0))
  have:=qm (w.alloc (.cells n.cells 43)) (.cells p.cells 45)
  simpa using this
 ·exact ql ((hbs.block w2.heap.size (by omega)).trans (qm w2 (.cells #[.int .i64 u0,.int .i64 u1,.int .i64 u2] 41)))
theorem why_any (Y:Nat) (st:RefD) (v4 v5 v6 v7:Value) (n:qu) (p:PodD) (w:World) (H:qbc w Y st v4 v5 v6 v7) (hnn:st.nodes.length≤100) (hpp:st.pods.length≤1000) (hnd:qfi st.pods)
  (hn0:qb7 n.r0) (hn1:qb7 n.r1) (hn2:qb7 n.r2) (hp0:qb7 p.n0) (hp1:qb7 p.n1) (hp2:qb7 p.n2) (hn:n.ok w) (hp:p.ok w) (hos: ∀ m∈st.nodes,m.ok w) (hps: ∀ x∈st.pods,x.p.ok w)
  (hthere: ∀ x∈st.pods,∃ i,qan (st.nodes.map (·.name)) x.node=some i):
  Calls Tryz.prog 75 #[.pointer (some ⟨Y,0,none⟩),.agg n.cells,.agg p.cells] w fun e w'=>e= .returned (.int .i64 (st.why n p))∧Below w.heap.size w w':=by
 unfold qb7 at *
 have hW:=qj (qi w (.cells n.cells 43)) (qi _ (.cells p.cells 45))
 have cU:=used_any Y st v4 v5 v6 v7 n.name _ (H.kept (Kept.of_below (F:=qq) hW) (fun _ _=>id)) hpp hnd
 have HWh:Hid (st.why n p=if qgq n p (qa8 st.pods n.name st.pods.length) then 1 else if qcz st.pods n p then 2 else if !qae p.select.L n.labels.L then 3 else if !qae n.taints.L p.bears.L then 4
  else if !qdm st n p st.pods.length then 5 else if qe2 st n p st.pods.length then 6 else 0):=rfl
 have Hos:Hid (∀ m∈st.nodes,m.ok w):=hos
 have Hps:Hid (∀ x∈st.pods,x.p.ok w):=hps
 have Hth:Hid (∀ x∈st.pods,∃ i,qan (st.nodes.map (·.name)) x.node=some i):=hthere
 clear hos hps hthere
 obtain ⟨b1,b2,b3,b4,b5,b6,b7,b8⟩:=qfa st.pods n.name hnd st.pods.length
 generalize qa8 st.pods n.name st.pods.length=U at *
 obtain ⟨u0,u1,u2,u3⟩:=U
 dsimp only at b1 b2 b3 b4 b5 b6 b7 b8 cU
 have hbx:=fun w2 hb2 wr hbs=>boxes3 (n:=n) (p:=p) (w:=w) (w2:=w2) (wr:=wr) (u0:=u0) (u1:=u1) (u2:=u2) hb2 hbs
 unfold qu.cells PodD.cells Lst.val at cU hW hbx
 unfold qu.cells PodD.cells Lst.val
 have Hbx:Hid _:=hbx
 clear hbx
 go_enter Tryz.func75,Tryz.ntmps75
 go_wp2_with (go_at_call 35;refine cU.mono ?_;rintro e w2 ⟨rfl,hb2⟩)
 go_loopw [9] (fun i wr=> ∃ (m:Nat),m≤3∧i= .int .i64 m∧qep n p (u0,u1,u2,u3) m=false∧Below (w2.heap.size+1) (w2.alloc (.cells #[.int .i64 u0,.int .i64 u1,.int .i64 u2] 41)) wr) (fun i _=>3 - (intOf i).toNat)
 case atStart=>exact ⟨0,by omega,rfl,rfl,Below.refl _ _⟩
 case round=>
  obtain ⟨m,hm,rfl,ho,hbs⟩:=hrel
  have Ho:Hid (qep n p (u0,u1,u2,u3) m=false):=ho
  clear ho
  obtain ⟨q1,q2,q3,hbw,hsz⟩:=Hbx.out w2 hb2 wr hbs
  have a1:wr.cell? ⟨w.heap.size,1,none⟩=some (.int .i64 n.r0):=q1 1
  have a2:wr.cell? ⟨w.heap.size,2,none⟩=some (.int .i64 n.r1):=q1 2
  have a3:wr.cell? ⟨w.heap.size,3,none⟩=some (.int .i64 n.r2):=q1 3
  have a4:wr.cell? ⟨w.heap.size+1,1,none⟩=some (.int .i64 p.n0):=q2 1
  have a5:wr.cell? ⟨w.heap.size+1,2,none⟩=some (.int .i64 p.n1):=q2 2
  have a6:wr.cell? ⟨w.heap.size+1,3,none⟩=some (.int .i64 p.n2):=q2 3
  have a7:wr.cell? ⟨w2.heap.size,0,none⟩=some (.int .i64 u0):=q3 0
  have a8:wr.cell? ⟨w2.heap.size,1,none⟩=some (.int .i64 u1):=q3 1
  have a9:wr.cell? ⟨w2.heap.size,2,none⟩=some (.int .i64 u2):=q3 2
  have hm':m=0∨m=1∨m=2∨m=3:=by omega
  clear hm q1 q2 q3
  rcases hm' with rfl| rfl| rfl| rfl
  ·by_cases h1:0 < p.n0
   ·by_cases h2:n.r0 < u0+p.n0
    ·have HR:Hid (st.why n p=1):=by show st.why n p=1;rw [HWh.out,if_pos (by simp [qgq,h1,h2])]
     go_wp2
     go_quiet (fail)
     go_wp2
     go_ret
     exact ⟨by rw [HR.out];rfl,below_drewN hbw _⟩
    ·have HR:Hid (qep n p (u0,u1,u2,u3) 1=false):=roomTo_0 _ _ _ Ho.out (fun h=>h2 h.2)
     have h2d:decide (n.r0 < u0+p.n0)=false:=by simpa using h2
     go_wp2
     go_quiet (fail)
     go_wp2
     go_roundw
     case rel=>exact ⟨1,by omega,rfl,HR.out,below_drewN hbs _⟩
     case measure=>simp [intOf]
   ·have HR:Hid (qep n p (u0,u1,u2,u3) 1=false):=roomTo_0 _ _ _ Ho.out (fun h=>h1 h.1)
    have h1d:decide (0 < p.n0)=false:=by simpa using h1
    clear h1
    go_wp2
    go_quiet (fail)
    go_wp2
    go_roundw
    case rel=>exact ⟨1,by omega,rfl,HR.out,below_drewN hbs _⟩
    case measure=>simp [intOf]
  ·by_cases h1:0 < p.n1
   ·by_cases h2:n.r1 < u1+p.n1
    ·have HR:Hid (st.why n p=1):=by show st.why n p=1;rw [HWh.out,if_pos (by simp [qgq,h1,h2])]
     go_wp2
     go_quiet (fail)
     go_wp2
     go_ret
     exact ⟨by rw [HR.out];rfl,below_drewN hbw _⟩
    ·have HR:Hid (qep n p (u0,u1,u2,u3) 2=false):=roomTo_1 _ _ _ Ho.out (fun h=>h2 h.2)
     have h2d:decide (n.r1 < u1+p.n1)=false:=by simpa using h2
     go_wp2
     go_quiet (fail)
     go_wp2
     go_roundw
     case rel=>exact ⟨2,by omega,rfl,HR.out,below_drewN hbs _⟩
     case measure=>simp [intOf]
   ·have HR:Hid (qep n p (u0,u1,u2,u3) 2=false):=roomTo_1 _ _ _ Ho.out (fun h=>h1 h.1)
    have h1d:decide (0 < p.n1)=false:=by simpa using h1
    clear h1
    go_wp2
    go_quiet (fail)
    go_wp2
    go_roundw
    case rel=>exact ⟨2,by omega,rfl,HR.out,below_drewN hbs _⟩
    case measure=>simp [intOf]
  ·by_cases h1:0 < p.n2
   ·by_cases h2:n.r2 < u2+p.n2
    ·have HR:Hid (st.why n p=1):=by show st.why n p=1;rw [HWh.out,if_pos (by simp [qgq,h1,h2])]
     go_wp2
     go_quiet (fail)
     go_wp2
     go_ret
     exact ⟨by rw [HR.out];rfl,below_drewN hbw _⟩
    ·have HR:Hid (qep n p (u0,u1,u2,u3) 3=false):=roomTo_2 _ _ _ Ho.out (fun h=>h2 h.2)
     have h2d:decide (n.r2 < u2+p.n2)=false:=by simpa using h2
     go_wp2
     go_quiet (fail)
     go_wp2
     go_roundw
     case rel=>exact ⟨3,by omega,rfl,HR.out,below_drewN hbs _⟩
     case measure=>simp [intOf]
   ·have HR:Hid (qep n p (u0,u1,u2,u3) 3=false):=roomTo_2 _ _ _ Ho.out (fun h=>h1 h.1)
    have h1d:decide (0 < p.n2)=false:=by simpa using h1
    clear h1
    go_wp2
    go_quiet (fail)
    go_wp2
    go_roundw
    case rel=>exact ⟨3,by omega,rfl,HR.out,below_drewN hbs _⟩
    case measure=>simp [intOf]
  ·have HR:Hid (qgq n p (u0,u1,u2,u3)=false):=by show _=_;rw [← roomTo_all];exact Ho.out
   clear a1 a2 a3 a4 a5 a6 a7 a8 a9
   obtain ⟨a5,cp5,rfl⟩:=qv H.r5
   go_wp2
   go_loopw [10] (fun i wt=> ∃ (k:Nat),k≤st.pods.length∧i= .int .i64 k∧qcz (st.pods.take k) n p=false∧Below (w2.heap.size+1) (w2.alloc (.cells #[.int .i64 u0,.int .i64 u1,.int .i64 u2] 41)) wt) (fun i _=>st.pods.length - (intOf i).toNat)
   case atStart=>exact ⟨0,Nat.zero_le _,rfl,rfl,hbs⟩
   case round=>
    obtain ⟨k,hk,rfl,hno,hbt⟩:=hrel
    have Hno:Hid (qcz (st.pods.take k) n p=false):=hno
    clear hno
    obtain ⟨q1,q2,-,hbv,-⟩:=Hbx.out w2 hb2 wr hbt
    have H4:=H.kept (Kept.of_below (F:=qq) hbv) (fun _ _=>id)
    have hx4:=ql (i:=5) H4.box
    by_cases hlt:k < st.pods.length
    ·obtain ⟨g,ho,hg,-,-⟩:=qbs H4.r5 (by omega)
     subst ho
     obtain ⟨-,-,-,-,k4,-,-,-,-,-,k10,-,-,-,-⟩:=row13 H4.r5 k hlt
     have ht:=portBad_take st.pods n p k hlt
     have hall:qcz st.pods n p=false→((st.pods[k].node.toList==n.name.toList)&&decide (0 < p.port)&&(st.pods[k].p.port==p.port))=false:=fun h=>by
      unfold qcz at h
      rw [List.any_eq_false] at h
      simpa using h _ (List.getElem_mem hlt)
     obtain ⟨x,hxe⟩: ∃ x,x=st.pods[k]:=⟨_,rfl⟩
     rw [← hxe] at ht hall k4 k10
     clear hxe
     have Ht:Hid (qcz (st.pods.take (k+1)) n p=(qcz (st.pods.take k) n p || ((x.node.toList==n.name.toList)&&decide (0 < p.port)&&(x.p.port==p.port)))):=ht
     have Hall:Hid (qcz st.pods n p=false→((x.node.toList==n.name.toList)&&decide (0 < p.port)&&(x.p.port==p.port))=false):=hall
     clear ht hall
     have c1:wr.cell? ⟨w.heap.size,0,none⟩=some (.string n.name):=q1 0
     have c2:wr.cell? ⟨w.heap.size+1,4,none⟩=some (.int .i64 p.port):=q2 4
     clear q1 q2
     cases hE:(x.node.toList==n.name.toList)
     ·have HS:Hid (qcz (st.pods.take (k+1)) n p=false):=by show _=_;rw [Ht.out,Hno.out,hE];rfl
      go_wp2
      go_quiet (fail)
      go_wp2
      go_roundw
      case rel=>exact ⟨k+1,by omega,by go_num,HS.out,below_drewN hbt _⟩
      case measure=>simp [intOf];omega
     ·by_cases hP:0 < p.port
      ·cases hQ:(x.p.port==p.port)
       ·have HS:Hid (qcz (st.pods.take (k+1)) n p=false):=by show _=_;rw [Ht.out,Hno.out,hQ,Bool.and_false];rfl
        go_wp2
        go_quiet (fail)
        go_wp2
        go_roundw
        case rel=>exact ⟨k+1,by omega,by go_num,HS.out,below_drewN hbt _⟩
        case measure=>simp [intOf];omega
       ·have HS:Hid (st.why n p=2):=by
         show st.why n p=2
         have hb:qcz st.pods n p=true:=by
          cases hb:qcz st.pods n p
          ·have:=Hall.out hb
           rw [hE,hQ] at this
           simp [hP] at this
          ·rfl
         rw [HWh.out,HR.out,hb];rfl
        go_wp2
        go_quiet (fail)
        go_wp2
        go_ret
        exact ⟨by rw [HS.out];rfl,below_drewN hbv _⟩
      ·have HS:Hid (qcz (st.pods.take (k+1)) n p=false):=by show _=_;rw [Ht.out,Hno.out,hE];simp [hP]
       have hPd:decide (0 < p.port)=false:=by simpa using hP
       clear hP
       go_wp2
       go_quiet (fail)
       go_wp2
       go_roundw
       case rel=>exact ⟨k+1,by omega,by go_num,HS.out,below_drewN hbt _⟩
       case measure=>simp [intOf];omega
    ·have hkl:k=st.pods.length:=by omega
     have hno:=Hno.out
     rw [hkl,List.take_length] at hno
     have HP:Hid (qcz st.pods n p=false):=hno
     clear hno hkl
     have c0:wr.cell? ⟨w.heap.size,4,none⟩=some (.slice n.labels.a n.labels.L.length n.labels.cap):=q1 4
     have c1:wr.cell? ⟨w.heap.size,5,none⟩=some (.slice n.taints.a n.taints.L.length n.taints.cap):=q1 5
     have c2:wr.cell? ⟨w.heap.size+1,6,none⟩=some (.slice p.select.a p.select.L.length p.select.cap):=q2 6
     have c3:wr.cell? ⟨w.heap.size+1,7,none⟩=some (.slice p.bears.a p.bears.L.length p.bears.cap):=q2 7
     have c4:wr.cell? ⟨w.heap.size+1,8,none⟩=some (.slice p.near.a p.near.L.length p.near.cap):=q2 8
     clear q1 q2
     have fS:=fun m=>rfits_any p.select.L n.labels.L p.select.a n.labels.a p.select.cap n.labels.cap (wr.drewN m) (hp.2 p.select (by simp [PodD.lists])).1 (hn.2 n.labels (by simp [qu.lists])).1 ((hp.2 p.select (by simp [PodD.lists])).2.2.1.below (below_drewN hbv m)) ((hn.2 n.labels (by simp [qu.lists])).2.2.1.below (below_drewN hbv m))
     have fT:=fun m=>rfits_any n.taints.L p.bears.L n.taints.a p.bears.a n.taints.cap p.bears.cap (wr.drewN m) (hn.2 n.taints (by simp [qu.lists])).1 (hp.2 p.bears (by simp [PodD.lists])).1 ((hn.2 n.taints (by simp [qu.lists])).2.2.1.below (below_drewN hbv m)) ((hp.2 p.bears (by simp [PodD.lists])).2.2.1.below (below_drewN hbv m))
     cases hS:qae p.select.L n.labels.L
     ·have HS:Hid (st.why n p=3):=by show st.why n p=3;rw [HWh.out,HR.out,HP.out,hS];rfl
      rw [hS] at fS
      go_wp2_with (first
       | (go_at_call_of 87 (Value.slice n.taints.a n.taints.L.length n.taints.cap);refine (fT n1).mono ?_;rintro e w4 ⟨rfl,n2,rfl⟩)
       | (go_at_call_of 87 (Value.slice p.select.a p.select.L.length p.select.cap);refine (fS 0).mono ?_;rintro e w3 ⟨rfl,n1,rfl⟩))
      go_ret
      exact ⟨by rw [HS.out];rfl,below_drewN hbv _⟩
     ·cases hT:qae n.taints.L p.bears.L
      ·have HS:Hid (st.why n p=4):=by show st.why n p=4;rw [HWh.out,HR.out,HP.out,hS,hT];rfl
       rw [hS] at fS
       rw [hT] at fT
       go_wp2_with (first
        | (go_at_call_of 87 (Value.slice n.taints.a n.taints.L.length n.taints.cap);refine (fT n1).mono ?_;rintro e w4 ⟨rfl,n2,rfl⟩)
        | (go_at_call_of 87 (Value.slice p.select.a p.select.L.length p.select.cap);refine (fS 0).mono ?_;rintro e w3 ⟨rfl,n1,rfl⟩))
       go_ret
       exact ⟨by rw [HS.out];rfl,below_drewN hbv _⟩
      ·have HS:Hid (st.why n p=if !qdm st n p st.pods.length then 5 else if qe2 st n p st.pods.length then 6 else 0):=by show st.why n p=_;rw [HWh.out,HR.out,HP.out,hS,hT];rfl
       rw [hS] at fS
       rw [hT] at fT
       go_wp2_with (first
        | (go_at_call_of 87 (Value.slice n.taints.a n.taints.L.length n.taints.cap);refine (fT n1).mono ?_;rintro e w4 ⟨rfl,n2,rfl⟩)
        | (go_at_call_of 87 (Value.slice p.select.a p.select.L.length p.select.cap);refine (fS 0).mono ?_;rintro e w3 ⟨rfl,n1,rfl⟩))
       clear fS fT hS hT c0 c1 c2 c3 c4 hx4 H4 hlt hk hW cU b1 b2 b3 b4 b5 b6 b7 b8 hn0 hn1 hn2 hp0 hp1 hp2
       obtain ⟨a4,cp4,rfl⟩:=qv H.r4
       go_loopg [13,14,15] st.pods.length (fun gk f a i wt=> ∃ q:Nat,q≤st.pods.length∧gk=st.pods.length - q∧i= .int .i64 q∧f= .bool (qdm st n p q)∧a= .bool (qe2 st n p q)∧Below (w2.heap.size+1) (w2.alloc (.cells #[.int .i64 u0,.int .i64 u1,.int .i64 u2] 41)) wt)
       case atStart=>exact ⟨0,Nat.zero_le _,rfl,rfl,by rw [lenB];simp [qdm],rfl,below_drewN hbt _⟩
       case round=>
        obtain ⟨q,hq,hgk,rfl,rfl,rfl,hb3⟩:=hrel
        have Hgk:Hid (gk=st.pods.length - q):=hgk
        clear hgk
        obtain ⟨q1,q2,-,hbv3,hz3⟩:=Hbx.out w2 hb2 wr hb3
        have hzr:w2.heap.size < wr.heap.size:=Nat.lt_of_lt_of_le (by simp) hb3.size
        have z1:w.heap.size < wr.heap.size:=by omega
        have z2:w.heap.size+1 < wr.heap.size:=by omega
        have H4:=H.kept (Kept.of_below (F:=qq) hbv3) (fun _ _=>id)
        have hx4:=ql (i:=4) H4.box
        have hx5:=ql (i:=5) H4.box
        have hYr:=qo H4.box
        by_cases hlt:q < st.pods.length
        ·obtain ⟨g,ho,hg,-,-⟩:=qbs H4.r5 (by omega)
         subst ho
         obtain ⟨k0,k1,k2,k3,k4,k5,k6,k7,k8,k9,k10,-,-,-,-⟩:=row13 H4.r5 q hlt
         have hfs:=friendTo_succ st n p q hlt
         have has:=apartTo_succ st n p q hlt
         obtain ⟨i,hi⟩:=Hth.out _ (List.getElem_mem hlt)
         have hil:i < st.nodes.length:=by simpa using nameIdx_lt hi
         have hxok:=Hps.out _ (List.getElem_mem hlt)
         obtain ⟨x,hxe⟩: ∃ x,x=st.pods[q]:=⟨_,rfl⟩
         simp only [← hxe] at k0 k1 k2 k3 k4 k5 k6 k7 k8 k9 k10 hfs has hi hxok
         unfold Lst.val at k5 k6 k7 k8 k9
         clear hxe
         obtain ⟨g4,ho4,hg4,-,-⟩:=qbs H4.r4 (by omega)
         subst ho4
         obtain ⟨m0,m1,m2,m3,m4,m5,-,-⟩:=row6 H4.r4 i hil
         have hmok:=Hos.out _ (List.getElem_mem hil)
         have hcl:qfg st n x=nearB n st.nodes[i]:=by unfold qfg;rw [hi];simp only [List.getElem?_eq_getElem hil]
         obtain ⟨m,hme⟩: ∃ m,m=st.nodes[i]:=⟨_,rfl⟩
         simp only [← hme] at m0 m1 m2 m3 m4 m5 hmok hcl
         unfold Lst.val at m4 m5
         clear hme
         rw [hcl] at hfs has
         clear hcl
         have Hfs:Hid (qdm st n p (q+1)=(qdm st n p q || (nearB n m&&qae p.near.L x.p.labels.L))):=hfs
         have Has:Hid (qe2 st n p (q+1)=((qe2 st n p q || (nearB n m&&decide (0 < p.apart.L.length)&&qae p.apart.L x.p.labels.L)) || (nearB n m&&decide (0 < x.p.apart.L.length)&&qae x.p.apart.L p.labels.L))):=has
         clear hfs has
         have hbA:=qi wr (.cells #[.string x.p.name,.int .i64 x.p.n0,.int .i64 x.p.n1,.int .i64 x.p.n2,.int .i64 x.p.port,.slice x.p.labels.a x.p.labels.L.length x.p.labels.cap,.slice x.p.select.a x.p.select.L.length x.p.select.cap,.slice x.p.bears.a x.p.bears.L.length x.p.bears.cap,.slice x.p.near.a x.p.near.L.length x.p.near.cap,.slice x.p.apart.a x.p.apart.L.length x.p.apart.cap] 45)
         have cN:=qg2 Y st _ _ _ _ x.node _ (H4.kept (Kept.of_below (F:=qq) hbA) (fun _ _=>id)) (by omega)
         rw [hi] at cN
         unfold idxI at cN
         have cM:=near_any n m _ (hn.below (qj hbv3 hbA).drew) (hmok.below (qj hbv3 hbA).drew)
         unfold qu.cells Lst.val at cM
         clear hi hbA
         have e0:wr.cell? ⟨w.heap.size,0,none⟩=some (.string n.name):=q1 0
         have e1:wr.cell? ⟨w.heap.size,1,none⟩=some (.int .i64 n.r0):=q1 1
         have e2:wr.cell? ⟨w.heap.size,2,none⟩=some (.int .i64 n.r1):=q1 2
         have e3:wr.cell? ⟨w.heap.size,3,none⟩=some (.int .i64 n.r2):=q1 3
         have e4:wr.cell? ⟨w.heap.size,4,none⟩=some (.slice n.labels.a n.labels.L.length n.labels.cap):=q1 4
         have e5:wr.cell? ⟨w.heap.size,5,none⟩=some (.slice n.taints.a n.taints.L.length n.taints.cap):=q1 5
         clear q1 q2
         generalize nearB n m=CL at *
         go_upto_region 25 with (go_at_call 45;refine cN.mono ?_;rintro e w3 ⟨rfl,rfl⟩)
         go_cut [18] from 110 to 192 (fun c wx=>c= .bool CL∧Below (w2.heap.size+1) (w2.alloc (.cells #[.int .i64 u0,.int .i64 u1,.int .i64 u2] 41)) wx∧wx.cell? ⟨wr.heap.size,5,none⟩=some (.slice x.p.labels.a x.p.labels.L.length x.p.labels.cap)∧wx.cell? ⟨wr.heap.size,9,none⟩=some (.slice x.p.apart.a x.p.apart.L.length x.p.apart.cap)∧wr.heap.size < wx.heap.size)
         case first=>
          go_region_with (go_at_call 88;refine cM.mono ?_;rintro e w4 ⟨rfl,hb4⟩)
          all_goals go_wp2_with fail
          all_goals go_meet
          all_goals exact (fun h=>⟨rfl,h.1,h.2.1 5,h.2.1 9,h.2.2⟩) (after_box hb3 (by omega) hb4)
         case rest=>
          obtain ⟨rfl,hb5,d5,d9,hzc⟩:=hcut
          clear cN cM m0 m1 m2 m3 m4 m5 k0 k1 k2 k3 k4 k5 k6 k7 k8 k9 k10 e0 e1 e2 e3 e4 e5 hx4 hx5
          obtain ⟨-,q2,-,hbv5,-⟩:=Hbx.out w2 hb2 wc hb5
          have e5:wc.cell? ⟨w.heap.size+1,5,none⟩=some (.slice p.labels.a p.labels.L.length p.labels.cap):=q2 5
          have e8:wc.cell? ⟨w.heap.size+1,8,none⟩=some (.slice p.near.a p.near.L.length p.near.cap):=q2 8
          have e9:wc.cell? ⟨w.heap.size+1,9,none⟩=some (.slice p.apart.a p.apart.L.length p.apart.cap):=q2 9
          clear q2
          have fN:=fun m=>rfits_any p.near.L x.p.labels.L p.near.a x.p.labels.a p.near.cap x.p.labels.cap (wc.drewN m) (hp.2 p.near (by simp [PodD.lists])).1 (hxok.2 x.p.labels (by simp [PodD.lists])).1 ((hp.2 p.near (by simp [PodD.lists])).2.2.1.below (below_drewN hbv5 m)) ((hxok.2 x.p.labels (by simp [PodD.lists])).2.2.1.below (below_drewN hbv5 m))
          have fA:=fun m=>rfits_any p.apart.L x.p.labels.L p.apart.a x.p.labels.a p.apart.cap x.p.labels.cap (wc.drewN m) (hp.2 p.apart (by simp [PodD.lists])).1 (hxok.2 x.p.labels (by simp [PodD.lists])).1 ((hp.2 p.apart (by simp [PodD.lists])).2.2.1.below (below_drewN hbv5 m)) ((hxok.2 x.p.labels (by simp [PodD.lists])).2.2.1.below (below_drewN hbv5 m))
          have fX:=fun m=>rfits_any x.p.apart.L p.labels.L x.p.apart.a p.labels.a x.p.apart.cap p.labels.cap (wc.drewN m) (hxok.2 x.p.apart (by simp [PodD.lists])).1 (hp.2 p.labels (by simp [PodD.lists])).1 ((hxok.2 x.p.apart (by simp [PodD.lists])).2.2.1.below (below_drewN hbv5 m)) ((hp.2 p.labels (by simp [PodD.lists])).2.2.1.below (below_drewN hbv5 m))
          generalize qae p.near.L x.p.labels.L=FN at *
          generalize qae p.apart.L x.p.labels.L=FA at *
          generalize qae x.p.apart.L p.labels.L=FX at *
          generalize qdm st n p q=F at *
          generalize qe2 st n p q=A at *
          go_upto_region 29 with (first
           | (go_at_call_of 87 (Value.slice x.p.apart.a x.p.apart.L.length x.p.apart.cap);refine (fX (j1+j2)).mono ?_;rintro e w6 ⟨rfl,j3,rfl⟩)
           | (go_at_call_of 87 (Value.slice p.apart.a p.apart.L.length p.apart.cap);refine (fA j1).mono ?_;rintro e w5 ⟨rfl,j2,rfl⟩)
           | (go_at_call_of 87 (Value.slice p.near.a p.near.L.length p.near.cap);refine (fN 0).mono ?_;rintro e w4 ⟨rfl,j1,rfl⟩))
          clear fN fA fX
          go_cut [13] from 110 to 192 (fun c wx=>c= .bool (F || (CL&&FN))∧ ∃ j,wx=wc.drewN j)
          case first=>
           cases F<;>cases CL<;>cases FN
           all_goals go_wp2_with fail
           all_goals go_meet
           all_goals exact ⟨rfl,_,rfl⟩
          case rest=>
           obtain ⟨rfl,j,rfl⟩:=hcut
           cases A
           ·cases CL
            ·go_wp2_with fail
             go_roundg (st.pods.length - (q+1))
             case measure=>have:=Hgk.out;omega
             case rel=>exact ⟨q+1,by omega,rfl,by go_num,by rw [Hfs.out],by rw [Has.out];simp,below_drewN hb5 _⟩
            ·by_cases la:0 < p.apart.L.length
             ·have lad:decide (0 < (p.apart.L.length:Int))=true:=by simpa using la
              cases FA
              ·by_cases lb:0 < x.p.apart.L.length
               ·have lbd:decide (0 < (x.p.apart.L.length:Int))=true:=by simpa using lb
                cases FX
                ·go_wp2_with fail
                 go_roundg (st.pods.length - (q+1))
                 case measure=>have:=Hgk.out;omega
                 case rel=>exact ⟨q+1,by omega,rfl,by go_num,by rw [Hfs.out],by rw [Has.out];simp [lb],below_drewN hb5 _⟩
                ·go_wp2_with fail
                 go_roundg (st.pods.length - (q+1))
                 case measure=>have:=Hgk.out;omega
                 case rel=>exact ⟨q+1,by omega,rfl,by go_num,by rw [Hfs.out],by rw [Has.out];simp [lb],below_drewN hb5 _⟩
               ·have lbd:decide (0 < (x.p.apart.L.length:Int))=false:=by simpa using lb
                go_wp2_with fail
                go_roundg (st.pods.length - (q+1))
                case measure=>have:=Hgk.out;omega
                case rel=>exact ⟨q+1,by omega,rfl,by go_num,by rw [Hfs.out],by rw [Has.out];simp [lb],below_drewN hb5 _⟩
              ·go_wp2_with fail
               go_roundg (st.pods.length - (q+1))
               case measure=>have:=Hgk.out;omega
               case rel=>exact ⟨q+1,by omega,rfl,by go_num,by rw [Hfs.out],by rw [Has.out];simp [la],below_drewN hb5 _⟩
             ·have lad:decide (0 < (p.apart.L.length:Int))=false:=by simpa using la
              by_cases lb:0 < x.p.apart.L.length
              ·have lbd:decide (0 < (x.p.apart.L.length:Int))=true:=by simpa using lb
               cases FX
               ·go_wp2_with fail
                go_roundg (st.pods.length - (q+1))
                case measure=>have:=Hgk.out;omega
                case rel=>exact ⟨q+1,by omega,rfl,by go_num,by rw [Hfs.out],by rw [Has.out];simp [la,lb],below_drewN hb5 _⟩
               ·go_wp2_with fail
                go_roundg (st.pods.length - (q+1))
                case measure=>have:=Hgk.out;omega
                case rel=>exact ⟨q+1,by omega,rfl,by go_num,by rw [Hfs.out],by rw [Has.out];simp [la,lb],below_drewN hb5 _⟩
              ·have lbd:decide (0 < (x.p.apart.L.length:Int))=false:=by simpa using lb
               go_wp2_with fail
               go_roundg (st.pods.length - (q+1))
               case measure=>have:=Hgk.out;omega
               case rel=>exact ⟨q+1,by omega,rfl,by go_num,by rw [Hfs.out],by rw [Has.out];simp [la,lb],below_drewN hb5 _⟩
           ·go_wp2_with fail
            go_roundg (st.pods.length - (q+1))
            case measure=>have:=Hgk.out;omega
            case rel=>exact ⟨q+1,by omega,rfl,by go_num,by rw [Hfs.out],by rw [Has.out];simp,below_drewN hb5 _⟩
        ·have hql:q=st.pods.length:=by omega
         rw [hql]
         have h0:=HS.out
         clear hql Hgk
         cases hF:qdm st n p st.pods.length
         ·rw [hF] at h0
          have H0:Hid (st.why n p=5):=h0
          clear h0
          go_wp2_with fail
          go_ret
          exact ⟨by rw [H0.out];rfl,hbv3⟩
         ·cases hA:qe2 st n p st.pods.length
          ·rw [hF,hA] at h0
           have H0:Hid (st.why n p=0):=h0
           clear h0
           go_wp2_with fail
           go_ret
           exact ⟨by rw [H0.out];rfl,hbv3⟩
          ·rw [hF,hA] at h0
           have H0:Hid (st.why n p=6):=h0
           clear h0
           go_wp2_with fail
           go_ret
           exact ⟨by rw [H0.out];rfl,hbv3⟩
end
section
open Go.RowKit
attribute [local go_sem] Go.wp_at_zero Go.wp_at_succ
structure qg8 where
 err:Int
 node:ByteArray
 score:Int
 reasons:List (ByteArray×Int)
 fresh:Int
def qdr (r:ByteArray×Int):List Value:= [.string r.1,.int .i64 r.2]
def qg8.no (e:Int):qg8:=⟨e,⟨#[]⟩,0,[],0⟩
def qah (st:RefD) (p:PodD):Nat→List (ByteArray×Int)×Int×Int
 | 0=>([],-1,0)
 | k+1=>match st.nodes[k]? with
  | none=>qah st p k
  | some n=>if 0 < st.why n p then ((qah st p k).1++ [(n.name,st.why n p)],(qah st p k).2)
   else if (qah st p k).2.1 < 0∨(qah st p k).2.2 < st.score n p then ((qah st p k).1,k,st.score n p) else qah st p k
def RefD.schedIn (st:RefD) (p:PodD) (fresh:Int):qg8×RefD:=
 match qah st p st.nodes.length with
 | (l,b,s)=>match (if b < 0 then none else st.nodes[b.toNat]?) with
  | none=>(⟨9,⟨#[]⟩,s,l,fresh⟩,st)
  | some n=>(⟨0,n.name,s,[],fresh⟩,st.lay ⟨p,n.name,false,st.now⟩)
def RefD.sched (st:RefD) (p:PodD):qg8×RefD:=
 if p.err≠0 then (.no p.err,st) else if st.admits p.name≠0 then (.no (st.admits p.name),st)
 else st.fresh.2.schedIn p st.fresh.1
def qem (w w':World) (Y:Nat) (st:RefD) (r:qg8) (v4 v5 v6 v7:Value) (e:Ending):Prop:=
 ∃ rv v4' v5' v6' v7',e= .returned (.agg #[.int .i64 r.err,.string r.node,.int .i64 r.score,rv,.int .i64 r.fresh])∧w'.ownsRow 0 165 2 rv r.reasons.length (r.reasons.flatMap qdr)∧
  (∀ k,rv.ownBlock=some k→w.heap.size≤k∧ ¬ qau Y v4' v5' v6' v7' k)∧qbc w' Y st v4' v5' v6' v7'∧Kept (qau Y v4 v5 v6 v7) w w'∧ ∀ b,qau Y v4' v5' v6' v7' b→qau Y v4 v5 v6 v7 b∨w.heap.size≤b
theorem qem.refused {w w':World} {Y:Nat} {st:RefD} {v4 v5 v6 v7:Value} {e:Int} (H:qbc w Y st v4 v5 v6 v7) (hb:Below w.heap.size w w'):
  qem w w' Y st (.no e) v4 v5 v6 v7 (.returned (.agg #[.int .i64 e,.string ⟨#[]⟩,.int .i64 0,.slice none 0 0,.int .i64 0])):=
 ⟨_,v4,v5,v6,v7,rfl,World.ownsRow_nil _ _ _ _,fun k hk=>by simp [Value.ownBlock] at hk,H.kept (Kept.of_below (F:=qq) hb) (fun _ _=>id),Kept.of_below hb,fun _ h=> .inl h⟩
theorem sched_err (Y:Nat) (st:RefD) (v4 v5 v6 v7:Value) (p:PodD) (w:World) (H:qbc w Y st v4 v5 v6 v7) (hok:p.ok w) (h0:p.err≠0):
  Calls Tryz.prog 54 #[.pointer (some ⟨Y,0,none⟩),.agg p.cells] w fun e w'=>qem w w' Y (st.sched p).2 (st.sched p).1 v4 v5 v6 v7 e:=by
 have HE:Hid (st.sched p=(.no p.err,st)):=by show st.sched p=_;simp [RefD.sched,h0]
 have h0':(p.err==0)=false:=by simpa using h0
 have h0'':(p.err != 0)=true:=by simpa using h0
 clear h0
 have hW:=fun o o'=>qj (qi w o) (qi (w.alloc o) o')
 have c1:=fun o o'=>qhq p ((w.alloc o).alloc o') (hok.below (hW o o'))
 unfold PodD.cells Lst.val at c1
 unfold PodD.cells Lst.val
 go_enter Tryz.func54,Tryz.ntmps54
 go_wp2_with (go_at_call 50;refine (c1 _ _).mono ?_;rintro e w1 ⟨rfl,hb1⟩;have z1:=hb1.size;have r1:=fun o=>hb1.cell (p:=⟨w.heap.size+1,o,none⟩) (by simp);have r2:=fun o=>hb1.frozen (p:=⟨w.heap.size+1,o,none⟩) (by simp))
 refine bodyPost_ret (v:= .agg #[.int .i64 p.err,.string ⟨#[]⟩,.int .i64 0,.slice none 0 0,.int .i64 0]) (by simp [results,Tryz.results54,go_sem,r1]) rfl ?_
 rw [HE.out]
 have hB:=qj (hW _ _) hb1
 exact qem.refused H (((((hB.setCell (p:=⟨w.heap.size+1,0,none⟩) (by simp) _).setCell (p:=⟨w.heap.size+1,1,none⟩) (by simp) _).setCell (p:=⟨w.heap.size+1,2,none⟩) (by simp) _).setCell (p:=⟨w.heap.size+1,3,none⟩) (by simp) _).setCell (p:=⟨w.heap.size+1,4,none⟩) (by simp) _)
theorem rsched_adm (Y:Nat) (st:RefD) (v4 v5 v6 v7:Value) (p:PodD) (w:World) (H:qbc w Y st v4 v5 v6 v7) (hok:p.ok w) (hp:st.pods.length≤1000) (h0:p.err=0) (h1:st.admits p.name≠0):
  Calls Tryz.prog 54 #[.pointer (some ⟨Y,0,none⟩),.agg p.cells] w fun e w'=>qem w w' Y (st.sched p).2 (st.sched p).1 v4 v5 v6 v7 e:=by
 have HE:Hid (st.sched p=(.no (st.admits p.name),st)):=by show st.sched p=_;simp [RefD.sched,h0,h1]
 have h0'':(st.admits p.name != 0)=true:=by simpa using h1
 have hW:=fun o o'=>qj (qi w o) (qi (w.alloc o) o')
 have c1:=fun o o'=>qhq p ((w.alloc o).alloc o') (hok.below (hW o o'))
 have hb: ∀ w1:World,Below w.heap.size w w1→qbc w1 Y st v4 v5 v6 v7:=fun w1 hb=>H.kept (Kept.of_below (F:=qq) hb) fun _ _=>id
 have c3:=fun w1 hb1=>admits_any Y st v4 v5 v6 v7 p w1 (hb w1 hb1) (by omega)
 rw [h0] at c1
 clear h0 h1
 unfold PodD.cells Lst.val at c1 c3
 unfold PodD.cells Lst.val
 go_enter Tryz.func54,Tryz.ntmps54
 go_wp2_with (first
  | (go_at_call 50;refine (c1 _ _).mono ?_;rintro e w1 ⟨rfl,hb1⟩;have z1:=hb1.size;have hB1:=qj (hW _ _) hb1;have r0:=fun o=>hb1.cell (p:=⟨w.heap.size,o,none⟩) (by simp;omega);have r1:=fun o=>hb1.cell (p:=⟨w.heap.size+1,o,none⟩) (by simp);have r2:=fun o=>hb1.frozen (p:=⟨w.heap.size+1,o,none⟩) (by simp))
  | (go_at_call 51;refine (c3 w1 hB1).mono ?_;rintro e w2 ⟨rfl,hb2⟩;have hB2:=qj hB1 hb2;have s1:=fun o=>hb2.cell (p:=⟨w.heap.size+1,o,none⟩) (by simp at z1;simp;omega);have s2:=fun o=>hb2.frozen (p:=⟨w.heap.size+1,o,none⟩) (by simp at z1;simp;omega)))
 refine bodyPost_ret (v:= .agg #[.int .i64 (st.admits p.name),.string ⟨#[]⟩,.int .i64 0,.slice none 0 0,.int .i64 0]) (by simp [results,Tryz.results54,go_sem,s1,r1]) rfl ?_
 rw [HE.out]
 exact qem.refused H (((((hB2.setCell (p:=⟨w.heap.size+1,0,none⟩) (by simp) _).setCell (p:=⟨w.heap.size+1,1,none⟩) (by simp) _).setCell (p:=⟨w.heap.size+1,2,none⟩) (by simp) _).setCell (p:=⟨w.heap.size+1,3,none⟩) (by simp) _).setCell (p:=⟨w.heap.size+1,4,none⟩) (by simp) _)
end
section
open Go.RowKit
attribute [local go_sem] Go.wp_at_zero Go.wp_at_succ
theorem Lst.ok.stays {F C:Nat→Prop} {w w':World} {x:Lst} (h:x.ok w) (hC:x.inC C) (hk:Kept F w w') (hCF: ∀ b,C b→ ¬ F b):x.ok w':=by
 refine ⟨h.1,h.2.1,?_,h.2.2.2⟩
 by_cases h0:0 < x.L.length
 ·exact h.2.2.1.stays hk (fun p e hP=>hCF _ (hC h0 p e) hP)
 ·intro k hk';omega
theorem qu.ok.kept {F C:Nat→Prop} {w w':World} {n:qu} (h:n.ok w) (hC: ∀ x∈n.lists,x.inC C) (hk:Kept F w w') (hCF: ∀ b,C b→ ¬ F b):n.ok w':=⟨h.1,fun x hx=>(h.2 x hx).stays (hC x hx) hk hCF⟩
theorem PodD.ok.kept {F C:Nat→Prop} {w w':World} {n:PodD} (h:n.ok w) (hC: ∀ x∈n.lists,x.inC C) (hk:Kept F w w') (hCF: ∀ b,C b→ ¬ F b):n.ok w':=⟨h.1,fun x hx=>(h.2 x hx).stays (hC x hx) hk hCF⟩
structure RefD.sound (C:Nat→Prop) (w:World) (st:RefD):Prop where
 wf:st.wf
 needs:qfi st.pods
 rooms: ∀ m∈st.nodes,qb7 m.r0∧qb7 m.r1∧qb7 m.r2
 nok: ∀ m∈st.nodes,m.ok w∧ ∀ x∈m.lists,x.inC C
 pok: ∀ x∈st.pods,x.p.ok w∧ ∀ y∈x.p.lists,y.inC C
 there: ∀ x∈st.pods,∃ i,qan (st.nodes.map (·.name)) x.node=some i
theorem RefD.sound.kept {F C:Nat→Prop} {w w':World} {st:RefD} (h:st.sound C w) (hk:Kept F w w') (hCF: ∀ b,C b→ ¬ F b):st.sound C w':=
 ⟨h.wf,h.needs,h.rooms,fun m hm=>⟨(h.nok m hm).1.kept (h.nok m hm).2 hk hCF,(h.nok m hm).2⟩,fun m hm=>⟨(h.pok m hm).1.kept (h.pok m hm).2 hk hCF,(h.pok m hm).2⟩,h.there⟩
theorem RefD.sound.fresh {C:Nat→Prop} {w:World} {st:RefD} (h:st.sound C w):st.fresh.2.sound C w:=
 ⟨⟨h.wf.hold0,h.wf.hold1,h.wf.now0,h.wf.now1,h.wf.since,h.wf.nodes,h.wf.pods⟩,h.needs,h.rooms,h.nok,h.pok,h.there⟩
theorem PodD.amounts {p:PodD} (h:p.err=0):qb7 p.n0∧qb7 p.n1∧qb7 p.n2:=by
 unfold PodD.err at h
 split at h
 ·rename_i hg
  simp only [PodD.good,qef,amtB,Bool.and_eq_true,decide_eq_true_eq] at hg
  unfold qb7
  omega
 ·omega
theorem why_bound (st:RefD) (n:qu) (p:PodD):0≤st.why n p∧st.why n p≤6:=by
 unfold RefD.why
 repeat' split
 all_goals omega
theorem score_bound (st:RefD) (n:qu) (p:PodD) (hnd:qfi st.pods) (hp:qb7 p.n0∧qb7 p.n1∧qb7 p.n2):0≤st.score n p∧st.score n p≤300:=by
 obtain ⟨b1,-,b3,-,b5,-⟩:=qfa st.pods n.name hnd st.pods.length
 unfold RefD.score scoreOf
 have h1:=qek n.r0 _ p.n0 b1 hp.1.1
 have h2:=qek n.r1 _ p.n1 b3 hp.2.1.1
 have h3:=qek n.r2 _ p.n2 b5 hp.2.2.1
 omega
theorem schedTo_facts (st:RefD) (p:PodD) (hnd:qfi st.pods) (hp:qb7 p.n0∧qb7 p.n1∧qb7 p.n2) (k:Nat) (hk:k≤st.nodes.length):(qah st p k).1.length≤k∧ -1≤(qah st p k).2.1∧(qah st p k).2.1 < k∧0≤(qah st p k).2.2∧(qah st p k).2.2≤300:=by
 induction k with
 | zero=>simp [qah]
 | succ k ih=>
  have ih:=ih (by omega)
  unfold qah
  rw [List.getElem?_eq_getElem (by omega)]
  dsimp only
  have hs:=score_bound st st.nodes[k] p hnd hp
  split
  ·simp only [List.length_append,List.length_cons,List.length_nil];omega
  ·split
   ·dsimp only;omega
   ·omega
theorem Tryz.infoReason:(Tryz.prog.info? 165).map (fun i=>(i.zero,i.size,i.bytes))=some (some (.agg #[.string ⟨#[]⟩,.int .i64 0]),2,24):=by kernel_rfl
def BuiltB (B:Nat) (W wr:World) (e:TypeId) (s:Nat) (v:Value) (n:Nat) (xs:List Value):Prop:=wr.ownsRow 0 e s v n xs∧Kept (fun b=>b=B) W wr∧ ∀ k,v.ownBlock=some k→W.heap.size≤k
theorem BuiltB.below {B:Nat} {W wr w2:World} {e:TypeId} {s:Nat} {v:Value} {n:Nat} {xs:List Value} (h:BuiltB B W wr e s v n xs) (hb:Below wr.heap.size wr w2):BuiltB B W w2 e s v n xs:=
 ⟨(Kept.of_below (F:=qq) hb).ownsRow h.1 (fun _ _=>id),h.2.1.trans (Kept.of_below (F:=qq) hb) (fun _ _ h=>h.elim),h.2.2⟩
theorem BuiltB.more {B:Nat} {W wr w2:World} {e:TypeId} {s:Nat} {v v':Value} {n n':Nat} {xs xs':List Value} {o:Obj} (h:BuiltB B W wr e s v n xs) (hg:(wr.alloc o).grownBy w2 v.ownBlock) (ho:w2.ownsRow 0 e s v' n' xs')
  (hf:v'.ownBlock=v.ownBlock∨ ∀ k,v'.ownBlock=some k→(wr.alloc o).heap.size≤k):BuiltB B W w2 e s v' n' xs':=
 ⟨ho,(h.2.1.alloc o).grown hg (fun k hk hl=>by have:=h.2.2 k hk;omega),fun k hk=>hf.elim (fun e=>h.2.2 k (e▸hk)) (fun f=>by have:=f k hk;have:=h.2.1.size;simp at *;omega)⟩
theorem BuiltB.set {B i:Nat} {W wr:World} {e:TypeId} {s:Nat} {v:Value} {n:Nat} {xs:List Value} (h:BuiltB B W wr e s v n xs) (hB:B < W.heap.size) (u:Value):BuiltB B W (wr.setCell ⟨B,i,none⟩ u) e s v n xs:=
 ⟨((Kept.refl (fun b=>b=B) wr).setCell (p:=⟨B,i,none⟩) (fun _=>rfl) u).ownsRow h.1 (fun k hk e=>by have:=h.2.2 k hk;omega),h.2.1.setCell (p:=⟨B,i,none⟩) (fun _=>rfl) u,h.2.2⟩
end
end Go.Proofs.YtchddaafibjmgaaGreat
