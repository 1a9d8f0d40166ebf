import Derived.Test.YtchddaafibjmgaaGreatMD6
import Derived.Test.YtchddaafibjmgaaGreatMA3
import Derived.Deep.RegionHeld3
import Derived.Deep.DrawnRows
import Derived.BigQuiet
set_option maxRecDepth 100000
set_option maxHeartbeats 20000000
namespace Go.Proofs.YtchddaafibjmgaaGreat
section
open Go.RowKit
attribute [local go_sem] Go.wp_at_zero Go.wp_at_succ
theorem zone_any (n:qu) (w:World) (hok:n.ok w):Calls Tryz.prog 99 #[.agg n.cells] w fun e w'=>e= .returned (.string (qbj n.labels.L))∧Below w.heap.size w w':=by
 obtain ⟨o1,_,o3,_⟩:=hok.2 n.labels (by simp [qu.lists])
 obtain ⟨la,hla⟩: ∃ la,n.labels.a=la:=⟨_,rfl⟩
 rw [hla] at o3
 unfold qu.cells Lst.val
 rw [hla]
 clear hla hok
 go_enter Tryz.func99,Tryz.ntmps99
 go_wp2
 go_loopw [3] (fun i wr=> ∃ k:Nat,k≤n.labels.L.length∧i= .int .i64 k∧wr=w.alloc (.cells #[.string n.name,.int .i64 n.r0,.int .i64 n.r1,.int .i64 n.r2,.slice la n.labels.L.length n.labels.cap,.slice n.taints.a n.taints.L.length n.taints.cap] 43)∧qbj (n.labels.L.drop k)=qbj n.labels.L) (fun i _=>n.labels.L.length - (intOf i).toNat)
 case atStart=>exact ⟨0,Nat.zero_le _,rfl,rfl,by simp⟩
 case round=>
  obtain ⟨k,hk,rfl,rfl,hz⟩:=hrel
  have Hz:Hid (qbj (n.labels.L.drop k)=qbj n.labels.L):=hz
  clear hz
  by_cases hlt:k < n.labels.L.length
  ·have hd:=zoneOf_drop n.labels.L k hlt
   obtain ⟨b,off,rfl,hc⟩:=o3.head (by omega)
   obtain ⟨hc1,hc2⟩:=hc k hlt
   have hb:=World.block_lt_of_cell? w _ hc1
   clear hc
   have Hd:Hid (qbj (n.labels.L.drop k)=if (qab n.labels.L k).1.toList==zoneB.toList then (qab n.labels.L k).2 else qbj (n.labels.L.drop (k+1))):=hd
   clear hd
   cases hE:((qab n.labels.L k).1.toList==zoneB.toList)
   ·have HS:Hid (qbj (n.labels.L.drop (k+1))=qbj n.labels.L):=by show qbj _=_;rw [← Hz.out,Hd.out,hE];rfl
    rw [zoneB_list] at hE
    go_wp2
    go_roundw
    case rel=>exact ⟨k+1,by omega,by go_num,trivial,HS.out⟩
    case measure=>simp [intOf];omega
   ·have HS:Hid (qbj n.labels.L=(qab n.labels.L k).2):=by show qbj _=_;rw [← Hz.out,Hd.out,hE];rfl
    rw [zoneB_list] at hE
    go_wp2
    go_ret
    exact ⟨by rw [HS.out];rfl,qi _ _⟩
  ·have h0:=Hz.out
   rw [List.drop_eq_nil_of_le (by omega)] at h0
   have H0:Hid (qbj n.labels.L=⟨#[]⟩):=h0.symm
   clear h0
   go_wp2
   go_ret
   exact ⟨by rw [H0.out];rfl,qi _ _⟩
def nearB (n m:qu):Bool:=(n.name.toList==m.name.toList) || (!(qbj n.labels.L).toList.isEmpty&&((qbj n.labels.L).toList==(qbj m.labels.L).toList))
theorem near_any (n m:qu) (w:World) (hn:n.ok w) (hm:m.ok w):Calls Tryz.prog 88 #[.agg n.cells,.agg m.cells] w fun e w'=>e= .returned (.bool (nearB n m))∧Below w.heap.size w w':=by
 have zn:=fun w1 hb=>zone_any n w1 (hn.below (w':=w1) hb)
 have zm:=fun w1 hb=>zone_any m w1 (hm.below (w':=w1) hb)
 have hW0:Below w.heap.size w ((w.alloc (.cells #[.string n.name,.int .i64 n.r0,.int .i64 n.r1,.int .i64 n.r2,.slice n.labels.a n.labels.L.length n.labels.cap,.slice n.taints.a n.taints.L.length n.taints.cap] 43)).alloc (.cells #[.string m.name,.int .i64 m.r0,.int .i64 m.r1,.int .i64 m.r2,.slice m.labels.a m.labels.L.length m.labels.cap,.slice m.taints.a m.taints.L.length m.taints.cap] 43)).drew:=(qj (qi _ _) (qi _ _)).drew
 have hl0:w.heap.size < ((w.alloc (.cells #[.string n.name,.int .i64 n.r0,.int .i64 n.r1,.int .i64 n.r2,.slice n.labels.a n.labels.L.length n.labels.cap,.slice n.taints.a n.taints.L.length n.taints.cap] 43)).alloc (.cells #[.string m.name,.int .i64 m.r0,.int .i64 m.r1,.int .i64 m.r2,.slice m.labels.a m.labels.L.length m.labels.cap,.slice m.taints.a m.taints.L.length m.taints.cap] 43)).drew.heap.size:=by simp;omega
 have hl0':w.heap.size+1 < ((w.alloc (.cells #[.string n.name,.int .i64 n.r0,.int .i64 n.r1,.int .i64 n.r2,.slice n.labels.a n.labels.L.length n.labels.cap,.slice n.taints.a n.taints.L.length n.taints.cap] 43)).alloc (.cells #[.string m.name,.int .i64 m.r0,.int .i64 m.r1,.int .i64 m.r2,.slice m.labels.a m.labels.L.length m.labels.cap,.slice m.taints.a m.taints.L.length m.taints.cap] 43)).drew.heap.size:=by simp
 unfold qu.cells Lst.val at zn zm
 unfold qu.cells Lst.val
 cases hE:(n.name.toList==m.name.toList)
 ·cases hZ:(qbj n.labels.L).toList.isEmpty
  ·have HE:Hid (nearB n m=((qbj n.labels.L).toList==(qbj m.labels.L).toList)):=by show nearB n m=_;simp [nearB,hE,hZ]
   go_enter Tryz.func88,Tryz.ntmps88
   go_wp2
   go_region_held3 (fun w'=>w'.cell? ⟨w.heap.size,0,none⟩=some (.string n.name)∧w'.cell? ⟨w.heap.size,1,none⟩=some (.int .i64 n.r0)∧w'.cell? ⟨w.heap.size,2,none⟩=some (.int .i64 n.r1)∧w'.cell? ⟨w.heap.size,3,none⟩=some (.int .i64 n.r2)∧w'.cell? ⟨w.heap.size,4,none⟩=some (.slice n.labels.a n.labels.L.length n.labels.cap)∧w'.cell? ⟨w.heap.size,5,none⟩=some (.slice n.taints.a n.taints.L.length n.taints.cap)∧w'.cell? ⟨w.heap.size+1,0,none⟩=some (.string m.name)∧w'.cell? ⟨w.heap.size+1,1,none⟩=some (.int .i64 m.r0)∧w'.cell? ⟨w.heap.size+1,2,none⟩=some (.int .i64 m.r1)∧w'.cell? ⟨w.heap.size+1,3,none⟩=some (.int .i64 m.r2)∧w'.cell? ⟨w.heap.size+1,4,none⟩=some (.slice m.labels.a m.labels.L.length m.labels.cap)∧w'.cell? ⟨w.heap.size+1,5,none⟩=some (.slice m.taints.a m.taints.L.length m.taints.cap)) (go_keep)
    (first
     | (go_at_call_of 99 (Value.string m.name);refine (zm w2 hW2).mono ?_;rintro e w3 ⟨rfl,hb3⟩;have s3:=fun o=>hb3.cell (p:=⟨w.heap.size,o,none⟩) z2;have s3':=fun o=>hb3.cell (p:=⟨w.heap.size+1,o,none⟩) z2';have z3:w.heap.size < w3.heap.size:=Nat.lt_of_lt_of_le z2 hb3.size;have z3':w.heap.size+1 < w3.heap.size:=Nat.lt_of_lt_of_le z2' hb3.size;have hW3:=qj hW2 hb3)
     | (go_at_call_of 99 (Value.string n.name);refine (zn w1 hW1).mono ?_;rintro e w2 ⟨rfl,hb2⟩;have s2:=fun o=>hb2.cell (p:=⟨w.heap.size,o,none⟩) z1;have s2':=fun o=>hb2.cell (p:=⟨w.heap.size+1,o,none⟩) z1';have z2:w.heap.size < w2.heap.size:=Nat.lt_of_lt_of_le z1 hb2.size;have z2':w.heap.size+1 < w2.heap.size:=Nat.lt_of_lt_of_le z1' hb2.size;have hW2:=qj hW1 hb2)
     | (go_at_call_of 99 (Value.string n.name);refine (zn _ hW0).mono ?_;rintro e w1 ⟨rfl,hb1⟩;have s1:=fun o=>hb1.cell (p:=⟨w.heap.size,o,none⟩) hl0;have s1':=fun o=>hb1.cell (p:=⟨w.heap.size+1,o,none⟩) hl0';have z1:w.heap.size < w1.heap.size:=Nat.lt_of_lt_of_le hl0 hb1.size;have z1':w.heap.size+1 < w1.heap.size:=Nat.lt_of_lt_of_le hl0' hb1.size;have hW1:=qj hW0 hb1))
   go_wp2
   go_ret
   exact ⟨by rw [HE.out];rfl,hW3⟩
  ·have HE:Hid (nearB n m=false):=by show nearB n m=_;simp [nearB,hE,hZ]
   go_enter Tryz.func88,Tryz.ntmps88
   go_wp2
   go_region_with (first| (go_at_call_of 99 (Value.string n.name);refine (zn _ hW0).mono ?_;rintro e w1 ⟨rfl,hb1⟩;have s1:=fun o=>hb1.cell (p:=⟨w.heap.size,o,none⟩) hl0;have s1':=fun o=>hb1.cell (p:=⟨w.heap.size+1,o,none⟩) hl0';have z1:w.heap.size < w1.heap.size:=Nat.lt_of_lt_of_le hl0 hb1.size;have z1':w.heap.size+1 < w1.heap.size:=Nat.lt_of_lt_of_le hl0' hb1.size;have hW1:=qj hW0 hb1))
   all_goals go_wp2
   all_goals go_ret
   all_goals exact ⟨by rw [HE.out];rfl,by assumption⟩
 ·have HE:Hid (nearB n m=true):=by show nearB n m=_;simp [nearB,hE]
  go_enter Tryz.func88,Tryz.ntmps88
  go_wp2
  go_quiet (fail)
  go_wp2
  go_ret
  exact ⟨by rw [HE.out];rfl,below_drewN (qj (qi _ _) (qi _ _)) _⟩
end
section
open Go.RowKit
attribute [local go_sem] Go.wp_at_zero Go.wp_at_succ
def qbn (l:List ByteArray) (s:ByteArray):Bool:=l.any fun t=>t.toList==s.toList
def qfk (st:RefD) (k:Nat):Nat:=((st.nodes.take k).filter fun n=>qbn st.touched n.name).length
def RefD.fresh (st:RefD):Int×RefD:=((st.nodes.filter fun n=>qbn st.touched n.name).length,{ st with touched:= [] })
theorem freshTo_succ (st:RefD) (k:Nat) (hk:k < st.nodes.length):qfk st (k+1)=qfk st k+(if qbn st.touched st.nodes[k].name then 1 else 0):=by
 unfold qfk
 rw [List.take_add_one,List.getElem?_eq_getElem hk,List.filter_append,List.length_append]
 congr 1
 simp only [Option.toList,List.filter_cons,List.filter_nil]
 split<;>rfl
theorem freshTo_le (st:RefD) (k:Nat):qfk st k≤k:=by
 unfold qfk
 have:=List.length_filter_le (fun n=>qbn st.touched n.name) (st.nodes.take k)
 rw [List.length_take] at this
 omega
theorem hasName_take (l:List ByteArray) (s:ByteArray) (q:Nat) (hq:q < l.length):qbn (l.take (q+1)) s=(qbn (l.take q) s || (l[q].toList==s.toList)):=by
 unfold qbn
 rw [List.take_add_one,List.getElem?_eq_getElem hq,List.any_append]
 simp
def bI (b:Bool):Int:=if b then 1 else 0
theorem fresh_any (Y:Nat) (st:RefD) (v4 v5 v6 v7:Value) (w:World) (H:qbc w Y st v4 v5 v6 v7) (hwf:st.nodes.length≤100) (ht:st.touched.length < 8796093022000):
  Calls Tryz.prog 74 #[.pointer (some ⟨Y,0,none⟩)] w fun e w'=>e= .returned (.int .i64 st.fresh.1)∧qaq w w' Y st.fresh.2 v4 v5 v6 v7:=by
 obtain ⟨a4,cp4,rfl⟩:=qv H.r4
 obtain ⟨a6,cp6,rfl⟩:=qv H.r6
 go_enter Tryz.func74,Tryz.ntmps74
 go_wp2
 go_loopw [3,4] (fun n i wr=> ∃ k:Nat,k≤st.nodes.length∧i= .int .i64 k∧n= .int .i64 (qfk st k:Nat)∧Below w.heap.size w wr) (fun _ i _=>st.nodes.length - (intOf i).toNat)
 case atStart=>exact ⟨0,Nat.zero_le _,rfl,rfl,Below.refl _ _⟩
 case round=>
  obtain ⟨k,hk,rfl,rfl,hbw⟩:=hrel
  have H4:=H.kept (Kept.of_below (F:=qq) hbw) (fun _ _=>id)
  have hx4:=ql (i:=4) H4.box
  have hfl:=freshTo_le st k
  by_cases hlt:k < st.nodes.length
  ·have hfs:=freshTo_succ st k hlt
   obtain ⟨nm,hnm⟩: ∃ nm,nm=st.nodes[k].name:=⟨_,rfl⟩
   rw [← hnm] at hfs
   have Hfs:Hid (qfk st (k+1)=qfk st k+(if qbn st.touched nm then 1 else 0)):=hfs
   have Hnm:Hid (nm=st.nodes[k].name):=hnm
   clear hfs hnm
   generalize qfk st k=fk at *
   go_wp2
   go_loopw [5,6] (fun f j ws=> ∃ q:Nat,q≤st.touched.length∧j= .int .i64 q∧f= .int .i64 (bI (qbn (st.touched.take q) nm))∧Below w.heap.size w ws) (fun _ j _=>st.touched.length - (intOf j).toNat)
   case atStart=>exact ⟨0,Nat.zero_le _,rfl,rfl,hbw⟩
   case round=>
    obtain ⟨q,hq,rfl,rfl,hbs⟩:=hrel
    have H5:=H.kept (Kept.of_below (F:=qq) hbs) (fun _ _=>id)
    have hx5:=ql (i:=6) H5.box
    have hx54:=ql (i:=4) H5.box
    by_cases hlq:q < st.touched.length
    ·obtain ⟨g,ho,hg,hcs,-⟩:=qbs H5.r6 (by omega)
     subst ho
     have k0:wr.cell? ⟨g,q,none⟩=some (.string st.touched[q]):=by rw [hcs q (by omega)];simp [hlq]
     obtain ⟨g2,ho2,hg2,-,-⟩:=qbs H5.r4 (by omega)
     subst ho2
     obtain ⟨m0,-,-,-,-,-,-,-⟩:=row6 H5.r4 k hlt
     rw [← Hnm.out] at m0
     have hht:=hasName_take st.touched nm q hlq
     obtain ⟨tn,htn⟩: ∃ tn,tn=st.touched[q]:=⟨_,rfl⟩
     rw [← htn] at k0 hht
     have Hht:Hid (qbn (st.touched.take (q+1)) nm=(qbn (st.touched.take q) nm || (tn.toList==nm.toList))):=hht
     clear hcs htn hht
     cases hE:(tn.toList==nm.toList)
     ·have HS:Hid (qbn (st.touched.take (q+1)) nm=qbn (st.touched.take q) nm):=by show qbn _ _=_;rw [Hht.out,hE,Bool.or_false]
      go_wp2
      go_quiet (fail)
      go_wp2
      go_roundw
      case rel=>exact ⟨q+1,by omega,by go_num,by rw [HS.out],below_drewN hbs _⟩
      case measure=>simp [intOf];omega
     ·have HS:Hid (qbn (st.touched.take (q+1)) nm=true):=by show qbn _ _=_;rw [Hht.out,hE,Bool.or_true]
      go_wp2
      go_quiet (fail)
      go_wp2
      go_roundw
      case rel=>exact ⟨q+1,by omega,by go_num,by rw [HS.out];rfl,below_drewN hbs _⟩
      case measure=>simp [intOf];omega
    ·have hql:q=st.touched.length:=by omega
     rw [hql,List.take_length]
     clear hql
     have HF:Hid (((fk:Int)+bI (qbn st.touched nm))=(qfk st (k+1):Nat)):=by show _=_;rw [Hfs.out];unfold bI;split<;>simp
     have hb1:0≤bI (qbn st.touched nm)∧bI (qbn st.touched nm)≤1:=by unfold bI;split<;>simp
     generalize bI (qbn st.touched nm)=bb at *
     go_wp2
     go_roundw
     case rel=>exact ⟨k+1,by omega,by go_num,by rw [HF.out],hbs⟩
     case measure=>simp [intOf];omega
  ·have hkl:k=st.nodes.length:=by omega
   have ad:qfk st st.nodes.length=(st.nodes.filter fun n=>qbn st.touched n.name).length:=by simp [qfk]
   rw [hkl]
   clear hkl
   rw [ad]
   have hfr:=qp (i:=6) H4.box
   have hx6:=ql (i:=6) H4.box
   obtain ⟨g5,g6⟩:=H4.put6 (Kept.refl _ wr) (v6':= .slice none 0 0) (tl:= []) (World.ownsRow_nil _ _ _ _) (fun k hk=>by simp [Value.ownBlock] at hk)
   have K0:=Kept.of_below (F:=qau Y (.slice a4 st.nodes.length cp4) v5 (.slice a6 st.touched.length cp6) v7) hbw
   have HFF:Hid (st.fresh.1=((st.nodes.filter fun n=>qbn st.touched n.name).length:Nat)):=rfl
   generalize (st.nodes.filter fun n=>qbn st.touched n.name).length=ff at *
   go_wp2
   go_ret
   refine ⟨by rw [HFF.out];rfl,_,_,_,_,g5,?_,?_⟩
   ·exact K0.trans g6 fun b _ h=>h.elim .inl (fun h=> .inr (.inr (.inr (.inl h))))
   ·rintro b (hb'| hb'| hb'| hb'| hb')
    ·exact .inl (.inl hb')
    ·exact .inl (.inr (.inl hb'))
    ·exact .inl (.inr (.inr (.inl hb')))
    ·simp [Value.ownBlock] at hb'
    ·exact .inl (.inr (.inr (.inr (.inr hb'))))
end
section
open Go.RowKit
attribute [local go_sem] Go.wp_at_zero Go.wp_at_succ
def qfc (room used need:Int):Int:=if 0 < room - used - need then ((room - used - need) * 100).tdiv room else 0
theorem qek (room used need:Int) (h1:0≤used) (h2:0≤need):0≤qfc room used need∧qfc room used need≤100:=by
 unfold qfc
 split
 ·rename_i h
  have hr:0 < room:=by omega
  rw [Int.tdiv_eq_ediv_of_nonneg (by omega)]
  exact ⟨Int.ediv_nonneg (by omega) (by omega),Int.ediv_le_of_le_mul hr (by omega)⟩
 ·exact ⟨Int.le_refl _,by decide⟩
def qb7 (x:Int):Prop:=0≤x∧x≤1099511627776
def scoreOf (n:qu) (p:PodD) (u:Int×Int×Int×Int):Int:=qfc n.r0 u.1 p.n0+qfc n.r1 u.2.1 p.n1+qfc n.r2 u.2.2.1 p.n2
def RefD.score (st:RefD) (n:qu) (p:PodD):Int:=scoreOf n p (qa8 st.pods n.name st.pods.length)
theorem score_any (Y:Nat) (st:RefD) (v4 v5 v6 v7:Value) (n:qu) (p:PodD) (w:World) (H:qbc w Y st v4 v5 v6 v7) (hp:st.pods.length≤1000) (hnd:qfi st.pods)
  (hn0:qb7 n.r0) (hn1:qb7 n.r1) (hn2:qb7 n.r2) (hp0:qb7 p.n0) (hp1:qb7 p.n1) (hp2:qb7 p.n2):
  Calls Tryz.prog 76 #[.pointer (some ⟨Y,0,none⟩),.agg n.cells,.agg p.cells] w fun e w'=>e= .returned (.int .i64 (st.score n p))∧Below w.heap.size w w':=by
 unfold qb7 at *
 have hW:=qj (qi w (.cells n.cells 43)) (qi _ (.cells p.cells 45))
 have cU:=used_any Y st v4 v5 v6 v7 n.name _ (H.kept (Kept.of_below (F:=qq) hW) (fun _ _=>id)) hp hnd
 have HSc:Hid (st.score n p=scoreOf n p (qa8 st.pods n.name st.pods.length)):=rfl
 obtain ⟨b1,b2,b3,b4,b5,b6,b7,b8⟩:=qfa st.pods n.name hnd st.pods.length
 generalize qa8 st.pods n.name st.pods.length=U at *
 obtain ⟨u0,u1,u2,u3⟩:=U
 dsimp only at b1 b2 b3 b4 b5 b6 b7 b8 cU
 unfold qu.cells PodD.cells Lst.val at *
 go_enter Tryz.func76,Tryz.ntmps76
 go_wp2_with (go_at_call 35;refine cU.mono ?_;rintro e w2 ⟨rfl,hb2⟩)
 have hsz:w.heap.size+1 < w2.heap.size:=Nat.lt_of_lt_of_le (by simp) hb2.size
 have A1: ∀ o,w2.cell? ⟨w.heap.size,o,none⟩=(#[.string n.name,.int .i64 n.r0,.int .i64 n.r1,.int .i64 n.r2,.slice n.labels.a n.labels.L.length n.labels.cap,.slice n.taints.a n.taints.L.length n.taints.cap]:Array Value)[o]? :=fun o=>by
  rw [hb2.cell (p:=⟨w.heap.size,o,none⟩) (by simp;omega)]
  refine ql ?_ (e:=43) (fr:=(0,0))
  rw [Below.heap_alloc _ _ _ (by simp)];exact qm _ _
 have A2: ∀ o,w2.cell? ⟨w.heap.size+1,o,none⟩=(#[.string p.name,.int .i64 p.n0,.int .i64 p.n1,.int .i64 p.n2,.int .i64 p.port,.slice p.labels.a p.labels.L.length p.labels.cap,.slice p.select.a p.select.L.length p.select.cap,.slice p.bears.a p.bears.L.length p.bears.cap,.slice p.near.a p.near.L.length p.near.cap,.slice p.apart.a p.apart.L.length p.apart.cap]:Array Value)[o]? :=fun o=>by
  rw [hb2.cell (p:=⟨w.heap.size+1,o,none⟩) (by simp)]
  refine ql ?_ (e:=45) (fr:=(0,0))
  have:=qm (w.alloc (.cells #[.string n.name,.int .i64 n.r0,.int .i64 n.r1,.int .i64 n.r2,.slice n.labels.a n.labels.L.length n.labels.cap,.slice n.taints.a n.taints.L.length n.taints.cap] 43)) (.cells #[.string p.name,.int .i64 p.n0,.int .i64 p.n1,.int .i64 p.n2,.int .i64 p.port,.slice p.labels.a p.labels.L.length p.labels.cap,.slice p.select.a p.select.L.length p.select.cap,.slice p.bears.a p.bears.L.length p.bears.cap,.slice p.near.a p.near.L.length p.near.cap,.slice p.apart.a p.apart.L.length p.apart.cap] 45)
  simpa using this
 have hb3:Below w.heap.size w (w2.alloc (.cells #[.int .i64 u0,.int .i64 u1,.int .i64 u2] 41)):=qj (qj hW hb2) (qi _ _)
 obtain ⟨P0,HP0⟩: ∃ P0,Hid (qfc n.r0 u0 p.n0=P0):=⟨_,rfl⟩
 obtain ⟨P1,HP1⟩: ∃ P1,Hid (qfc n.r1 u1 p.n1=P1):=⟨_,rfl⟩
 obtain ⟨P2,HP2⟩: ∃ P2,Hid (qfc n.r2 u2 p.n2=P2):=⟨_,rfl⟩
 have bP0:0≤P0∧P0≤100:=by rw [← HP0.out];exact qek _ _ _ b1 hp0.1
 have bP1:0≤P1∧P1≤100:=by rw [← HP1.out];exact qek _ _ _ b3 hp1.1
 have bP2:0≤P2∧P2≤100:=by rw [← HP2.out];exact qek _ _ _ b5 hp2.1
 go_loopw [9,10,11] (fun s i _ wr=> ∃ (m:Nat) (s':Int),m≤3∧i= .int .i64 m∧s= .int .i64 s'∧s'=(if 0 < m then P0 else 0)+(if 1 < m then P1 else 0)+(if 2 < m then P2 else 0)∧Below (w2.heap.size+1) (w2.alloc (.cells #[.int .i64 u0,.int .i64 u1,.int .i64 u2] 41)) wr) (fun _ i _ _=>3 - (intOf i).toNat)
 case atStart=>exact ⟨0,0,by omega,rfl,rfl,by simp,Below.refl _ _⟩
 case round=>
  obtain ⟨m,s',hm,rfl,rfl,hs,hbs⟩:=hrel
  have a1:wr.cell? ⟨w.heap.size,1,none⟩=some (.int .i64 n.r0):=(hbs.cell (p:=⟨w.heap.size,1,none⟩) (by simp;omega)).trans (((qi w2 _).cell (p:=⟨w.heap.size,_,none⟩) (by simp;omega)).trans (A1 1))
  have a2:wr.cell? ⟨w.heap.size,2,none⟩=some (.int .i64 n.r1):=(hbs.cell (p:=⟨w.heap.size,2,none⟩) (by simp;omega)).trans (((qi w2 _).cell (p:=⟨w.heap.size,_,none⟩) (by simp;omega)).trans (A1 2))
  have a3:wr.cell? ⟨w.heap.size,3,none⟩=some (.int .i64 n.r2):=(hbs.cell (p:=⟨w.heap.size,3,none⟩) (by simp;omega)).trans (((qi w2 _).cell (p:=⟨w.heap.size,_,none⟩) (by simp;omega)).trans (A1 3))
  have a4:wr.cell? ⟨w.heap.size+1,1,none⟩=some (.int .i64 p.n0):=(hbs.cell (p:=⟨w.heap.size+1,1,none⟩) (by simp;omega)).trans (((qi w2 _).cell (p:=⟨w.heap.size+1,_,none⟩) (by simp;omega)).trans (A2 1))
  have a5:wr.cell? ⟨w.heap.size+1,2,none⟩=some (.int .i64 p.n1):=(hbs.cell (p:=⟨w.heap.size+1,2,none⟩) (by simp;omega)).trans (((qi w2 _).cell (p:=⟨w.heap.size+1,_,none⟩) (by simp;omega)).trans (A2 2))
  have a6:wr.cell? ⟨w.heap.size+1,3,none⟩=some (.int .i64 p.n2):=(hbs.cell (p:=⟨w.heap.size+1,3,none⟩) (by simp;omega)).trans (((qi w2 _).cell (p:=⟨w.heap.size+1,_,none⟩) (by simp;omega)).trans (A2 3))
  have hU:=(hbs.block w2.heap.size (by omega)).trans (qm w2 (.cells #[.int .i64 u0,.int .i64 u1,.int .i64 u2] 41))
  have a7:wr.cell? ⟨w2.heap.size,0,none⟩=some (.int .i64 u0):=by rw [ql hU];rfl
  have a8:wr.cell? ⟨w2.heap.size,1,none⟩=some (.int .i64 u1):=by rw [ql hU];rfl
  have a9:wr.cell? ⟨w2.heap.size,2,none⟩=some (.int .i64 u2):=by rw [ql hU];rfl
  clear hU
  have hm':m=0∨m=1∨m=2∨m=3:=by omega
  clear hm
  rcases hm' with rfl| rfl| rfl| rfl
  ·have hs':s'=0:=by simpa using hs
   have Hs:Hid (s'=0):=hs'
   clear hs hs'
   by_cases hl:0 < n.r0 - u0 - p.n0
   ·have HP:Hid (P0=((n.r0 - u0 - p.n0) * 100).tdiv n.r0):=by show P0=_;rw [← HP0.out];unfold qfc;rw [if_pos hl]
    have hP:=HP.out
    rw [hP] at bP0
    have hr0:0 < n.r0:=by omega
    clear hP
    have Hs'':Hid (s'+((n.r0 - u0 - p.n0) * 100).tdiv n.r0=P0):=by show _=_;rw [← HP.out,Hs.out];omega
    have bS:0≤s'∧s'≤300:=by rw [Hs.out];omega
    go_wp2
    go_quiet (fail)
    go_wp2
    go_roundw
    case rel=>exact ⟨1,_,by omega,rfl,rfl,by simpa using Hs''.out,below_drewN hbs _⟩
    case measure=>simp [intOf]
   ·have HP:Hid (P0=0):=by show P0=_;rw [← HP0.out];unfold qfc;rw [if_neg hl]
    have Hs'':Hid (s'=P0):=by show _=_;have h1:=HP.out;have h2:=Hs.out;omega
    go_wp2
    go_quiet (fail)
    go_wp2
    go_roundw
    case rel=>exact ⟨1,_,by omega,rfl,rfl,by simpa using Hs''.out,below_drewN hbs _⟩
    case measure=>simp [intOf]
  ·have hs':s'=P0:=by simpa using hs
   have Hs:Hid (s'=P0):=hs'
   clear hs hs'
   by_cases hl:0 < n.r1 - u1 - p.n1
   ·have HP:Hid (P1=((n.r1 - u1 - p.n1) * 100).tdiv n.r1):=by show P1=_;rw [← HP1.out];unfold qfc;rw [if_pos hl]
    have hP:=HP.out
    rw [hP] at bP1
    have hr0:0 < n.r1:=by omega
    clear hP
    have Hs'':Hid (s'+((n.r1 - u1 - p.n1) * 100).tdiv n.r1=P0+P1):=by show _=_;rw [← HP.out,Hs.out]
    have bS:0≤s'∧s'≤300:=by rw [Hs.out];omega
    go_wp2
    go_quiet (fail)
    go_wp2
    go_roundw
    case rel=>exact ⟨2,_,by omega,rfl,rfl,by simpa using Hs''.out,below_drewN hbs _⟩
    case measure=>simp [intOf]
   ·have HP:Hid (P1=0):=by show P1=_;rw [← HP1.out];unfold qfc;rw [if_neg hl]
    have Hs'':Hid (s'=P0+P1):=by show _=_;have h1:=HP.out;have h2:=Hs.out;omega
    go_wp2
    go_quiet (fail)
    go_wp2
    go_roundw
    case rel=>exact ⟨2,_,by omega,rfl,rfl,by simpa using Hs''.out,below_drewN hbs _⟩
    case measure=>simp [intOf]
  ·have hs':s'=P0+P1:=by simpa using hs
   have Hs:Hid (s'=P0+P1):=hs'
   clear hs hs'
   by_cases hl:0 < n.r2 - u2 - p.n2
   ·have HP:Hid (P2=((n.r2 - u2 - p.n2) * 100).tdiv n.r2):=by show P2=_;rw [← HP2.out];unfold qfc;rw [if_pos hl]
    have hP:=HP.out
    rw [hP] at bP2
    have hr0:0 < n.r2:=by omega
    clear hP
    have Hs'':Hid (s'+((n.r2 - u2 - p.n2) * 100).tdiv n.r2=P0+P1+P2):=by show _=_;rw [← HP.out,Hs.out]
    have bS:0≤s'∧s'≤300:=by rw [Hs.out];omega
    go_wp2
    go_quiet (fail)
    go_wp2
    go_roundw
    case rel=>exact ⟨3,_,by omega,rfl,rfl,by simpa using Hs''.out,below_drewN hbs _⟩
    case measure=>simp [intOf]
   ·have HP:Hid (P2=0):=by show P2=_;rw [← HP2.out];unfold qfc;rw [if_neg hl]
    have Hs'':Hid (s'=P0+P1+P2):=by show _=_;have h1:=HP.out;have h2:=Hs.out;omega
    go_wp2
    go_quiet (fail)
    go_wp2
    go_roundw
    case rel=>exact ⟨3,_,by omega,rfl,rfl,by simpa using Hs''.out,below_drewN hbs _⟩
    case measure=>simp [intOf]
  ·have Hs:Hid (s'=P0+P1+P2):=by show _=_;simpa using hs
   clear hs
   go_wp2
   go_ret
   exact ⟨by rw [HSc.out,Hs.out,← HP0.out,← HP1.out,← HP2.out];rfl,hb3.trans (hbs.mono (by omega))⟩
end
end Go.Proofs.YtchddaafibjmgaaGreat
