import Derived.Test.YtchddaafibjmgaaGreatME5
import Derived.Test.YtchddaafibjmgaaGreatMF7
import Derived.Deep.MidRow
set_option maxRecDepth 100000
set_option maxHeartbeats 20000000
namespace Go.Proofs.YtchddaafibjmgaaGreat
section
open Go.RowKit Go.Maps
theorem sizeST:(Tryz.prog.info? 47).map (·.size)=some 20:=by kernel_rfl
theorem qcb {w0 w w':World} (h:Below w0.heap.size w0 w) (hk:Kept (fun b=>w0.heap.size≤b) w w'):Below w0.heap.size w0 w':=h.trans (hk.below h.size fun i hi h=>by omega)
theorem plays_11 (h1 h2:Int) (r1 r2 t1 t2:Bool) (a:Option Addr) (L:List qbr) (cap:Nat) (w:World) (hL:qbl (fun b=>b < w.heap.size) w a L) (hn:L.length≤480000000000):
  Calls Tryz.prog 7 #[.agg #[.int .i64 h1,.bool r1,.bool t1],.agg #[.int .i64 h2,.bool r2,.bool t2],.slice a L.length cap,.int .i64 11] w fun e w'=>e= .returned (.bool true)∧Below w.heap.size w w':=by
 obtain ⟨wc,hwc⟩: ∃ W,W=(w.alloc (.cells #[.int .i64 h1,.bool r1,.bool t1] 23)).alloc (.cells #[.int .i64 h2,.bool r2,.bool t2] 23):=⟨_,rfl⟩
 have hbc:Below w.heap.size w wc:=by rw [hwc];exact qj (qi _ _) (qi _ _)
 have sc:wc.heap.size=w.heap.size+1+1:=by rw [hwc];simp
 obtain ⟨wb,hwb⟩: ∃ W,W=wc.alloc (.cells #[.slice none 0 0,.slice none 0 0,.slice none 0 0,.slice none 0 0] 37):=⟨_,rfl⟩
 have B0:Book (fun b=>b=wc.heap.size) wb wc.heap.size 0 0 0 0:=by rw [hwb];exact Book.init wc
 have hbb:Below wc.heap.size wc wb:=by rw [hwb];exact qi _ _
 have hb0:Below w.heap.size w wb:=qj hbc hbb
 have sb:wb.heap.size=wc.heap.size+1:=by rw [hwb];simp
 have HcO:Hid _:=fun hold rem whole X W (hW:Below w.heap.size w W)=>opened_slot (fun b=>b < w.heap.size) hold rem whole X W fun b hb=>Nat.lt_of_lt_of_le hb hW.size
 have bc0:wb.heap[w.heap.size]? =some (.cells #[.int .i64 h1,.bool r1,.bool t1] 23 (0,0)):=by
  rw [hbb.block _ (by omega),hwc,(qi _ _).block _ (by simp)]
  exact qm _ _
 have bc1:wb.heap[w.heap.size+1]? =some (.cells #[.int .i64 h2,.bool r2,.bool t2] 23 (0,0)):=by
  rw [hbb.block _ (by omega),hwc]
  simpa using qm (w.alloc (.cells #[.int .i64 h1,.bool r1,.bool t1] 23)) (.cells #[.int .i64 h2,.bool r2,.bool t2] 23)
 have d0:wb.cell? ⟨w.heap.size,0,none⟩=some (.int .i64 h1):=by rw [ql bc0];rfl
 have d1:wb.cell? ⟨w.heap.size,1,none⟩=some (.bool r1):=by rw [ql bc0];rfl
 have d2:wb.cell? ⟨w.heap.size,2,none⟩=some (.bool t1):=by rw [ql bc0];rfl
 have e0:wb.cell? ⟨w.heap.size+1,0,none⟩=some (.int .i64 h2):=by rw [ql bc1];rfl
 have e1:wb.cell? ⟨w.heap.size+1,1,none⟩=some (.bool r2):=by rw [ql bc1];rfl
 have e2:wb.cell? ⟨w.heap.size+1,2,none⟩=some (.bool t2):=by rw [ql bc1];rfl
 have ls:w.heap.size+1 < wb.heap.size:=by omega
 rw [sc] at B0
 have HB0:Hid (Book (fun b=>b=w.heap.size+1+1) wb (w.heap.size+1+1) 0 0 0 0):=B0
 have HL:Hid (qbl (fun b=>b < w.heap.size) w a L):=hL
 have Hb0:Hid _:=hb0
 clear bc0 bc1 B0 hL
 go_enter Tryz.func7,Tryz.ntmps7
 go_upto_region 2 with fail
 rw [← hwc,← hwb]
 clear hwc hwb
 go_upto_region 3 with ((go_at_call 8;refine (HcO.out h1 r1 t1 _ _ Hb0.out).mono ?_;rintro e w1 ⟨z1,rfl,hb1,D1,s1,S1,ta1,wa1,hD1⟩;have e0':=(hb1.cell (p:=⟨w.heap.size+1,0,none⟩) ls).trans e0;have e1':=(hb1.cell (p:=⟨w.heap.size+1,1,none⟩) ls).trans e1;have e2':=(hb1.cell (p:=⟨w.heap.size+1,2,none⟩) ls).trans e2;have HS1:Hid _:=And.intro S1 (And.intro ta1 (And.intro wa1 hD1));have Hb1:Hid _:=hb1;clear S1 ta1 wa1 hD1 hb1))
 have Hbw1:Hid (Below w.heap.size w w1):=qj Hb0.out Hb1.out
 go_upto_region 4 with ((go_at_call 8;refine (HcO.out h2 r2 t2 _ _ Hbw1.out).mono ?_;rintro e w2 ⟨z2,rfl,hb2,D2,s2,S2,ta2,wa2,hD2⟩;have HS2:Hid _:=And.intro S2 (And.intro ta2 (And.intro wa2 hD2));have Hb2:Hid _:=hb2;clear S2 ta2 wa2 hD2 hb2))
 have Hbw2:Hid (Below w.heap.size w w2):=qj Hbw1.out Hb2.out
 have HD0:Hid (qfl (fun b=>b < w.heap.size) w.heap.size w2 z1 z2 (w.heap.size+1+1) 0):=by
  have K2:=Kept.of_below (F:=qq) Hb2.out
  have K1:=Kept.of_below (F:=qq) Hb1.out
  have g1:=Hb1.out.size
  have g2:=Hb2.out.size
  obtain ⟨S1,ta1,wa1,hD1⟩:=HS1.out
  obtain ⟨S2,ta2,wa2,hD2⟩:=HS2.out
  refine ⟨D1,D2,_,s1,s2,0,0,0,0,⟨S1.kept K2 (fun _ _=>id) fun _ _=>id,S2,(HB0.out.kept K1 fun _ _=>id).kept K2 fun _ _=>id,fun b h1 h2=> ?_,fun b h1 h2=> ?_,fun b h1 h2=> ?_,fun b h1 h2=>by omega,fun b hb=>by omega,by omega,by omega,by omega,by omega,by omega,by omega⟩,fun b hb=> ?_⟩
  ·have:=S1.lt b h1
   have:=hD2 b h2
   omega
  ·have:=hD1 b h1
   omega
  ·have:=hD2 b h1
   omega
  ·rcases hb with h| h| h
   ·have:=hD1 b h;omega
   ·have:=hD2 b h;omega
   ·omega
 clear HB0 Hb0 Hb1 Hbw1 Hb2 HS1 HS2 HcO d0 d1 d2 e0 e1 e2 e0' e1' e2' hbc hbb hb0 sc sb ls
 go_wp2
 go_loopw [14] (fun i wr=> ∃ k:Nat,k≤L.length∧i= .int .i64 k∧qfl (fun b=>b < w.heap.size) w.heap.size wr z1 z2 (w.heap.size+1+1) k∧Below w.heap.size w wr) (fun i _=>L.length - (intOf i).toNat)
 case atStart=>exact ⟨0,Nat.zero_le _,rfl,HD0.out,Hbw2.out⟩
 case round=>
  clear HD0 Hbw2
  obtain ⟨k,hk,rfl,hd0,hbr⟩:=hrel
  have HD:Hid (qfl (fun b=>b < w.heap.size) w.heap.size wr z1 z2 (w.heap.size+1+1) k):=hd0
  have HBr:Hid (Below w.heap.size w wr):=hbr
  have slot1:z1=none∨ ∃ Z,z1=some ⟨Z,0,none⟩:=by
   obtain ⟨_,_,_,_,_,_,_,_,_,h,_⟩:=hd0
   exact h.o1.imp (fun h=>h.1) fun ⟨Z,h,_⟩=>⟨Z,h⟩
  have slot2:z2=none∨ ∃ Z,z2=some ⟨Z,0,none⟩:=by
   obtain ⟨_,_,_,_,_,_,_,_,_,h,_⟩:=hd0
   exact h.o2.imp (fun h=>h.1) fun ⟨Z,h,_⟩=>⟨Z,h⟩
  clear hd0
  by_cases hlt:k < L.length
  ·obtain ⟨b,off,rfl,hCb,hlb,hc,hok⟩:=(qbl.kept HL.out (Kept.of_below (F:=qq) hbr) fun _ _=>id) k hlt
   clear hbr
   generalize L[k]=o at *
   have c0:wr.cell? ⟨b,off+k * 20,none⟩=some (.int .i64 o.which):=hc 0 _ rfl
   have c1:wr.cell? ⟨b,off+k * 20+1,none⟩=some (.int .i64 o.kind):=hc 1 _ rfl
   have HRg:Hid (wr.rangeAt b (off+k * 20) o.cells.toList):=fun j v hv=>hc j v (by simpa using hv)
   clear hc
   by_cases hw:o.which.tmod 2=0
   ·rcases slot1 with rfl| ⟨Z,rfl⟩
    ·go_wp2
     go_roundw
     case rel=>exact ⟨k+1,by omega,by go_num,HD.out.more,HBr.out⟩
     case measure=>simp [intOf];omega
    ·have hls:Hid (True):=trivial
     have cT:=duo_step rule_all (HD.out) HBr.out.size o hok hls.out (by omega)
     have HO:Hid _:=hok
     clear hok hls
     go_wp2_with (first
      | (go_at_call 9;refine cT.mono ?_;rintro e w2 ⟨rfl,Lp,hc2,cS⟩)
      | (refine wpList_load_mid rfl 47 (.tmp 97) rfl b (off+k * 20) rfl o.cells.toList _ HRg.out Tryz.underlying47 rfl (by rw [sizeST];rfl) ?_;rw [Array.toArray_toList])
      | (go_at_call 10;refine cS.mono ?_;rintro e w3 ⟨rfl,cW⟩)
      | (go_at_call 11;refine cW.mono ?_;rintro e w4 ⟨rfl,hd,hk4⟩))
     go_roundw
     case rel=>exact ⟨k+1,by omega,by go_num,hd,(qcb HBr.out hk4)⟩
     case measure=>simp [intOf];omega
   ·rcases slot2 with rfl| ⟨Z,rfl⟩
    ·go_wp2
     go_roundw
     case rel=>exact ⟨k+1,by omega,by go_num,HD.out.more,HBr.out⟩
     case measure=>simp [intOf];omega
    ·have hls:Hid (True):=trivial
     have cT:=duo_step rule_all (HD.out.swap) HBr.out.size o hok hls.out (by omega)
     have HO:Hid _:=hok
     clear hok hls
     go_wp2_with (first
      | (go_at_call 9;refine cT.mono ?_;rintro e w2 ⟨rfl,Lp,hc2,cS⟩)
      | (refine wpList_load_mid rfl 47 (.tmp 97) rfl b (off+k * 20) rfl o.cells.toList _ HRg.out Tryz.underlying47 rfl (by rw [sizeST];rfl) ?_;rw [Array.toArray_toList])
      | (go_at_call 10;refine cS.mono ?_;rintro e w3 ⟨rfl,cW⟩)
      | (go_at_call 11;refine cW.mono ?_;rintro e w4 ⟨rfl,hd,hk4⟩))
     go_roundw
     case rel=>exact ⟨k+1,by omega,by go_num,hd.swap,(qcb HBr.out hk4)⟩
     case measure=>simp [intOf];omega
  ·clear hbr
   go_wp2
   go_loopw [20] (fun i wr=> ∃ j:Nat,j≤2∧i= .int .i64 j∧qfl (fun b=>b < w.heap.size) w.heap.size wr z1 z2 (w.heap.size+1+1) (L.length+j)∧Below w.heap.size w wr) (fun i _=>2 - (intOf i).toNat)
   case atStart=>exact ⟨0,by omega,rfl,by rw [show L.length+0=k from by omega];exact HD.out,HBr.out⟩
   case round=>
    clear HD HBr
    obtain ⟨j,hj,rfl,hd0,hbr⟩:=hrel
    have HD:Hid (qfl (fun b=>b < w.heap.size) w.heap.size wr z1 z2 (w.heap.size+1+1) (L.length+j)):=hd0
    have HBr:Hid (Below w.heap.size w wr):=hbr
    clear hd0 hbr
    rcases (show j=0∨j=1∨j=2 from by omega) with rfl| rfl| rfl
    ·rcases slot1 with rfl| ⟨Z,rfl⟩
     ·go_wp2
      go_roundw
      case rel=>exact ⟨1,by omega,by go_num,HD.out.more,HBr.out⟩
      case measure=>simp [intOf]
     ·have cT:=duo_state (HD.out) HBr.out.size (by omega)
      go_wp2_with (first
       | (go_at_call 12;refine cT.mono ?_;rintro e w2 ⟨rfl,cW⟩)
       | (go_at_call 11;refine cW.mono ?_;rintro e w4 ⟨rfl,hd,hk4⟩))
      go_roundw
      case rel=>exact ⟨1,by omega,by go_num,hd,(qcb HBr.out hk4)⟩
      case measure=>simp [intOf]
    ·rcases slot2 with rfl| ⟨Z,rfl⟩
     ·go_wp2
      go_roundw
      case rel=>exact ⟨2,by omega,by go_num,HD.out.more,HBr.out⟩
      case measure=>simp [intOf]
     ·have cT:=duo_state (HD.out.swap) HBr.out.size (by omega)
      go_wp2_with (first
       | (go_at_call 12;refine cT.mono ?_;rintro e w2 ⟨rfl,cW⟩)
       | (go_at_call 11;refine cW.mono ?_;rintro e w4 ⟨rfl,hd,hk4⟩))
      go_roundw
      case rel=>exact ⟨2,by omega,by go_num,hd.swap,(qcb HBr.out hk4)⟩
      case measure=>simp [intOf]
    ·go_wp2
     go_ret
     exact ⟨rfl,HBr.out⟩
end
end Go.Proofs.YtchddaafibjmgaaGreat
