import Derived.Test.YtchddaafibjmgaaGreatMPSorted
import Derived.Test.YtchddaafibjmgaaGreatMA1
set_option maxRecDepth 100000
set_option maxHeartbeats 20000000
namespace Go.Proofs.YtchddaafibjmgaaGreat
section
open Go.RowKit Go.Maps
def qbv (a l:List Lab):Bool:=decide (0 < a.length)&&qae a l
theorem shuns_any (x y:Lst) (w:World) (hx:x.ok w) (hy:y.ok w):Calls Tryz.prog 126 #[x.val,y.val] w fun e w'=>e= .returned (.bool (qbv x.L y.L))∧Below w.heap.size w w':=by
  have c1:=fits_any x.L y.L x.a y.a x.cap y.cap w hx.1 hy.1 hx.2.2.1 hy.2.2.1
  have hl:=hx.1
  unfold Lst.val
  by_cases h0:0 < x.L.length
  · have HE:Hid (qbv x.L y.L=qae x.L y.L):=by show qbv _ _=_;simp [qbv,h0]
    have h0':(0:Int) < (x.L.length:Int):=by omega
    go_enter Tryz.func126,Tryz.ntmps126
    go_wp2_with (go_at_call 105;refine c1.mono ?_;rintro e w1 ⟨rfl,hb1⟩)
    go_ret
    exact ⟨by rw [HE.out];rfl,hb1⟩
  · have HE:Hid (qbv x.L y.L=false):=by show qbv _ _=_;simp [qbv,h0]
    have h0': ¬ (0:Int) < (x.L.length:Int):=by omega
    clear h0
    go_enter Tryz.func126,Tryz.ntmps126
    go_wp2
    go_ret
    exact ⟨by rw [HE.out];rfl,Below.refl _ _⟩
def qew (w:World) (cb:Nat) (p:PodD):Prop:=w.heap[cb]? =some (.cells p.cells 77 (0,0))
theorem qew.below {w w':World} {cb:Nat} {p:PodD} (h:qew w cb p) (hb:Below w.heap.size w w'):qew w' cb p:=by
  unfold qew at *
  rw [hb.block cb (qo h)]
  exact h
theorem qew.cells {w:World} {cb:Nat} {p:PodD} (h:qew w cb p):w.cell? ⟨cb,5,none⟩=some (.slice p.labels.a p.labels.L.length p.labels.cap)∧w.cell? ⟨cb,8,none⟩=some (.slice p.near.a p.near.L.length p.near.cap)∧w.cell? ⟨cb,9,none⟩=some (.slice p.apart.a p.apart.L.length p.apart.cap):=by
  refine ⟨?_,?_,?_⟩<;>(rw [ql h];rfl)
section
variable {F:Nat→Prop} {w:World}
theorem qgx.below {q:Nat} {x:qag} {w':World} (h:qgx F w q x) (hb:Below w.heap.size w w'):qgx F w' q x:=h.kept (Kept.of_below (F:=qq) hb) (fun _ _ h=>h.elim) id (fun _ h=>h)
theorem qgx.lists {q:Nat} {x:qag} (h:qgx F w q x): ∃ l a:Lst,l.L=x.labels∧a.L=x.apart∧l.ok w∧a.ok w∧w.cell? ⟨q,4,none⟩=some (.slice l.a l.L.length l.cap)∧w.cell? ⟨q,5,none⟩=some (.slice a.a a.L.length a.cap)∧q < w.heap.size:=by
  obtain ⟨lv,av,h1,h2,⟨b1,c1,u1,rfl,_,_,o1⟩,⟨b2,c2,u2,rfl,_,_,o2⟩⟩:=h
  exact ⟨⟨some ⟨b1,0,none⟩,x.labels,c1⟩,⟨some ⟨b2,0,none⟩,x.apart,c2⟩,rfl,rfl,o1,o2,by rw [ql h1];rfl,by rw [ql h1];rfl,qo h1⟩
theorem cPort_any {q:Nat} {x:qag} (h:qgx F w q x) (cb:Nat) (port:Int) (hc:w.cell? ⟨cb,0,none⟩=some (.int .i64 port)):
    Calls Tryz.prog 121 #[.pointer (some ⟨q,0,none⟩),.pointer (some ⟨cb,0,none⟩)] w fun e w'=>e= .returned (.bool (x.port==port))∧Below w.heap.size w w':=by
  obtain ⟨-,-,-,h3,-⟩:=h.cells
  clear h
  go_enter Tryz.func121,Tryz.ntmps121
  go_wp2
  go_quiet (fail)
  go_wp2
  go_ret
  exact ⟨rfl,below_drewN (Below.refl _ _) _⟩
theorem cNear_any {q:Nat} {x:qag} (h:qgx F w q x) (cb:Nat) (p:PodD) (hp:qew w cb p) (hok:p.ok w):
    Calls Tryz.prog 124 #[.pointer (some ⟨q,0,none⟩),.pointer (some ⟨cb,0,none⟩)] w fun e w'=>e= .returned (.bool (qae p.near.L x.labels))∧Below w.heap.size w w':=by
  obtain ⟨l,a,e1,-,o1,-,h4,-,hq⟩:=h.lists
  obtain ⟨-,h8,-⟩:=hp.cells
  have on:=hok.2 p.near (by simp [PodD.lists])
  have hcb:=qo hp
  have c1:=fun W (hb:Below w.heap.size w W)=>fits_any p.near.L l.L p.near.a l.a p.near.cap l.cap W on.1 o1.1 (on.below hb).2.2.1 (o1.below hb).2.2.1
  have hdw:Below w.heap.size w w.drew:=(Below.refl _ _).drew
  rw [← e1]
  clear h e1 hp
  go_enter Tryz.func124,Tryz.ntmps124
  go_wp2
  go_region_held3 (fun w'=>w'.cell? ⟨q,4,none⟩=some (.slice l.a l.L.length l.cap)∧w'.cell? ⟨cb,8,none⟩=some (.slice p.near.a p.near.L.length p.near.cap)) (go_keep)
    (first
      | (go_at_call 105;refine (c1 _ hdw).mono ?_;rintro e w1 ⟨rfl,hb1⟩;have s1:=fun o=>hb1.cell (p:=⟨q,o,none⟩) hq;have s2:=fun o=>hb1.cell (p:=⟨cb,o,none⟩) hcb))
  go_wp2
  go_ret
  exact ⟨rfl,qj hdw hb1⟩
theorem cApart_any {q:Nat} {x:qag} (h:qgx F w q x) (cb:Nat) (p:PodD) (hp:qew w cb p) (hok:p.ok w):
    Calls Tryz.prog 125 #[.pointer (some ⟨q,0,none⟩),.pointer (some ⟨cb,0,none⟩)] w fun e w'=>e= .returned (.bool (qbv p.apart.L x.labels || qbv x.apart p.labels.L))∧Below w.heap.size w w':=by
  obtain ⟨l,a,e1,e2,o1,o2,h4,h5,hq⟩:=h.lists
  obtain ⟨k5,k8,k9⟩:=hp.cells
  have oa:=hok.2 p.apart (by simp [PodD.lists])
  have ol:=hok.2 p.labels (by simp [PodD.lists])
  have hcb:=qo hp
  have c1:=fun W (hb:Below w.heap.size w W)=>shuns_any p.apart l W (oa.below hb) (o1.below hb)
  have c2:=fun W (hb:Below w.heap.size w W)=>shuns_any a p.labels W (o2.below hb) (ol.below hb)
  have hdw:Below w.heap.size w w.drew:=(Below.refl _ _).drew
  unfold Lst.val at c1 c2
  rw [← e1,← e2]
  clear h e1 e2 hp k8
  cases hE:qbv p.apart.L l.L
  · rw [hE] at c1
    go_enter Tryz.func125,Tryz.ntmps125
    go_wp2
    go_region_held3 (fun w'=>w'.cell? ⟨q,4,none⟩=some (.slice l.a l.L.length l.cap)∧w'.cell? ⟨q,5,none⟩=some (.slice a.a a.L.length a.cap)∧w'.cell? ⟨cb,5,none⟩=some (.slice p.labels.a p.labels.L.length p.labels.cap)∧w'.cell? ⟨cb,9,none⟩=some (.slice p.apart.a p.apart.L.length p.apart.cap)) (go_keep)
      (first
        | (go_at_call_of 126 (Value.slice p.apart.a p.apart.L.length p.apart.cap);refine (c1 _ hdw).mono ?_;rintro e w1 ⟨rfl,hb1⟩;have s1:=fun o=>hb1.cell (p:=⟨q,o,none⟩) hq;have s2:=fun o=>hb1.cell (p:=⟨cb,o,none⟩) hcb;have hW1:=qj hdw hb1;have zq1:q < w1.heap.size:=Nat.lt_of_lt_of_le hq hb1.size;have zc1:cb < w1.heap.size:=Nat.lt_of_lt_of_le hcb hb1.size)
        | (go_at_call_of 126 (Value.slice a.a a.L.length a.cap);refine (c2 w1 hW1).mono ?_;rintro e w2 ⟨rfl,hb2⟩;have s3:=fun o=>hb2.cell (p:=⟨q,o,none⟩) zq1;have s4:=fun o=>hb2.cell (p:=⟨cb,o,none⟩) zc1;have hW2:=qj hW1 hb2))
    go_wp2
    go_ret
    exact ⟨rfl,hW2⟩
  · go_enter Tryz.func125,Tryz.ntmps125
    go_wp2
    rw [hE] at c1
    first
      | go_region_with (first
        | (go_at_call_of 126 (Value.slice p.apart.a p.apart.L.length p.apart.cap);refine (c1 _ hdw).mono ?_;rintro e w1 ⟨rfl,hb1⟩;have s1:=fun o=>hb1.cell (p:=⟨q,o,none⟩) hq;have s2:=fun o=>hb1.cell (p:=⟨cb,o,none⟩) hcb;have hW1:=qj hdw hb1))
      | fail
    all_goals go_wp2
    all_goals go_ret
    all_goals exact ⟨rfl,by assumption⟩
theorem indexPort (xs:List (Nat×qag)) (f:Nat×qag→Bool) (ao:Option Addr) (cap cb:Nat) (hl:xs.length≤100000) (hr:w.ownsRow 0 129 1 (.slice ao xs.length cap) xs.length (xs.map fun p=>ptrV p.1))
    (hc: ∀ W,Below w.heap.size w W→ ∀ p∈xs,Calls Tryz.prog 121 #[.pointer (some ⟨p.1,0,none⟩),.pointer (some ⟨cb,0,none⟩)] W fun e w'=>e= .returned (.bool (f p))∧Below W.heap.size W w'):
    Calls Tryz.prog 133 #[.slice ao xs.length cap,.func (.func 121) #[] #[.pointer (some ⟨cb,0,none⟩)]] w fun e w'=>(∃ r:Int,e= .returned (.int .i64 r)∧decide (0≤r)=xs.any f)∧Below w.heap.size w w':=by
  go_enter Tryz.func133,Tryz.ntmps133
  go_wp2
  go_loopw [8] (fun i wr=> ∃ k:Nat,k≤xs.length∧i= .int .i64 k∧Below w.heap.size w wr∧(xs.take k).any f=false) (fun i _=>xs.length - (intOf i).toNat)
  case atStart=>exact ⟨0,Nat.zero_le _,rfl,Below.refl _ _,rfl⟩
  case round=>
    obtain ⟨k,hk,rfl,hbw,hno⟩:=hrel
    have Hno:Hid ((xs.take k).any f=false):=hno
    clear hno
    by_cases hlt:k < xs.length
    · obtain ⟨gb,rfl,hg,hcl⟩:=own_at hr (by omega)
      have hcell:wr.cell? ⟨gb,k,none⟩=some (.pointer (some ⟨xs[k].1,0,none⟩)):=by
        rw [hbw.cell (p:=⟨gb,k,none⟩) hg,hcl k hlt]
        simp [ptrV,hlt]
      have Htk:Hid ((xs.take (k+1)).any f=((xs.take k).any f || f xs[k])):=by
        show _=_
        rw [List.take_succ_eq_append_getElem hlt,List.any_append]
        simp
      have c1:=hc wr hbw xs[k] (List.getElem_mem hlt)
      clear hcl
      cases hE:f xs[k]
      · have HE:Hid (f xs[k]=false):=hE
        rw [hE] at c1
        clear hE
        go_wp2_with (go_at_call 121;refine c1.mono ?_;rintro e w2 ⟨rfl,hb2⟩)
        go_roundw
        case rel=>exact ⟨k+1,by omega,by go_num,qj hbw hb2,by rw [Htk.out,Hno.out,HE.out];rfl⟩
        case measure=>simp [intOf];omega
      · have HE:Hid (xs.any f=true):=List.any_eq_true.2 ⟨xs[k],List.getElem_mem hlt,hE⟩
        rw [hE] at c1
        clear hE
        go_wp2_with (go_at_call 121;refine c1.mono ?_;rintro e w2 ⟨rfl,hb2⟩)
        go_ret
        exact ⟨⟨k,rfl,by rw [HE.out];simp⟩,qj hbw hb2⟩
    · have h0:=Hno.out
      rw [List.take_of_length_le (by omega)] at h0
      have H0:Hid (xs.any f=false):=h0
      clear h0
      go_wp2
      go_ret
      exact ⟨⟨_,rfl,by rw [H0.out];rfl⟩,hbw⟩
theorem containsPort (xs:List (Nat×qag)) (f:Nat×qag→Bool) (ao:Option Addr) (cap cb:Nat) (hl:xs.length≤100000) (hr:w.ownsRow 0 129 1 (.slice ao xs.length cap) xs.length (xs.map fun p=>ptrV p.1))
    (hc: ∀ W,Below w.heap.size w W→ ∀ p∈xs,Calls Tryz.prog 121 #[.pointer (some ⟨p.1,0,none⟩),.pointer (some ⟨cb,0,none⟩)] W fun e w'=>e= .returned (.bool (f p))∧Below W.heap.size W w'):
    Calls Tryz.prog 120 #[.slice ao xs.length cap,.func (.func 121) #[] #[.pointer (some ⟨cb,0,none⟩)]] w fun e w'=>e= .returned (.bool (xs.any f))∧Below w.heap.size w w':=by
  have c1:=indexPort xs f ao cap cb hl hr hc
  go_enter Tryz.func120,Tryz.ntmps120
  go_wp2_with (go_at_call 133;refine c1.mono ?_;rintro e w1 ⟨⟨r,rfl,hr1⟩,hb1⟩;have Hr:Hid (decide (0≤r)=xs.any f):=hr1;clear hr1)
  go_ret
  exact ⟨by rw [← Hr.out];rfl,hb1⟩
theorem indexNear (xs:List (Nat×qag)) (f:Nat×qag→Bool) (ao:Option Addr) (cap cb:Nat) (hl:xs.length≤100000) (hr:w.ownsRow 0 129 1 (.slice ao xs.length cap) xs.length (xs.map fun p=>ptrV p.1))
    (hc: ∀ W,Below w.heap.size w W→ ∀ p∈xs,Calls Tryz.prog 124 #[.pointer (some ⟨p.1,0,none⟩),.pointer (some ⟨cb,0,none⟩)] W fun e w'=>e= .returned (.bool (f p))∧Below W.heap.size W w'):
    Calls Tryz.prog 133 #[.slice ao xs.length cap,.func (.func 124) #[] #[.pointer (some ⟨cb,0,none⟩)]] w fun e w'=>(∃ r:Int,e= .returned (.int .i64 r)∧decide (0≤r)=xs.any f)∧Below w.heap.size w w':=by
  go_enter Tryz.func133,Tryz.ntmps133
  go_wp2
  go_loopw [8] (fun i wr=> ∃ k:Nat,k≤xs.length∧i= .int .i64 k∧Below w.heap.size w wr∧(xs.take k).any f=false) (fun i _=>xs.length - (intOf i).toNat)
  case atStart=>exact ⟨0,Nat.zero_le _,rfl,Below.refl _ _,rfl⟩
  case round=>
    obtain ⟨k,hk,rfl,hbw,hno⟩:=hrel
    have Hno:Hid ((xs.take k).any f=false):=hno
    clear hno
    by_cases hlt:k < xs.length
    · obtain ⟨gb,rfl,hg,hcl⟩:=own_at hr (by omega)
      have hcell:wr.cell? ⟨gb,k,none⟩=some (.pointer (some ⟨xs[k].1,0,none⟩)):=by
        rw [hbw.cell (p:=⟨gb,k,none⟩) hg,hcl k hlt]
        simp [ptrV,hlt]
      have Htk:Hid ((xs.take (k+1)).any f=((xs.take k).any f || f xs[k])):=by
        show _=_
        rw [List.take_succ_eq_append_getElem hlt,List.any_append]
        simp
      have c1:=hc wr hbw xs[k] (List.getElem_mem hlt)
      clear hcl
      cases hE:f xs[k]
      · have HE:Hid (f xs[k]=false):=hE
        rw [hE] at c1
        clear hE
        go_wp2_with (go_at_call 124;refine c1.mono ?_;rintro e w2 ⟨rfl,hb2⟩)
        go_roundw
        case rel=>exact ⟨k+1,by omega,by go_num,qj hbw hb2,by rw [Htk.out,Hno.out,HE.out];rfl⟩
        case measure=>simp [intOf];omega
      · have HE:Hid (xs.any f=true):=List.any_eq_true.2 ⟨xs[k],List.getElem_mem hlt,hE⟩
        rw [hE] at c1
        clear hE
        go_wp2_with (go_at_call 124;refine c1.mono ?_;rintro e w2 ⟨rfl,hb2⟩)
        go_ret
        exact ⟨⟨k,rfl,by rw [HE.out];simp⟩,qj hbw hb2⟩
    · have h0:=Hno.out
      rw [List.take_of_length_le (by omega)] at h0
      have H0:Hid (xs.any f=false):=h0
      clear h0
      go_wp2
      go_ret
      exact ⟨⟨_,rfl,by rw [H0.out];rfl⟩,hbw⟩
theorem containsNear (xs:List (Nat×qag)) (f:Nat×qag→Bool) (ao:Option Addr) (cap cb:Nat) (hl:xs.length≤100000) (hr:w.ownsRow 0 129 1 (.slice ao xs.length cap) xs.length (xs.map fun p=>ptrV p.1))
    (hc: ∀ W,Below w.heap.size w W→ ∀ p∈xs,Calls Tryz.prog 124 #[.pointer (some ⟨p.1,0,none⟩),.pointer (some ⟨cb,0,none⟩)] W fun e w'=>e= .returned (.bool (f p))∧Below W.heap.size W w'):
    Calls Tryz.prog 120 #[.slice ao xs.length cap,.func (.func 124) #[] #[.pointer (some ⟨cb,0,none⟩)]] w fun e w'=>e= .returned (.bool (xs.any f))∧Below w.heap.size w w':=by
  have c1:=indexNear xs f ao cap cb hl hr hc
  go_enter Tryz.func120,Tryz.ntmps120
  go_wp2_with (go_at_call 133;refine c1.mono ?_;rintro e w1 ⟨⟨r,rfl,hr1⟩,hb1⟩;have Hr:Hid (decide (0≤r)=xs.any f):=hr1;clear hr1)
  go_ret
  exact ⟨by rw [← Hr.out];rfl,hb1⟩
theorem indexApart (xs:List (Nat×qag)) (f:Nat×qag→Bool) (ao:Option Addr) (cap cb:Nat) (hl:xs.length≤100000) (hr:w.ownsRow 0 129 1 (.slice ao xs.length cap) xs.length (xs.map fun p=>ptrV p.1))
    (hc: ∀ W,Below w.heap.size w W→ ∀ p∈xs,Calls Tryz.prog 125 #[.pointer (some ⟨p.1,0,none⟩),.pointer (some ⟨cb,0,none⟩)] W fun e w'=>e= .returned (.bool (f p))∧Below W.heap.size W w'):
    Calls Tryz.prog 133 #[.slice ao xs.length cap,.func (.func 125) #[] #[.pointer (some ⟨cb,0,none⟩)]] w fun e w'=>(∃ r:Int,e= .returned (.int .i64 r)∧decide (0≤r)=xs.any f)∧Below w.heap.size w w':=by
  go_enter Tryz.func133,Tryz.ntmps133
  go_wp2
  go_loopw [8] (fun i wr=> ∃ k:Nat,k≤xs.length∧i= .int .i64 k∧Below w.heap.size w wr∧(xs.take k).any f=false) (fun i _=>xs.length - (intOf i).toNat)
  case atStart=>exact ⟨0,Nat.zero_le _,rfl,Below.refl _ _,rfl⟩
  case round=>
    obtain ⟨k,hk,rfl,hbw,hno⟩:=hrel
    have Hno:Hid ((xs.take k).any f=false):=hno
    clear hno
    by_cases hlt:k < xs.length
    · obtain ⟨gb,rfl,hg,hcl⟩:=own_at hr (by omega)
      have hcell:wr.cell? ⟨gb,k,none⟩=some (.pointer (some ⟨xs[k].1,0,none⟩)):=by
        rw [hbw.cell (p:=⟨gb,k,none⟩) hg,hcl k hlt]
        simp [ptrV,hlt]
      have Htk:Hid ((xs.take (k+1)).any f=((xs.take k).any f || f xs[k])):=by
        show _=_
        rw [List.take_succ_eq_append_getElem hlt,List.any_append]
        simp
      have c1:=hc wr hbw xs[k] (List.getElem_mem hlt)
      clear hcl
      cases hE:f xs[k]
      · have HE:Hid (f xs[k]=false):=hE
        rw [hE] at c1
        clear hE
        go_wp2_with (go_at_call 125;refine c1.mono ?_;rintro e w2 ⟨rfl,hb2⟩)
        go_roundw
        case rel=>exact ⟨k+1,by omega,by go_num,qj hbw hb2,by rw [Htk.out,Hno.out,HE.out];rfl⟩
        case measure=>simp [intOf];omega
      · have HE:Hid (xs.any f=true):=List.any_eq_true.2 ⟨xs[k],List.getElem_mem hlt,hE⟩
        rw [hE] at c1
        clear hE
        go_wp2_with (go_at_call 125;refine c1.mono ?_;rintro e w2 ⟨rfl,hb2⟩)
        go_ret
        exact ⟨⟨k,rfl,by rw [HE.out];simp⟩,qj hbw hb2⟩
    · have h0:=Hno.out
      rw [List.take_of_length_le (by omega)] at h0
      have H0:Hid (xs.any f=false):=h0
      clear h0
      go_wp2
      go_ret
      exact ⟨⟨_,rfl,by rw [H0.out];rfl⟩,hbw⟩
theorem containsApart (xs:List (Nat×qag)) (f:Nat×qag→Bool) (ao:Option Addr) (cap cb:Nat) (hl:xs.length≤100000) (hr:w.ownsRow 0 129 1 (.slice ao xs.length cap) xs.length (xs.map fun p=>ptrV p.1))
    (hc: ∀ W,Below w.heap.size w W→ ∀ p∈xs,Calls Tryz.prog 125 #[.pointer (some ⟨p.1,0,none⟩),.pointer (some ⟨cb,0,none⟩)] W fun e w'=>e= .returned (.bool (f p))∧Below W.heap.size W w'):
    Calls Tryz.prog 120 #[.slice ao xs.length cap,.func (.func 125) #[] #[.pointer (some ⟨cb,0,none⟩)]] w fun e w'=>e= .returned (.bool (xs.any f))∧Below w.heap.size w w':=by
  have c1:=indexApart xs f ao cap cb hl hr hc
  go_enter Tryz.func120,Tryz.ntmps120
  go_wp2_with (go_at_call 133;refine c1.mono ?_;rintro e w1 ⟨⟨r,rfl,hr1⟩,hb1⟩;have Hr:Hid (decide (0≤r)=xs.any f):=hr1;clear hr1)
  go_ret
  exact ⟨by rw [← Hr.out];rfl,hb1⟩
theorem qdc (xs:List (Nat×qag)) (port:Int) (ao:Option Addr) (cap:Nat) (hl:xs.length≤100000) (hr:w.ownsRow 0 129 1 (.slice ao xs.length cap) xs.length (xs.map fun p=>ptrV p.1)) (hp: ∀ p∈xs,qgx F w p.1 p.2):
    Calls Tryz.prog 104 #[.slice ao xs.length cap,.int .i64 port] w fun e w'=>e= .returned (.bool (!(port==0)&&xs.any fun p=>p.2.port==port))∧Below w.heap.size w w':=by
  have hW0:Below w.heap.size w (w.alloc (.cells #[.int .i64 port] 3)):=qi _ _
  have hbx:(w.alloc (.cells #[.int .i64 port] 3)).heap[w.heap.size]? =some (.cells #[.int .i64 port] 3 (0,0)):=qm _ _
  have c1:=containsPort (w:=w.alloc (.cells #[.int .i64 port] 3)) xs (fun p=>p.2.port==port) ao cap w.heap.size hl (hr.alloc _) fun W hb p hpx=>cPort_any ((hp p hpx).below (qj hW0 hb)) w.heap.size port (by rw [hb.cell (p:=⟨w.heap.size,0,none⟩) (by simp),ql hbx];rfl)
  have hmf: ∀ (fn:Fn) (first cap:Array Value) (w:World),(Instr.makeFunc fn first cap).run Tryz.prog w= .ok (.func fn first cap) w:=fun _ _ _ _=>rfl
  by_cases h0:port=0
  · have HE:Hid ((!(port==0)&&xs.any fun p=>p.2.port==port)=false):=by show (_&&_)=false;simp [h0]
    clear c1
    subst h0
    go_enter Tryz.func104,Tryz.ntmps104
    go_wp2
    go_ret
    exact ⟨by rw [HE.out];rfl,hW0⟩
  · have HE:Hid ((!(port==0)&&xs.any fun p=>p.2.port==port)=xs.any fun p=>p.2.port==port):=by show (_&&_)=_;simp [h0]
    have h0':(port==0)=false:=by simpa using h0
    have h0'':(port != 0)=true:=by simpa using h0
    go_enter Tryz.func104,Tryz.ntmps104
    go_wp2_with (go_at_call 120;refine c1.mono ?_;rintro e w1 ⟨rfl,hb1⟩)
    go_ret
    exact ⟨by rw [HE.out];rfl,qj hW0 hb1⟩
end
end
section
open Go.RowKit Go.Maps
def qat (g:Gh) (k:qn):List (Nat×qag):=(g.PP.filter fun p=>p.2.2.node==k).map (·.2)
def qt:List (qn×qag)→qn→Int×Int×Int
  | [],_=>(0,0,0)
  | p::r,k=>if p.2.node==k then ((qt r k).1+p.2.n0,(qt r k).2.1+p.2.n1,(qt r k).2.2+p.2.n2) else qt r k
structure ViewOk (g:Gh) (k:qn) (v:qba):Prop where
  ptrs:v.ptrs=(qat g k).map (·.1)
  used:(v.u0,v.u1,v.u2)=qt g.pods k
def Full (g:Gh):Prop:= ∀ p∈g.NN,∃ v,getL g.VV p.1=some v∧ViewOk g p.1 v
def qbm (g:Gh) (k:qn) (f:Nat×qag→Bool):Bool:=g.NN.any fun p=>nbrB g.nodes k p.1&&(qat g p.1).any f
theorem qfn (w:World):(zeroValue 188).run Tryz.prog w= .ok (.agg #[.int .i64 0,.int .i64 0,.int .i64 0,.slice none 0 0]) w:=by kernel_rfl
theorem fieldV1 (u0 u1 u2:Int) (ao:Option Addr) (n cap:Nat) (w:World):(Instr.field 188 (.agg #[.int .i64 u0,.int .i64 u1,.int .i64 u2,.slice ao n cap]) 1).run Tryz.prog w= .ok (.slice ao n cap) w:=by kernel_rfl
theorem fieldV0 (u0 u1 u2:Int) (ao:Option Addr) (n cap:Nat) (w:World):(Instr.field 188 (.agg #[.int .i64 u0,.int .i64 u1,.int .i64 u2,.slice ao n cap]) 0).run Tryz.prog w= .ok (.agg #[.int .i64 u0,.int .i64 u1,.int .i64 u2]) w:=by kernel_rfl
theorem fieldN0 (u0 u1 u2:Int) (ao ap:Option Addr) (n cap m cap':Nat) (w:World):(Instr.field 127 (.agg #[.int .i64 u0,.int .i64 u1,.int .i64 u2,.slice ao n cap,.slice ap m cap']) 0).run Tryz.prog w= .ok (.agg #[.int .i64 u0,.int .i64 u1,.int .i64 u2]) w:=by kernel_rfl
section
variable {F:Nat→Prop} {w:World} {Y:Nat} {hd:Head} {g:Gh}
theorem BMem.lookV (H:BMem F w Y hd g) (hfull:Full g) (s:ByteArray) (hs:s.size≤maxLen) (hN:(getL g.NN (ky s)).isSome=true): ∃ u0 u1 u2 ao cap,(u0,u1,u2)=qt g.pods (ky s)∧w.ownsRow 0 129 1 (.slice ao (qat g (ky s)).length cap) (qat g (ky s)).length ((qat g (ky s)).map fun p=>ptrV p.1)∧
    ∀ w1,Below w.heap.size w w1→(Instr.lookup 115 (.map (some g.bv)) (.string s) false).run Tryz.prog w1= .ok (.agg #[.int .i64 u0,.int .i64 u1,.int .i64 u2,.slice ao (qat g (ky s)).length cap]) w1:=by
  obtain ⟨x,hx⟩:=Option.isSome_iff_exists.1 hN
  obtain ⟨v,hv,hok⟩:=hfull _ (qar hx)
  dsimp only at hv hok
  have hr:=(H.vv _ (qar hv)).1
  dsimp only at hr
  rw [hok.ptrs,List.length_map,List.map_map] at hr
  obtain ⟨ao,cap,hrow⟩:=qv hr
  rw [hrow] at hr
  refine ⟨v.u0,v.u1,v.u2,ao,cap,hok.used,hr,fun w1 hb=> ?_⟩
  have:=(H.below hb).vw.look strK Tryz.underlying115 (qfn w1) (keyS s hs)
  rw [this,qz,hv]
  show Result.ok (qba.val v) w1=_
  rw [qba.val,hrow]
theorem qc0 {k:qn} {p:Nat×qag} (h:p∈qat g k): ∃ q∈g.PP,q.2=p:=by
  obtain ⟨q,hq,e⟩:=List.mem_map.1 h
  exact ⟨q,(List.mem_filter.1 hq).1,e⟩
theorem qbp (k:qn):(qat g k).length≤g.PP.length:=by
  unfold qat
  rw [List.length_map]
  exact List.length_filter_le _ _
theorem qel {w w1 w2:World} {r:Nat} (hb:Below w.heap.size w w1) (hk:Kept (fun i=>i=r) w1 w2) (hr:w.heap.size≤r):Below w.heap.size w w2:=hb.trans (hk.below hb.size fun i hi e=>by omega)
theorem anyNearNear (H:BMem F w Y hd g) (hfull:Full g) (hP:g.PP.length≤100000) (s:ByteArray) (hs:s.size≤maxLen) (f:Nat×qag→Bool) (cb:Nat)
    (hc: ∀ W,Below w.heap.size w W→ ∀ p∈g.PP,Calls Tryz.prog 124 #[.pointer (some ⟨p.2.1,0,none⟩),.pointer (some ⟨cb,0,none⟩)] W fun e w'=>e= .returned (.bool (f p.2))∧Below W.heap.size W w'):
    Calls Tryz.prog 123 #[.pointer (some ⟨Y,0,none⟩),.string s,.func (.func 124) #[] #[.pointer (some ⟨cb,0,none⟩)]] w fun e w'=>e= .returned (.bool (qbm g (ky s) f))∧Below w.heap.size w w':=by
  have hx:=H.cN
  have HH:Hid (BMem F w Y hd g):=H
  have Hfull:Hid (Full g):=hfull
  have Hc:Hid (∀ W,Below w.heap.size w W→ ∀ p∈g.PP,Calls Tryz.prog 124 #[.pointer (some ⟨p.2.1,0,none⟩),.pointer (some ⟨cb,0,none⟩)] W fun e w'=>e= .returned (.bool (f p.2))∧Below W.heap.size W w'):=hc
  clear hc hfull
  go_enter Tryz.func123,Tryz.ntmps123
  go_wp2_with (at_range;refine qgz _ rfl _ 112 rfl 9 127 strK Tryz.underlying112 g.bn _ rfl H.nd ?_;intro w2 hr2 hb2 hs2)
  clear hs2 hx H
  go_frame
  go_loopw [7] (fun _ wr=> ∃ todo,qdx Tryz.prog wr 9 g.bn w.heap.size (mapV (·.1) g.NN) todo∧Below w.heap.size w wr∧ ∀ p∈g.NN,todo p.1=false→(nbrB g.nodes (ky s) p.1&&(qat g p.1).any f)=false) (fun _ wr=>wr.rangeLeft g.bn w.heap.size)
  case atStart=>
    refine ⟨_,hr2,hb2,fun p hp h=> ?_⟩
    rw [qz,qac HH.out.sortN.distinct (k:=p.1) (v:=p.2) hp] at h
    cases h
  case round=>
    clear hr2 hb2
    obtain ⟨todo,hrg,hbw,hno⟩:=hrel
    have Hno:Hid (∀ p∈g.NN,todo p.1=false→(nbrB g.nodes (ky s) p.1&&(qat g p.1).any f)=false):=hno
    clear hno
    go_wp2_with (at_next;refine qe5 _ rfl _ rfl 9 strK Value.string (fun v:Value=>v) g.bn w.heap.size _ todo (fun _ _=>strInv) (fun _ v _=>⟨v,rfl⟩) rfl hrg ?_ ?_)
    · intro hl0
      have HE:Hid (qbm g (ky s) f=false):=by
        show qbm g (ky s) f=false
        unfold qbm
        rw [List.any_eq_false]
        intro p hp
        rw [Hno.out p hp (hl0 _)]
        simp
      go_wp2
      go_ret
      exact ⟨by rw [HE.out];rfl,hbw⟩
    · intro x c kb w3 hkey htd hget hrg3 hlt3 hk3 hs3 hen
      obtain ⟨e3,hkl⟩:=qgh hkey
      simp only [Value.string.injEq] at e3
      obtain ⟨y,rfl⟩: ∃ y,kb=ky y:=⟨bs kb,(qga kb).symm⟩
      rw [bs_ky] at e3
      subst e3
      have hys:x.size≤maxLen:=by rw [← qdu];exact hkl
      have hsN:(getL g.NN (ky x)).isSome=true:=by
        rw [qz] at hget
        cases hgn:getL g.NN (ky x)
        · rw [hgn] at hget;cases hget
        · rfl
      have hb3:Below w.heap.size w w3:=qel hbw hk3 (Nat.le_refl _)
      have hB3:=HH.out.below hb3
      have Hlt:Hid (w3.rangeLeft g.bn w.heap.size < wr.rangeLeft g.bn w.heap.size):=hlt3
      have hY3:=hB3.lt Y hB3.fy
      have hx3:=hB3.cV
      have c1:=nbr_any hB3 s x hs hys
      have fl:=fieldV1
      obtain ⟨u0,u1,u2,ao,cap,-,hrow,lk⟩:=hB3.lookV Hfull.out x hys hsN
      have Hskip:Hid ((nbrB g.nodes (ky s) (ky x)&&(qat g (ky x)).any f)=false→ ∀ p∈g.NN,(todo p.1&& !(p.1==ky x))=false→(nbrB g.nodes (ky s) p.1&&(qat g p.1).any f)=false):=fun h p hp ht=>by
        by_cases e:p.1=ky x
        · rw [e];exact h
        · refine Hno.out p hp ?_
          have:(p.1==ky x)=false:=by simpa using e
          rw [this] at ht
          simpa using ht
      have HsN:Hid ((getL g.NN (ky x)).isSome=true):=hsN
      clear hget htd hkey hkl hlt3 hk3 hs3 hrg hB3 hsN
      cases hE:nbrB g.nodes (ky s) (ky x)
      · rw [hE] at c1
        have HS:=Hskip.out (by rw [hE];rfl)
        have HS':Hid (∀ p∈g.NN,(todo p.1&& !(p.1==ky x))=false→(nbrB g.nodes (ky s) p.1&&(qat g p.1).any f)=false):=HS
        clear HS hE Hskip
        go_wp2_with (go_at_call 69;refine c1.mono ?_;rintro e w4 ⟨rfl,hb4⟩)
        go_roundw
        case rel=>exact ⟨_,hrg3.kept (Kept.of_below (F:=qq) hb4) id id,qj hb3 hb4,HS'.out⟩
        case measure=>rw [qal hrg3 (Kept.of_below (F:=qq) hb4) id id];exact Hlt.out
      · rw [hE] at c1
        have c2:=fun W (hb:Below w3.heap.size w3 W)=>containsNear (w:=W) (qat g (ky x)) f ao cap cb (Nat.le_trans (qbp _) hP) ((Kept.of_below (F:=qq) hb).ownsRow hrow fun _ _=>id) fun W' hb' p hp=>by
          obtain ⟨q,hq,rfl⟩:=qc0 hp
          exact Hc.out W' (qj hb3 (qj hb hb')) q hq
        cases hA:(qat g (ky x)).any f
        · rw [hA] at c2
          have HS:=Hskip.out (by rw [hE,hA];rfl)
          have HS':Hid (∀ p∈g.NN,(todo p.1&& !(p.1==ky x))=false→(nbrB g.nodes (ky s) p.1&&(qat g p.1).any f)=false):=HS
          clear HS hE hA Hskip
          go_wp2_with (first
            | (go_at_call 69;refine c1.mono ?_;rintro e w4 ⟨rfl,hb4⟩;have y4:=fun o=>hb4.cell (p:=⟨Y,o,none⟩) hY3;have lk4:=lk w4 hb4)
            | (go_at_call 120;refine (c2 w4 hb4).mono ?_;rintro e w5 ⟨rfl,hb5⟩))
          have hb45:=qj hb4 hb5
          go_roundw
          case rel=>exact ⟨_,hrg3.kept (Kept.of_below (F:=qq) hb45) id id,qj hb3 hb45,HS'.out⟩
          case measure=>rw [qal hrg3 (Kept.of_below (F:=qq) hb45) id id];exact Hlt.out
        · rw [hA] at c2
          have HE:Hid (qbm g (ky s) f=true):=by
            show qbm g (ky s) f=true
            obtain ⟨z,hz⟩:=Option.isSome_iff_exists.1 HsN.out
            unfold qbm
            rw [List.any_eq_true]
            exact ⟨_,qar hz,by dsimp only;rw [hE,hA];rfl⟩
          clear hE hA Hskip
          go_wp2_with (first
            | (go_at_call 69;refine c1.mono ?_;rintro e w4 ⟨rfl,hb4⟩;have y4:=fun o=>hb4.cell (p:=⟨Y,o,none⟩) hY3;have lk4:=lk w4 hb4)
            | (go_at_call 120;refine (c2 w4 hb4).mono ?_;rintro e w5 ⟨rfl,hb5⟩))
          go_ret
          exact ⟨by rw [HE.out];rfl,qj hb3 (qj hb4 hb5)⟩
theorem anyNearApart (H:BMem F w Y hd g) (hfull:Full g) (hP:g.PP.length≤100000) (s:ByteArray) (hs:s.size≤maxLen) (f:Nat×qag→Bool) (cb:Nat)
    (hc: ∀ W,Below w.heap.size w W→ ∀ p∈g.PP,Calls Tryz.prog 125 #[.pointer (some ⟨p.2.1,0,none⟩),.pointer (some ⟨cb,0,none⟩)] W fun e w'=>e= .returned (.bool (f p.2))∧Below W.heap.size W w'):
    Calls Tryz.prog 123 #[.pointer (some ⟨Y,0,none⟩),.string s,.func (.func 125) #[] #[.pointer (some ⟨cb,0,none⟩)]] w fun e w'=>e= .returned (.bool (qbm g (ky s) f))∧Below w.heap.size w w':=by
  have hx:=H.cN
  have HH:Hid (BMem F w Y hd g):=H
  have Hfull:Hid (Full g):=hfull
  have Hc:Hid (∀ W,Below w.heap.size w W→ ∀ p∈g.PP,Calls Tryz.prog 125 #[.pointer (some ⟨p.2.1,0,none⟩),.pointer (some ⟨cb,0,none⟩)] W fun e w'=>e= .returned (.bool (f p.2))∧Below W.heap.size W w'):=hc
  clear hc hfull
  go_enter Tryz.func123,Tryz.ntmps123
  go_wp2_with (at_range;refine qgz _ rfl _ 112 rfl 9 127 strK Tryz.underlying112 g.bn _ rfl H.nd ?_;intro w2 hr2 hb2 hs2)
  clear hs2 hx H
  go_frame
  go_loopw [7] (fun _ wr=> ∃ todo,qdx Tryz.prog wr 9 g.bn w.heap.size (mapV (·.1) g.NN) todo∧Below w.heap.size w wr∧ ∀ p∈g.NN,todo p.1=false→(nbrB g.nodes (ky s) p.1&&(qat g p.1).any f)=false) (fun _ wr=>wr.rangeLeft g.bn w.heap.size)
  case atStart=>
    refine ⟨_,hr2,hb2,fun p hp h=> ?_⟩
    rw [qz,qac HH.out.sortN.distinct (k:=p.1) (v:=p.2) hp] at h
    cases h
  case round=>
    clear hr2 hb2
    obtain ⟨todo,hrg,hbw,hno⟩:=hrel
    have Hno:Hid (∀ p∈g.NN,todo p.1=false→(nbrB g.nodes (ky s) p.1&&(qat g p.1).any f)=false):=hno
    clear hno
    go_wp2_with (at_next;refine qe5 _ rfl _ rfl 9 strK Value.string (fun v:Value=>v) g.bn w.heap.size _ todo (fun _ _=>strInv) (fun _ v _=>⟨v,rfl⟩) rfl hrg ?_ ?_)
    · intro hl0
      have HE:Hid (qbm g (ky s) f=false):=by
        show qbm g (ky s) f=false
        unfold qbm
        rw [List.any_eq_false]
        intro p hp
        rw [Hno.out p hp (hl0 _)]
        simp
      go_wp2
      go_ret
      exact ⟨by rw [HE.out];rfl,hbw⟩
    · intro x c kb w3 hkey htd hget hrg3 hlt3 hk3 hs3 hen
      obtain ⟨e3,hkl⟩:=qgh hkey
      simp only [Value.string.injEq] at e3
      obtain ⟨y,rfl⟩: ∃ y,kb=ky y:=⟨bs kb,(qga kb).symm⟩
      rw [bs_ky] at e3
      subst e3
      have hys:x.size≤maxLen:=by rw [← qdu];exact hkl
      have hsN:(getL g.NN (ky x)).isSome=true:=by
        rw [qz] at hget
        cases hgn:getL g.NN (ky x)
        · rw [hgn] at hget;cases hget
        · rfl
      have hb3:Below w.heap.size w w3:=qel hbw hk3 (Nat.le_refl _)
      have hB3:=HH.out.below hb3
      have Hlt:Hid (w3.rangeLeft g.bn w.heap.size < wr.rangeLeft g.bn w.heap.size):=hlt3
      have hY3:=hB3.lt Y hB3.fy
      have hx3:=hB3.cV
      have c1:=nbr_any hB3 s x hs hys
      have fl:=fieldV1
      obtain ⟨u0,u1,u2,ao,cap,-,hrow,lk⟩:=hB3.lookV Hfull.out x hys hsN
      have Hskip:Hid ((nbrB g.nodes (ky s) (ky x)&&(qat g (ky x)).any f)=false→ ∀ p∈g.NN,(todo p.1&& !(p.1==ky x))=false→(nbrB g.nodes (ky s) p.1&&(qat g p.1).any f)=false):=fun h p hp ht=>by
        by_cases e:p.1=ky x
        · rw [e];exact h
        · refine Hno.out p hp ?_
          have:(p.1==ky x)=false:=by simpa using e
          rw [this] at ht
          simpa using ht
      have HsN:Hid ((getL g.NN (ky x)).isSome=true):=hsN
      clear hget htd hkey hkl hlt3 hk3 hs3 hrg hB3 hsN
      cases hE:nbrB g.nodes (ky s) (ky x)
      · rw [hE] at c1
        have HS:=Hskip.out (by rw [hE];rfl)
        have HS':Hid (∀ p∈g.NN,(todo p.1&& !(p.1==ky x))=false→(nbrB g.nodes (ky s) p.1&&(qat g p.1).any f)=false):=HS
        clear HS hE Hskip
        go_wp2_with (go_at_call 69;refine c1.mono ?_;rintro e w4 ⟨rfl,hb4⟩)
        go_roundw
        case rel=>exact ⟨_,hrg3.kept (Kept.of_below (F:=qq) hb4) id id,qj hb3 hb4,HS'.out⟩
        case measure=>rw [qal hrg3 (Kept.of_below (F:=qq) hb4) id id];exact Hlt.out
      · rw [hE] at c1
        have c2:=fun W (hb:Below w3.heap.size w3 W)=>containsApart (w:=W) (qat g (ky x)) f ao cap cb (Nat.le_trans (qbp _) hP) ((Kept.of_below (F:=qq) hb).ownsRow hrow fun _ _=>id) fun W' hb' p hp=>by
          obtain ⟨q,hq,rfl⟩:=qc0 hp
          exact Hc.out W' (qj hb3 (qj hb hb')) q hq
        cases hA:(qat g (ky x)).any f
        · rw [hA] at c2
          have HS:=Hskip.out (by rw [hE,hA];rfl)
          have HS':Hid (∀ p∈g.NN,(todo p.1&& !(p.1==ky x))=false→(nbrB g.nodes (ky s) p.1&&(qat g p.1).any f)=false):=HS
          clear HS hE hA Hskip
          go_wp2_with (first
            | (go_at_call 69;refine c1.mono ?_;rintro e w4 ⟨rfl,hb4⟩;have y4:=fun o=>hb4.cell (p:=⟨Y,o,none⟩) hY3;have lk4:=lk w4 hb4)
            | (go_at_call 120;refine (c2 w4 hb4).mono ?_;rintro e w5 ⟨rfl,hb5⟩))
          have hb45:=qj hb4 hb5
          go_roundw
          case rel=>exact ⟨_,hrg3.kept (Kept.of_below (F:=qq) hb45) id id,qj hb3 hb45,HS'.out⟩
          case measure=>rw [qal hrg3 (Kept.of_below (F:=qq) hb45) id id];exact Hlt.out
        · rw [hA] at c2
          have HE:Hid (qbm g (ky s) f=true):=by
            show qbm g (ky s) f=true
            obtain ⟨z,hz⟩:=Option.isSome_iff_exists.1 HsN.out
            unfold qbm
            rw [List.any_eq_true]
            exact ⟨_,qar hz,by dsimp only;rw [hE,hA];rfl⟩
          clear hE hA Hskip
          go_wp2_with (first
            | (go_at_call 69;refine c1.mono ?_;rintro e w4 ⟨rfl,hb4⟩;have y4:=fun o=>hb4.cell (p:=⟨Y,o,none⟩) hY3;have lk4:=lk w4 hb4)
            | (go_at_call 120;refine (c2 w4 hb4).mono ?_;rintro e w5 ⟨rfl,hb5⟩))
          go_ret
          exact ⟨by rw [HE.out];rfl,qj hb3 (qj hb4 hb5)⟩
theorem qdd (H:BMem F w Y hd g) (hfull:Full g) (hP:g.PP.length≤100000) (s:ByteArray) (hs:s.size≤maxLen) (p:PodD) (hok:p.ok w):
    Calls Tryz.prog 106 #[.pointer (some ⟨Y,0,none⟩),.string s,.agg p.cells] w fun e w'=>e= .returned (.bool (qbm g (ky s) fun q=>qae p.near.L q.2.labels))∧Below w.heap.size w w':=by
  have hW0:Below w.heap.size w (w.alloc (.cells #[.string p.name,.int .i64 p.n0,.int .i64 p.n1,.int .i64 p.n2,.int .i64 p.port,.slice p.labels.a p.labels.L.length p.labels.cap,.slice p.select.a p.select.L.length p.select.cap,.slice p.bears.a p.bears.L.length p.bears.cap,.slice p.near.a p.near.L.length p.near.cap,.slice p.apart.a p.apart.L.length p.apart.cap] 77)):=qi _ _
  have hbx:qew (w.alloc (.cells #[.string p.name,.int .i64 p.n0,.int .i64 p.n1,.int .i64 p.n2,.int .i64 p.port,.slice p.labels.a p.labels.L.length p.labels.cap,.slice p.select.a p.select.L.length p.select.cap,.slice p.bears.a p.bears.L.length p.bears.cap,.slice p.near.a p.near.L.length p.near.cap,.slice p.apart.a p.apart.L.length p.apart.cap] 77)) w.heap.size p:=qm _ _
  have c1:=anyNearNear (H.below hW0) hfull hP s hs (fun q=>qae p.near.L q.2.labels) w.heap.size fun W hb q hq=>cNear_any ((H.pp q hq).below (qj hW0 hb)) w.heap.size p (hbx.below hb) (hok.below (qj hW0 hb))
  have hmf: ∀ (fn:Fn) (first cap:Array Value) (w:World),(Instr.makeFunc fn first cap).run Tryz.prog w= .ok (.func fn first cap) w:=fun _ _ _ _=>rfl
  unfold PodD.cells Lst.val
  go_enter Tryz.func106,Tryz.ntmps106
  go_wp2_with (go_at_call 123;refine c1.mono ?_;rintro e w1 ⟨rfl,hb1⟩)
  go_ret
  exact ⟨rfl,qj hW0 hb1⟩
theorem qcq (H:BMem F w Y hd g) (hfull:Full g) (hP:g.PP.length≤100000) (s:ByteArray) (hs:s.size≤maxLen) (p:PodD) (hok:p.ok w):
    Calls Tryz.prog 107 #[.pointer (some ⟨Y,0,none⟩),.string s,.agg p.cells] w fun e w'=>e= .returned (.bool (qbm g (ky s) fun q=>qbv p.apart.L q.2.labels || qbv q.2.apart p.labels.L))∧Below w.heap.size w w':=by
  have hW0:Below w.heap.size w (w.alloc (.cells #[.string p.name,.int .i64 p.n0,.int .i64 p.n1,.int .i64 p.n2,.int .i64 p.port,.slice p.labels.a p.labels.L.length p.labels.cap,.slice p.select.a p.select.L.length p.select.cap,.slice p.bears.a p.bears.L.length p.bears.cap,.slice p.near.a p.near.L.length p.near.cap,.slice p.apart.a p.apart.L.length p.apart.cap] 77)):=qi _ _
  have hbx:qew (w.alloc (.cells #[.string p.name,.int .i64 p.n0,.int .i64 p.n1,.int .i64 p.n2,.int .i64 p.port,.slice p.labels.a p.labels.L.length p.labels.cap,.slice p.select.a p.select.L.length p.select.cap,.slice p.bears.a p.bears.L.length p.bears.cap,.slice p.near.a p.near.L.length p.near.cap,.slice p.apart.a p.apart.L.length p.apart.cap] 77)) w.heap.size p:=qm _ _
  have c1:=anyNearApart (H.below hW0) hfull hP s hs (fun q=>qbv p.apart.L q.2.labels || qbv q.2.apart p.labels.L) w.heap.size fun W hb q hq=>cApart_any ((H.pp q hq).below (qj hW0 hb)) w.heap.size p (hbx.below hb) (hok.below (qj hW0 hb))
  have hmf: ∀ (fn:Fn) (first cap:Array Value) (w:World),(Instr.makeFunc fn first cap).run Tryz.prog w= .ok (.func fn first cap) w:=fun _ _ _ _=>rfl
  unfold PodD.cells Lst.val
  go_enter Tryz.func107,Tryz.ntmps107
  go_wp2_with (go_at_call 123;refine c1.mono ?_;rintro e w1 ⟨rfl,hb1⟩)
  go_ret
  exact ⟨rfl,qj hW0 hb1⟩
end
end
end Go.Proofs.YtchddaafibjmgaaGreat
