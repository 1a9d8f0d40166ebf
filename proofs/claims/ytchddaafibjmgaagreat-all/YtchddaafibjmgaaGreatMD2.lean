import Derived.Test.YtchddaafibjmgaaGreatMA1
set_option maxRecDepth 100000
set_option maxHeartbeats 20000000
namespace Go.Proofs.YtchddaafibjmgaaGreat
section
open Go.RowKit
structure PodD where
 name:ByteArray
 n0:Int
 n1:Int
 n2:Int
 port:Int
 labels:Lst
 select:Lst
 bears:Lst
 near:Lst
 apart:Lst
def PodD.cells (p:PodD):Array Value:= #[.string p.name,.int .i64 p.n0,.int .i64 p.n1,.int .i64 p.n2,.int .i64 p.port,p.labels.val,p.select.val,p.bears.val,p.near.val,p.apart.val]
def PodD.lists (p:PodD):List Lst:= [p.labels,p.select,p.bears,p.near,p.apart]
def PodD.ok (w:World) (p:PodD):Prop:=p.name.size≤9223372036854775807∧ ∀ x∈p.lists,x.ok w
def PodD.good (p:PodD):Bool:=qdl p.name&&qef p.n0 p.n1 p.n2&&decide (0≤p.port)&&decide (p.port≤65535)&&p.lists.all fun x=>qbz x.L
def PodD.err (p:PodD):Int:=if p.good then 0 else 3
structure qu where
 name:ByteArray
 r0:Int
 r1:Int
 r2:Int
 labels:Lst
 taints:Lst
def qu.cells (n:qu):Array Value:= #[.string n.name,.int .i64 n.r0,.int .i64 n.r1,.int .i64 n.r2,n.labels.val,n.taints.val]
def qu.lists (n:qu):List Lst:= [n.labels,n.taints]
def qu.ok (w:World) (n:qu):Prop:=n.name.size≤9223372036854775807∧ ∀ x∈n.lists,x.ok w
def qu.good (n:qu):Bool:=qdl n.name&&qef n.r0 n.r1 n.r2&&n.lists.all fun x=>qbz x.L
def qu.err (n:qu):Int:=if n.good then 0 else 2
theorem PodD.ok.below {w w':World} {p:PodD} (h:p.ok w) (hb:Below w.heap.size w w'):p.ok w':=⟨h.1,fun x hx=>(h.2 x hx).below hb⟩
theorem qu.ok.below {w w':World} {p:qu} (h:p.ok w) (hb:Below w.heap.size w w'):p.ok w':=⟨h.1,fun x hx=>(h.2 x hx).below hb⟩
theorem areLists5 (p:PodD) (w w2:World) (h:p.ok w) (hb:Below w.heap.size w w2):
  Calls Tryz.prog 68 #[.slice (some ⟨w2.heap.size,0,none⟩) 5 5] (w2.alloc (.cells #[.slice p.labels.a p.labels.L.length p.labels.cap,.slice p.select.a p.select.L.length p.select.cap,.slice p.bears.a p.bears.L.length p.bears.cap,.slice p.near.a p.near.L.length p.near.cap,.slice p.apart.a p.apart.L.length p.apart.cap] 68))
   fun e w'=>e= .returned (.bool (p.lists.all fun x=>qbz x.L))∧Below w2.heap.size w2 w':=by
 have hW:=qj hb (qi w2 (.cells #[.slice p.labels.a p.labels.L.length p.labels.cap,.slice p.select.a p.select.L.length p.select.cap,.slice p.bears.a p.bears.L.length p.bears.cap,.slice p.near.a p.near.L.length p.near.cap,.slice p.apart.a p.apart.L.length p.apart.cap] 68))
 refine (areLists_any p.lists w2.heap.size 5 _ (fun x hx=>(h.2 x hx).below hW) (by simp [PodD.lists]) (by simp) ?_).mono fun e w' ⟨he,hb'⟩=>⟨he,qj (qi _ _) hb'⟩
 intro k hk
 have hk':k < 5:=hk
 rw [ql (qm _ _)]
 match k,hk' with
 | 0,_=>rfl
 | 1,_=>rfl
 | 2,_=>rfl
 | 3,_=>rfl
 | 4,_=>rfl
theorem areLists2 (p:qu) (w w2:World) (h:p.ok w) (hb:Below w.heap.size w w2):
  Calls Tryz.prog 68 #[.slice (some ⟨w2.heap.size,0,none⟩) 2 2] (w2.alloc (.cells #[.slice p.labels.a p.labels.L.length p.labels.cap,.slice p.taints.a p.taints.L.length p.taints.cap] 68))
   fun e w'=>e= .returned (.bool (p.lists.all fun x=>qbz x.L))∧Below w2.heap.size w2 w':=by
 have hW:=qj hb (qi w2 (.cells #[.slice p.labels.a p.labels.L.length p.labels.cap,.slice p.taints.a p.taints.L.length p.taints.cap] 68))
 refine (areLists_any p.lists w2.heap.size 2 _ (fun x hx=>(h.2 x hx).below hW) (by simp [qu.lists]) (by simp) ?_).mono fun e w' ⟨he,hb'⟩=>⟨he,qj (qi _ _) hb'⟩
 intro k hk
 have hk':k < 2:=hk
 rw [ql (qm _ _)]
 match k,hk' with
 | 0,_=>rfl
 | 1,_=>rfl
theorem qee (p:PodD) (w:World) (h:p.ok w):Calls Tryz.prog 47 #[.agg p.cells] w fun e w'=>e= .returned (.int .i64 p.err)∧Below w.heap.size w w':=by
 have c1:=fun w=>isName_any p.name w h.1
 have c2:=fun w=>areAmounts_any p.n0 p.n1 p.n2 w
 unfold PodD.cells Lst.val
 cases hE:qdl p.name
 ·have HE:Hid (p.err=3):=by show p.err=3;simp [PodD.err,PodD.good,hE]
  rw [hE] at c1
  go_enter Tryz.func47,Tryz.ntmps47
  go_wp2_with (first| (go_at_call 66;refine (c1 _).mono ?_;rintro e w' ⟨rfl,rfl⟩))
  go_ret
  exact ⟨by rw [HE.out];rfl,qi _ _⟩
 cases hE2:qef p.n0 p.n1 p.n2
 ·have HE:Hid (p.err=3):=by show p.err=3;simp [PodD.err,PodD.good,hE2]
  rw [hE] at c1
  rw [hE2] at c2
  go_enter Tryz.func47,Tryz.ntmps47
  go_wp2_with (first| (go_at_call 66;refine (c1 _).mono ?_;rintro e w' ⟨rfl,rfl⟩)| (go_at_call 67;refine (c2 _).mono ?_;rintro e w' ⟨rfl,hb'⟩))
  go_ret
  exact ⟨by rw [HE.out];rfl,qj (qi _ _) (by assumption)⟩
 rw [hE] at c1
 rw [hE2] at c2
 by_cases h3:0≤p.port
 ·by_cases h4:p.port≤65535
  ·have c3:=fun w2 hb=>areLists5 p w w2 h hb
   cases hL:p.lists.all fun x=>qbz x.L
   ·have HE:Hid (p.err=3):=by show p.err=3;simp only [PodD.err,PodD.good,hL,Bool.and_false];rfl
    rw [hL] at c3
    clear hL hE hE2
    go_enter Tryz.func47,Tryz.ntmps47
    go_wp2_with (first| (go_at_call 66;refine (c1 _).mono ?_;rintro e w' ⟨rfl,rfl⟩)| (go_at_call 67;refine (c2 _).mono ?_;rintro e w2 ⟨rfl,hb'⟩;have hc:=fun o=>hb'.cell (p:=⟨w.heap.size,o,none⟩) (by simp);have hz:w.heap.size+1≤w2.heap.size:=by have:=hb'.size;simp at this;omega)| (go_at_call 68;refine (c3 w2 (qj (qi _ _) hb')).mono ?_;rintro e w3 ⟨rfl,hb3⟩))
    go_ret
    exact ⟨by rw [HE.out];rfl,qj (qj (qi _ _) hb') hb3⟩
   ·have HE:Hid (p.err=0):=by show p.err=0;simp only [PodD.err,PodD.good,hL,hE,hE2,h3,h4];rfl
    rw [hL] at c3
    clear hL hE hE2
    go_enter Tryz.func47,Tryz.ntmps47
    go_wp2_with (first| (go_at_call 66;refine (c1 _).mono ?_;rintro e w' ⟨rfl,rfl⟩)| (go_at_call 67;refine (c2 _).mono ?_;rintro e w2 ⟨rfl,hb'⟩;have hc:=fun o=>hb'.cell (p:=⟨w.heap.size,o,none⟩) (by simp);have hz:w.heap.size+1≤w2.heap.size:=by have:=hb'.size;simp at this;omega)| (go_at_call 68;refine (c3 w2 (qj (qi _ _) hb')).mono ?_;rintro e w3 ⟨rfl,hb3⟩))
    go_ret
    exact ⟨by rw [HE.out];rfl,qj (qj (qi _ _) hb') hb3⟩
  ·have HE:Hid (p.err=3):=by show p.err=3;simp [PodD.err,PodD.good,h4]
   clear hE hE2
   go_enter Tryz.func47,Tryz.ntmps47
   go_wp2_with (first| (go_at_call 66;refine (c1 _).mono ?_;rintro e w' ⟨rfl,rfl⟩)| (go_at_call 67;refine (c2 _).mono ?_;rintro e w2 ⟨rfl,hb'⟩;have hc:=fun o=>hb'.cell (p:=⟨w.heap.size,o,none⟩) (by simp);have hz:w.heap.size+1≤w2.heap.size:=by have:=hb'.size;simp at this;omega))
   go_ret
   exact ⟨by rw [HE.out];rfl,qj (qi _ _) hb'⟩
 ·have HE:Hid (p.err=3):=by show p.err=3;simp [PodD.err,PodD.good,h3]
  clear hE hE2
  go_enter Tryz.func47,Tryz.ntmps47
  go_wp2_with (first| (go_at_call 66;refine (c1 _).mono ?_;rintro e w' ⟨rfl,rfl⟩)| (go_at_call 67;refine (c2 _).mono ?_;rintro e w2 ⟨rfl,hb'⟩;have hc:=fun o=>hb'.cell (p:=⟨w.heap.size,o,none⟩) (by simp);have hz:w.heap.size+1≤w2.heap.size:=by have:=hb'.size;simp at this;omega))
  go_ret
  exact ⟨by rw [HE.out];rfl,qj (qi _ _) hb'⟩
theorem qfq (p:qu) (w:World) (h:p.ok w):Calls Tryz.prog 38 #[.agg p.cells] w fun e w'=>e= .returned (.int .i64 p.err)∧Below w.heap.size w w':=by
 have c1:=fun w=>isName_any p.name w h.1
 have c2:=fun w=>areAmounts_any p.r0 p.r1 p.r2 w
 unfold qu.cells Lst.val
 cases hE:qdl p.name
 ·have HE:Hid (p.err=2):=by show p.err=2;simp [qu.err,qu.good,hE]
  rw [hE] at c1
  go_enter Tryz.func38,Tryz.ntmps38
  go_wp2_with (first| (go_at_call 66;refine (c1 _).mono ?_;rintro e w' ⟨rfl,rfl⟩))
  go_ret
  exact ⟨by rw [HE.out];rfl,qi _ _⟩
 cases hE2:qef p.r0 p.r1 p.r2
 ·have HE:Hid (p.err=2):=by show p.err=2;simp [qu.err,qu.good,hE2]
  rw [hE] at c1
  rw [hE2] at c2
  go_enter Tryz.func38,Tryz.ntmps38
  go_wp2_with (first| (go_at_call 66;refine (c1 _).mono ?_;rintro e w' ⟨rfl,rfl⟩)| (go_at_call 67;refine (c2 _).mono ?_;rintro e w2 ⟨rfl,hb'⟩;have hc:=fun o=>hb'.cell (p:=⟨w.heap.size,o,none⟩) (by simp);have hz:w.heap.size+1≤w2.heap.size:=by have:=hb'.size;simp at this;omega))
  go_ret
  exact ⟨by rw [HE.out];rfl,qj (qi _ _) (by assumption)⟩
 rw [hE] at c1
 rw [hE2] at c2
 have c3:=fun w2 hb=>areLists2 p w w2 h hb
 cases hL:p.lists.all fun x=>qbz x.L
 ·have HE:Hid (p.err=2):=by show p.err=2;simp only [qu.err,qu.good,hL,Bool.and_false];rfl
  rw [hL] at c3
  clear hL hE hE2
  go_enter Tryz.func38,Tryz.ntmps38
  go_wp2_with (first| (go_at_call 66;refine (c1 _).mono ?_;rintro e w' ⟨rfl,rfl⟩)| (go_at_call 67;refine (c2 _).mono ?_;rintro e w2 ⟨rfl,hb'⟩;have hc:=fun o=>hb'.cell (p:=⟨w.heap.size,o,none⟩) (by simp);have hz:w.heap.size+1≤w2.heap.size:=by have:=hb'.size;simp at this;omega)| (go_at_call 68;refine (c3 w2 (qj (qi _ _) hb')).mono ?_;rintro e w3 ⟨rfl,hb3⟩))
  go_ret
  exact ⟨by rw [HE.out];rfl,qj (qj (qi _ _) hb') hb3⟩
 ·have HE:Hid (p.err=0):=by show p.err=0;simp only [qu.err,qu.good,hL,hE,hE2];rfl
  rw [hL] at c3
  clear hL hE hE2
  go_enter Tryz.func38,Tryz.ntmps38
  go_wp2_with (first| (go_at_call 66;refine (c1 _).mono ?_;rintro e w' ⟨rfl,rfl⟩)| (go_at_call 67;refine (c2 _).mono ?_;rintro e w2 ⟨rfl,hb'⟩;have hc:=fun o=>hb'.cell (p:=⟨w.heap.size,o,none⟩) (by simp);have hz:w.heap.size+1≤w2.heap.size:=by have:=hb'.size;simp at this;omega)| (go_at_call 68;refine (c3 w2 (qj (qi _ _) hb')).mono ?_;rintro e w3 ⟨rfl,hb3⟩))
  go_ret
  exact ⟨by rw [HE.out];rfl,qj (qj (qi _ _) hb') hb3⟩
end
section
open Go.RowKit
theorem qhq (p:PodD) (w:World) (h:p.ok w):Calls Tryz.prog 50 #[.agg p.cells] w fun e w'=>e= .returned (.int .i64 p.err)∧Below w.heap.size w w':=by
 have c1:=fun w=>name_any p.name w h.1
 have c2:=fun w=>amounts_any p.n0 p.n1 p.n2 w
 have llabels: ∀ w2,Below w.heap.size w w2→Calls Tryz.prog 72 #[.slice p.labels.a p.labels.L.length p.labels.cap] w2 fun e w'=>e= .returned (.bool (qbz p.labels.L))∧ ∃ n,w'=w2.drewN n:=fun w2 hb=>have o:=(h.2 p.labels (by simp [PodD.lists])).below hb;qhh p.labels.L p.labels.a p.labels.cap w2 o.1 o.2.2.1 o.2.2.2
 have lselect: ∀ w2,Below w.heap.size w w2→Calls Tryz.prog 72 #[.slice p.select.a p.select.L.length p.select.cap] w2 fun e w'=>e= .returned (.bool (qbz p.select.L))∧ ∃ n,w'=w2.drewN n:=fun w2 hb=>have o:=(h.2 p.select (by simp [PodD.lists])).below hb;qhh p.select.L p.select.a p.select.cap w2 o.1 o.2.2.1 o.2.2.2
 have lbears: ∀ w2,Below w.heap.size w w2→Calls Tryz.prog 72 #[.slice p.bears.a p.bears.L.length p.bears.cap] w2 fun e w'=>e= .returned (.bool (qbz p.bears.L))∧ ∃ n,w'=w2.drewN n:=fun w2 hb=>have o:=(h.2 p.bears (by simp [PodD.lists])).below hb;qhh p.bears.L p.bears.a p.bears.cap w2 o.1 o.2.2.1 o.2.2.2
 have lnear: ∀ w2,Below w.heap.size w w2→Calls Tryz.prog 72 #[.slice p.near.a p.near.L.length p.near.cap] w2 fun e w'=>e= .returned (.bool (qbz p.near.L))∧ ∃ n,w'=w2.drewN n:=fun w2 hb=>have o:=(h.2 p.near (by simp [PodD.lists])).below hb;qhh p.near.L p.near.a p.near.cap w2 o.1 o.2.2.1 o.2.2.2
 have lapart: ∀ w2,Below w.heap.size w w2→Calls Tryz.prog 72 #[.slice p.apart.a p.apart.L.length p.apart.cap] w2 fun e w'=>e= .returned (.bool (qbz p.apart.L))∧ ∃ n,w'=w2.drewN n:=fun w2 hb=>have o:=(h.2 p.apart (by simp [PodD.lists])).below hb;qhh p.apart.L p.apart.a p.apart.cap w2 o.1 o.2.2.1 o.2.2.2
 unfold PodD.cells Lst.val
 cases hE0:qdl p.name
 ·have HE:Hid (p.err=3):=by show p.err=3;simp [PodD.err,PodD.good,PodD.lists,hE0]
  rw [hE0] at c1
  clear hE0
  go_enter Tryz.func50,Tryz.ntmps50
  go_wp2_with (first
    | (go_at_call 70;refine (c1 _).mono ?_;rintro e w' ⟨rfl,rfl⟩)
    | (go_at_call 71;refine (c2 _).mono ?_;rintro e w2 ⟨rfl,hb'⟩;have hc:=fun o=>hb'.cell (p:=⟨w.heap.size,o,none⟩) (by simp);have hW:Below w.heap.size w w2:=qj (qi _ _) hb')
    | (go_at_call_of 72 (Value.slice p.labels.a p.labels.L.length p.labels.cap);refine (llabels _ (by first| exact hW| exact below_drewN hW _)).mono ?_;rintro e w' ⟨rfl,nlabels,rfl⟩)
    | (go_at_call_of 72 (Value.slice p.select.a p.select.L.length p.select.cap);refine (lselect _ (by first| exact hW| exact below_drewN hW _)).mono ?_;rintro e w' ⟨rfl,nselect,rfl⟩)
    | (go_at_call_of 72 (Value.slice p.bears.a p.bears.L.length p.bears.cap);refine (lbears _ (by first| exact hW| exact below_drewN hW _)).mono ?_;rintro e w' ⟨rfl,nbears,rfl⟩)
    | (go_at_call_of 72 (Value.slice p.near.a p.near.L.length p.near.cap);refine (lnear _ (by first| exact hW| exact below_drewN hW _)).mono ?_;rintro e w' ⟨rfl,nnear,rfl⟩)
    | (go_at_call_of 72 (Value.slice p.apart.a p.apart.L.length p.apart.cap);refine (lapart _ (by first| exact hW| exact below_drewN hW _)).mono ?_;rintro e w' ⟨rfl,napart,rfl⟩))
  go_ret
  exact ⟨by rw [HE.out];rfl,below_drewN hW _⟩
 cases hE1:qef p.n0 p.n1 p.n2
 ·have HE:Hid (p.err=3):=by show p.err=3;simp [PodD.err,PodD.good,PodD.lists,hE1]
  rw [hE0] at c1
  rw [hE1] at c2
  clear hE0 hE1
  go_enter Tryz.func50,Tryz.ntmps50
  go_wp2_with (first
    | (go_at_call 70;refine (c1 _).mono ?_;rintro e w' ⟨rfl,rfl⟩)
    | (go_at_call 71;refine (c2 _).mono ?_;rintro e w2 ⟨rfl,hb'⟩;have hc:=fun o=>hb'.cell (p:=⟨w.heap.size,o,none⟩) (by simp);have hW:Below w.heap.size w w2:=qj (qi _ _) hb')
    | (go_at_call_of 72 (Value.slice p.labels.a p.labels.L.length p.labels.cap);refine (llabels _ (by first| exact hW| exact below_drewN hW _)).mono ?_;rintro e w' ⟨rfl,nlabels,rfl⟩)
    | (go_at_call_of 72 (Value.slice p.select.a p.select.L.length p.select.cap);refine (lselect _ (by first| exact hW| exact below_drewN hW _)).mono ?_;rintro e w' ⟨rfl,nselect,rfl⟩)
    | (go_at_call_of 72 (Value.slice p.bears.a p.bears.L.length p.bears.cap);refine (lbears _ (by first| exact hW| exact below_drewN hW _)).mono ?_;rintro e w' ⟨rfl,nbears,rfl⟩)
    | (go_at_call_of 72 (Value.slice p.near.a p.near.L.length p.near.cap);refine (lnear _ (by first| exact hW| exact below_drewN hW _)).mono ?_;rintro e w' ⟨rfl,nnear,rfl⟩)
    | (go_at_call_of 72 (Value.slice p.apart.a p.apart.L.length p.apart.cap);refine (lapart _ (by first| exact hW| exact below_drewN hW _)).mono ?_;rintro e w' ⟨rfl,napart,rfl⟩))
  go_ret
  exact ⟨by rw [HE.out];rfl,below_drewN hW _⟩
 cases hE2:qbz p.labels.L
 ·have HE:Hid (p.err=3):=by show p.err=3;simp [PodD.err,PodD.good,PodD.lists,hE2]
  rw [hE0] at c1
  rw [hE1] at c2
  rw [hE2] at llabels
  clear hE0 hE1 hE2
  go_enter Tryz.func50,Tryz.ntmps50
  go_wp2_with (first
    | (go_at_call 70;refine (c1 _).mono ?_;rintro e w' ⟨rfl,rfl⟩)
    | (go_at_call 71;refine (c2 _).mono ?_;rintro e w2 ⟨rfl,hb'⟩;have hc:=fun o=>hb'.cell (p:=⟨w.heap.size,o,none⟩) (by simp);have hW:Below w.heap.size w w2:=qj (qi _ _) hb')
    | (go_at_call_of 72 (Value.slice p.labels.a p.labels.L.length p.labels.cap);refine (llabels _ (by first| exact hW| exact below_drewN hW _)).mono ?_;rintro e w' ⟨rfl,nlabels,rfl⟩)
    | (go_at_call_of 72 (Value.slice p.select.a p.select.L.length p.select.cap);refine (lselect _ (by first| exact hW| exact below_drewN hW _)).mono ?_;rintro e w' ⟨rfl,nselect,rfl⟩)
    | (go_at_call_of 72 (Value.slice p.bears.a p.bears.L.length p.bears.cap);refine (lbears _ (by first| exact hW| exact below_drewN hW _)).mono ?_;rintro e w' ⟨rfl,nbears,rfl⟩)
    | (go_at_call_of 72 (Value.slice p.near.a p.near.L.length p.near.cap);refine (lnear _ (by first| exact hW| exact below_drewN hW _)).mono ?_;rintro e w' ⟨rfl,nnear,rfl⟩)
    | (go_at_call_of 72 (Value.slice p.apart.a p.apart.L.length p.apart.cap);refine (lapart _ (by first| exact hW| exact below_drewN hW _)).mono ?_;rintro e w' ⟨rfl,napart,rfl⟩))
  go_ret
  exact ⟨by rw [HE.out];rfl,below_drewN hW _⟩
 cases hE3:qbz p.select.L
 ·have HE:Hid (p.err=3):=by show p.err=3;simp [PodD.err,PodD.good,PodD.lists,hE3]
  rw [hE0] at c1
  rw [hE1] at c2
  rw [hE2] at llabels
  rw [hE3] at lselect
  clear hE0 hE1 hE2 hE3
  go_enter Tryz.func50,Tryz.ntmps50
  go_wp2_with (first
    | (go_at_call 70;refine (c1 _).mono ?_;rintro e w' ⟨rfl,rfl⟩)
    | (go_at_call 71;refine (c2 _).mono ?_;rintro e w2 ⟨rfl,hb'⟩;have hc:=fun o=>hb'.cell (p:=⟨w.heap.size,o,none⟩) (by simp);have hW:Below w.heap.size w w2:=qj (qi _ _) hb')
    | (go_at_call_of 72 (Value.slice p.labels.a p.labels.L.length p.labels.cap);refine (llabels _ (by first| exact hW| exact below_drewN hW _)).mono ?_;rintro e w' ⟨rfl,nlabels,rfl⟩)
    | (go_at_call_of 72 (Value.slice p.select.a p.select.L.length p.select.cap);refine (lselect _ (by first| exact hW| exact below_drewN hW _)).mono ?_;rintro e w' ⟨rfl,nselect,rfl⟩)
    | (go_at_call_of 72 (Value.slice p.bears.a p.bears.L.length p.bears.cap);refine (lbears _ (by first| exact hW| exact below_drewN hW _)).mono ?_;rintro e w' ⟨rfl,nbears,rfl⟩)
    | (go_at_call_of 72 (Value.slice p.near.a p.near.L.length p.near.cap);refine (lnear _ (by first| exact hW| exact below_drewN hW _)).mono ?_;rintro e w' ⟨rfl,nnear,rfl⟩)
    | (go_at_call_of 72 (Value.slice p.apart.a p.apart.L.length p.apart.cap);refine (lapart _ (by first| exact hW| exact below_drewN hW _)).mono ?_;rintro e w' ⟨rfl,napart,rfl⟩))
  go_ret
  exact ⟨by rw [HE.out];rfl,below_drewN hW _⟩
 cases hE4:qbz p.bears.L
 ·have HE:Hid (p.err=3):=by show p.err=3;simp [PodD.err,PodD.good,PodD.lists,hE4]
  rw [hE0] at c1
  rw [hE1] at c2
  rw [hE2] at llabels
  rw [hE3] at lselect
  rw [hE4] at lbears
  clear hE0 hE1 hE2 hE3 hE4
  go_enter Tryz.func50,Tryz.ntmps50
  go_wp2_with (first
    | (go_at_call 70;refine (c1 _).mono ?_;rintro e w' ⟨rfl,rfl⟩)
    | (go_at_call 71;refine (c2 _).mono ?_;rintro e w2 ⟨rfl,hb'⟩;have hc:=fun o=>hb'.cell (p:=⟨w.heap.size,o,none⟩) (by simp);have hW:Below w.heap.size w w2:=qj (qi _ _) hb')
    | (go_at_call_of 72 (Value.slice p.labels.a p.labels.L.length p.labels.cap);refine (llabels _ (by first| exact hW| exact below_drewN hW _)).mono ?_;rintro e w' ⟨rfl,nlabels,rfl⟩)
    | (go_at_call_of 72 (Value.slice p.select.a p.select.L.length p.select.cap);refine (lselect _ (by first| exact hW| exact below_drewN hW _)).mono ?_;rintro e w' ⟨rfl,nselect,rfl⟩)
    | (go_at_call_of 72 (Value.slice p.bears.a p.bears.L.length p.bears.cap);refine (lbears _ (by first| exact hW| exact below_drewN hW _)).mono ?_;rintro e w' ⟨rfl,nbears,rfl⟩)
    | (go_at_call_of 72 (Value.slice p.near.a p.near.L.length p.near.cap);refine (lnear _ (by first| exact hW| exact below_drewN hW _)).mono ?_;rintro e w' ⟨rfl,nnear,rfl⟩)
    | (go_at_call_of 72 (Value.slice p.apart.a p.apart.L.length p.apart.cap);refine (lapart _ (by first| exact hW| exact below_drewN hW _)).mono ?_;rintro e w' ⟨rfl,napart,rfl⟩))
  go_ret
  exact ⟨by rw [HE.out];rfl,below_drewN hW _⟩
 cases hE5:qbz p.near.L
 ·have HE:Hid (p.err=3):=by show p.err=3;simp [PodD.err,PodD.good,PodD.lists,hE5]
  rw [hE0] at c1
  rw [hE1] at c2
  rw [hE2] at llabels
  rw [hE3] at lselect
  rw [hE4] at lbears
  rw [hE5] at lnear
  clear hE0 hE1 hE2 hE3 hE4 hE5
  go_enter Tryz.func50,Tryz.ntmps50
  go_wp2_with (first
    | (go_at_call 70;refine (c1 _).mono ?_;rintro e w' ⟨rfl,rfl⟩)
    | (go_at_call 71;refine (c2 _).mono ?_;rintro e w2 ⟨rfl,hb'⟩;have hc:=fun o=>hb'.cell (p:=⟨w.heap.size,o,none⟩) (by simp);have hW:Below w.heap.size w w2:=qj (qi _ _) hb')
    | (go_at_call_of 72 (Value.slice p.labels.a p.labels.L.length p.labels.cap);refine (llabels _ (by first| exact hW| exact below_drewN hW _)).mono ?_;rintro e w' ⟨rfl,nlabels,rfl⟩)
    | (go_at_call_of 72 (Value.slice p.select.a p.select.L.length p.select.cap);refine (lselect _ (by first| exact hW| exact below_drewN hW _)).mono ?_;rintro e w' ⟨rfl,nselect,rfl⟩)
    | (go_at_call_of 72 (Value.slice p.bears.a p.bears.L.length p.bears.cap);refine (lbears _ (by first| exact hW| exact below_drewN hW _)).mono ?_;rintro e w' ⟨rfl,nbears,rfl⟩)
    | (go_at_call_of 72 (Value.slice p.near.a p.near.L.length p.near.cap);refine (lnear _ (by first| exact hW| exact below_drewN hW _)).mono ?_;rintro e w' ⟨rfl,nnear,rfl⟩)
    | (go_at_call_of 72 (Value.slice p.apart.a p.apart.L.length p.apart.cap);refine (lapart _ (by first| exact hW| exact below_drewN hW _)).mono ?_;rintro e w' ⟨rfl,napart,rfl⟩))
  go_ret
  exact ⟨by rw [HE.out];rfl,below_drewN hW _⟩
 cases hE6:qbz p.apart.L
 ·have HE:Hid (p.err=3):=by show p.err=3;simp [PodD.err,PodD.good,PodD.lists,hE6]
  rw [hE0] at c1
  rw [hE1] at c2
  rw [hE2] at llabels
  rw [hE3] at lselect
  rw [hE4] at lbears
  rw [hE5] at lnear
  rw [hE6] at lapart
  clear hE0 hE1 hE2 hE3 hE4 hE5 hE6
  go_enter Tryz.func50,Tryz.ntmps50
  go_wp2_with (first
    | (go_at_call 70;refine (c1 _).mono ?_;rintro e w' ⟨rfl,rfl⟩)
    | (go_at_call 71;refine (c2 _).mono ?_;rintro e w2 ⟨rfl,hb'⟩;have hc:=fun o=>hb'.cell (p:=⟨w.heap.size,o,none⟩) (by simp);have hW:Below w.heap.size w w2:=qj (qi _ _) hb')
    | (go_at_call_of 72 (Value.slice p.labels.a p.labels.L.length p.labels.cap);refine (llabels _ (by first| exact hW| exact below_drewN hW _)).mono ?_;rintro e w' ⟨rfl,nlabels,rfl⟩)
    | (go_at_call_of 72 (Value.slice p.select.a p.select.L.length p.select.cap);refine (lselect _ (by first| exact hW| exact below_drewN hW _)).mono ?_;rintro e w' ⟨rfl,nselect,rfl⟩)
    | (go_at_call_of 72 (Value.slice p.bears.a p.bears.L.length p.bears.cap);refine (lbears _ (by first| exact hW| exact below_drewN hW _)).mono ?_;rintro e w' ⟨rfl,nbears,rfl⟩)
    | (go_at_call_of 72 (Value.slice p.near.a p.near.L.length p.near.cap);refine (lnear _ (by first| exact hW| exact below_drewN hW _)).mono ?_;rintro e w' ⟨rfl,nnear,rfl⟩)
    | (go_at_call_of 72 (Value.slice p.apart.a p.apart.L.length p.apart.cap);refine (lapart _ (by first| exact hW| exact below_drewN hW _)).mono ?_;rintro e w' ⟨rfl,napart,rfl⟩))
  go_ret
  exact ⟨by rw [HE.out];rfl,below_drewN hW _⟩
 by_cases h3:0≤p.port
 ·by_cases h4:p.port≤65535
  ·have HE:Hid (p.err=0):=by show p.err=0;simp [PodD.err,PodD.good,PodD.lists,hE0,hE1,hE2,hE3,hE4,hE5,hE6,h3,h4]
   rw [hE0] at c1
   rw [hE1] at c2
   rw [hE2] at llabels
   rw [hE3] at lselect
   rw [hE4] at lbears
   rw [hE5] at lnear
   rw [hE6] at lapart
   clear hE0 hE1 hE2 hE3 hE4 hE5 hE6
   go_enter Tryz.func50,Tryz.ntmps50
   go_wp2_with (first
    | (go_at_call 70;refine (c1 _).mono ?_;rintro e w' ⟨rfl,rfl⟩)
    | (go_at_call 71;refine (c2 _).mono ?_;rintro e w2 ⟨rfl,hb'⟩;have hc:=fun o=>hb'.cell (p:=⟨w.heap.size,o,none⟩) (by simp);have hW:Below w.heap.size w w2:=qj (qi _ _) hb')
    | (go_at_call_of 72 (Value.slice p.labels.a p.labels.L.length p.labels.cap);refine (llabels _ (by first| exact hW| exact below_drewN hW _)).mono ?_;rintro e w' ⟨rfl,nlabels,rfl⟩)
    | (go_at_call_of 72 (Value.slice p.select.a p.select.L.length p.select.cap);refine (lselect _ (by first| exact hW| exact below_drewN hW _)).mono ?_;rintro e w' ⟨rfl,nselect,rfl⟩)
    | (go_at_call_of 72 (Value.slice p.bears.a p.bears.L.length p.bears.cap);refine (lbears _ (by first| exact hW| exact below_drewN hW _)).mono ?_;rintro e w' ⟨rfl,nbears,rfl⟩)
    | (go_at_call_of 72 (Value.slice p.near.a p.near.L.length p.near.cap);refine (lnear _ (by first| exact hW| exact below_drewN hW _)).mono ?_;rintro e w' ⟨rfl,nnear,rfl⟩)
    | (go_at_call_of 72 (Value.slice p.apart.a p.apart.L.length p.apart.cap);refine (lapart _ (by first| exact hW| exact below_drewN hW _)).mono ?_;rintro e w' ⟨rfl,napart,rfl⟩))
   go_ret
   exact ⟨by rw [HE.out];rfl,below_drewN hW _⟩
  ·have HE:Hid (p.err=3):=by show p.err=3;simp [PodD.err,PodD.good,PodD.lists,h4]
   rw [hE0] at c1
   rw [hE1] at c2
   rw [hE2] at llabels
   rw [hE3] at lselect
   rw [hE4] at lbears
   rw [hE5] at lnear
   rw [hE6] at lapart
   clear hE0 hE1 hE2 hE3 hE4 hE5 hE6
   go_enter Tryz.func50,Tryz.ntmps50
   go_wp2_with (first
    | (go_at_call 70;refine (c1 _).mono ?_;rintro e w' ⟨rfl,rfl⟩)
    | (go_at_call 71;refine (c2 _).mono ?_;rintro e w2 ⟨rfl,hb'⟩;have hc:=fun o=>hb'.cell (p:=⟨w.heap.size,o,none⟩) (by simp);have hW:Below w.heap.size w w2:=qj (qi _ _) hb')
    | (go_at_call_of 72 (Value.slice p.labels.a p.labels.L.length p.labels.cap);refine (llabels _ (by first| exact hW| exact below_drewN hW _)).mono ?_;rintro e w' ⟨rfl,nlabels,rfl⟩)
    | (go_at_call_of 72 (Value.slice p.select.a p.select.L.length p.select.cap);refine (lselect _ (by first| exact hW| exact below_drewN hW _)).mono ?_;rintro e w' ⟨rfl,nselect,rfl⟩)
    | (go_at_call_of 72 (Value.slice p.bears.a p.bears.L.length p.bears.cap);refine (lbears _ (by first| exact hW| exact below_drewN hW _)).mono ?_;rintro e w' ⟨rfl,nbears,rfl⟩)
    | (go_at_call_of 72 (Value.slice p.near.a p.near.L.length p.near.cap);refine (lnear _ (by first| exact hW| exact below_drewN hW _)).mono ?_;rintro e w' ⟨rfl,nnear,rfl⟩)
    | (go_at_call_of 72 (Value.slice p.apart.a p.apart.L.length p.apart.cap);refine (lapart _ (by first| exact hW| exact below_drewN hW _)).mono ?_;rintro e w' ⟨rfl,napart,rfl⟩))
   go_ret
   exact ⟨by rw [HE.out];rfl,below_drewN hW _⟩
 ·have HE:Hid (p.err=3):=by show p.err=3;simp [PodD.err,PodD.good,PodD.lists,h3]
  rw [hE0] at c1
  rw [hE1] at c2
  rw [hE2] at llabels
  rw [hE3] at lselect
  rw [hE4] at lbears
  rw [hE5] at lnear
  rw [hE6] at lapart
  clear hE0 hE1 hE2 hE3 hE4 hE5 hE6
  go_enter Tryz.func50,Tryz.ntmps50
  go_wp2_with (first
    | (go_at_call 70;refine (c1 _).mono ?_;rintro e w' ⟨rfl,rfl⟩)
    | (go_at_call 71;refine (c2 _).mono ?_;rintro e w2 ⟨rfl,hb'⟩;have hc:=fun o=>hb'.cell (p:=⟨w.heap.size,o,none⟩) (by simp);have hW:Below w.heap.size w w2:=qj (qi _ _) hb')
    | (go_at_call_of 72 (Value.slice p.labels.a p.labels.L.length p.labels.cap);refine (llabels _ (by first| exact hW| exact below_drewN hW _)).mono ?_;rintro e w' ⟨rfl,nlabels,rfl⟩)
    | (go_at_call_of 72 (Value.slice p.select.a p.select.L.length p.select.cap);refine (lselect _ (by first| exact hW| exact below_drewN hW _)).mono ?_;rintro e w' ⟨rfl,nselect,rfl⟩)
    | (go_at_call_of 72 (Value.slice p.bears.a p.bears.L.length p.bears.cap);refine (lbears _ (by first| exact hW| exact below_drewN hW _)).mono ?_;rintro e w' ⟨rfl,nbears,rfl⟩)
    | (go_at_call_of 72 (Value.slice p.near.a p.near.L.length p.near.cap);refine (lnear _ (by first| exact hW| exact below_drewN hW _)).mono ?_;rintro e w' ⟨rfl,nnear,rfl⟩)
    | (go_at_call_of 72 (Value.slice p.apart.a p.apart.L.length p.apart.cap);refine (lapart _ (by first| exact hW| exact below_drewN hW _)).mono ?_;rintro e w' ⟨rfl,napart,rfl⟩))
  go_ret
  exact ⟨by rw [HE.out];rfl,below_drewN hW _⟩
theorem qgr (p:qu) (w:World) (h:p.ok w):Calls Tryz.prog 44 #[.agg p.cells] w fun e w'=>e= .returned (.int .i64 p.err)∧Below w.heap.size w w':=by
 have c1:=fun w=>name_any p.name w h.1
 have c2:=fun w=>amounts_any p.r0 p.r1 p.r2 w
 have llabels: ∀ w2,Below w.heap.size w w2→Calls Tryz.prog 72 #[.slice p.labels.a p.labels.L.length p.labels.cap] w2 fun e w'=>e= .returned (.bool (qbz p.labels.L))∧ ∃ n,w'=w2.drewN n:=fun w2 hb=>have o:=(h.2 p.labels (by simp [qu.lists])).below hb;qhh p.labels.L p.labels.a p.labels.cap w2 o.1 o.2.2.1 o.2.2.2
 have ltaints: ∀ w2,Below w.heap.size w w2→Calls Tryz.prog 72 #[.slice p.taints.a p.taints.L.length p.taints.cap] w2 fun e w'=>e= .returned (.bool (qbz p.taints.L))∧ ∃ n,w'=w2.drewN n:=fun w2 hb=>have o:=(h.2 p.taints (by simp [qu.lists])).below hb;qhh p.taints.L p.taints.a p.taints.cap w2 o.1 o.2.2.1 o.2.2.2
 unfold qu.cells Lst.val
 cases hE0:qdl p.name
 ·have HE:Hid (p.err=2):=by show p.err=2;simp [qu.err,qu.good,qu.lists,hE0]
  rw [hE0] at c1
  clear hE0
  go_enter Tryz.func44,Tryz.ntmps44
  go_wp2_with (first
    | (go_at_call 70;refine (c1 _).mono ?_;rintro e w' ⟨rfl,rfl⟩)
    | (go_at_call 71;refine (c2 _).mono ?_;rintro e w2 ⟨rfl,hb'⟩;have hc:=fun o=>hb'.cell (p:=⟨w.heap.size,o,none⟩) (by simp);have hW:Below w.heap.size w w2:=qj (qi _ _) hb')
    | (go_at_call_of 72 (Value.slice p.labels.a p.labels.L.length p.labels.cap);refine (llabels _ (by first| exact hW| exact below_drewN hW _)).mono ?_;rintro e w' ⟨rfl,nlabels,rfl⟩)
    | (go_at_call_of 72 (Value.slice p.taints.a p.taints.L.length p.taints.cap);refine (ltaints _ (by first| exact hW| exact below_drewN hW _)).mono ?_;rintro e w' ⟨rfl,ntaints,rfl⟩))
  go_ret
  exact ⟨by rw [HE.out];rfl,below_drewN hW _⟩
 cases hE1:qef p.r0 p.r1 p.r2
 ·have HE:Hid (p.err=2):=by show p.err=2;simp [qu.err,qu.good,qu.lists,hE1]
  rw [hE0] at c1
  rw [hE1] at c2
  clear hE0 hE1
  go_enter Tryz.func44,Tryz.ntmps44
  go_wp2_with (first
    | (go_at_call 70;refine (c1 _).mono ?_;rintro e w' ⟨rfl,rfl⟩)
    | (go_at_call 71;refine (c2 _).mono ?_;rintro e w2 ⟨rfl,hb'⟩;have hc:=fun o=>hb'.cell (p:=⟨w.heap.size,o,none⟩) (by simp);have hW:Below w.heap.size w w2:=qj (qi _ _) hb')
    | (go_at_call_of 72 (Value.slice p.labels.a p.labels.L.length p.labels.cap);refine (llabels _ (by first| exact hW| exact below_drewN hW _)).mono ?_;rintro e w' ⟨rfl,nlabels,rfl⟩)
    | (go_at_call_of 72 (Value.slice p.taints.a p.taints.L.length p.taints.cap);refine (ltaints _ (by first| exact hW| exact below_drewN hW _)).mono ?_;rintro e w' ⟨rfl,ntaints,rfl⟩))
  go_ret
  exact ⟨by rw [HE.out];rfl,below_drewN hW _⟩
 cases hE2:qbz p.labels.L
 ·have HE:Hid (p.err=2):=by show p.err=2;simp [qu.err,qu.good,qu.lists,hE2]
  rw [hE0] at c1
  rw [hE1] at c2
  rw [hE2] at llabels
  clear hE0 hE1 hE2
  go_enter Tryz.func44,Tryz.ntmps44
  go_wp2_with (first
    | (go_at_call 70;refine (c1 _).mono ?_;rintro e w' ⟨rfl,rfl⟩)
    | (go_at_call 71;refine (c2 _).mono ?_;rintro e w2 ⟨rfl,hb'⟩;have hc:=fun o=>hb'.cell (p:=⟨w.heap.size,o,none⟩) (by simp);have hW:Below w.heap.size w w2:=qj (qi _ _) hb')
    | (go_at_call_of 72 (Value.slice p.labels.a p.labels.L.length p.labels.cap);refine (llabels _ (by first| exact hW| exact below_drewN hW _)).mono ?_;rintro e w' ⟨rfl,nlabels,rfl⟩)
    | (go_at_call_of 72 (Value.slice p.taints.a p.taints.L.length p.taints.cap);refine (ltaints _ (by first| exact hW| exact below_drewN hW _)).mono ?_;rintro e w' ⟨rfl,ntaints,rfl⟩))
  go_ret
  exact ⟨by rw [HE.out];rfl,below_drewN hW _⟩
 cases hE3:qbz p.taints.L
 ·have HE:Hid (p.err=2):=by show p.err=2;simp [qu.err,qu.good,qu.lists,hE3]
  rw [hE0] at c1
  rw [hE1] at c2
  rw [hE2] at llabels
  rw [hE3] at ltaints
  clear hE0 hE1 hE2 hE3
  go_enter Tryz.func44,Tryz.ntmps44
  go_wp2_with (first
    | (go_at_call 70;refine (c1 _).mono ?_;rintro e w' ⟨rfl,rfl⟩)
    | (go_at_call 71;refine (c2 _).mono ?_;rintro e w2 ⟨rfl,hb'⟩;have hc:=fun o=>hb'.cell (p:=⟨w.heap.size,o,none⟩) (by simp);have hW:Below w.heap.size w w2:=qj (qi _ _) hb')
    | (go_at_call_of 72 (Value.slice p.labels.a p.labels.L.length p.labels.cap);refine (llabels _ (by first| exact hW| exact below_drewN hW _)).mono ?_;rintro e w' ⟨rfl,nlabels,rfl⟩)
    | (go_at_call_of 72 (Value.slice p.taints.a p.taints.L.length p.taints.cap);refine (ltaints _ (by first| exact hW| exact below_drewN hW _)).mono ?_;rintro e w' ⟨rfl,ntaints,rfl⟩))
  go_ret
  exact ⟨by rw [HE.out];rfl,below_drewN hW _⟩
 have HE:Hid (p.err=0):=by show p.err=0;simp [qu.err,qu.good,qu.lists,hE0,hE1,hE2,hE3]
 rw [hE0] at c1
 rw [hE1] at c2
 rw [hE2] at llabels
 rw [hE3] at ltaints
 clear hE0 hE1 hE2 hE3
 go_enter Tryz.func44,Tryz.ntmps44
 go_wp2_with (first
    | (go_at_call 70;refine (c1 _).mono ?_;rintro e w' ⟨rfl,rfl⟩)
    | (go_at_call 71;refine (c2 _).mono ?_;rintro e w2 ⟨rfl,hb'⟩;have hc:=fun o=>hb'.cell (p:=⟨w.heap.size,o,none⟩) (by simp);have hW:Below w.heap.size w w2:=qj (qi _ _) hb')
    | (go_at_call_of 72 (Value.slice p.labels.a p.labels.L.length p.labels.cap);refine (llabels _ (by first| exact hW| exact below_drewN hW _)).mono ?_;rintro e w' ⟨rfl,nlabels,rfl⟩)
    | (go_at_call_of 72 (Value.slice p.taints.a p.taints.L.length p.taints.cap);refine (ltaints _ (by first| exact hW| exact below_drewN hW _)).mono ?_;rintro e w' ⟨rfl,ntaints,rfl⟩))
 go_ret
 exact ⟨by rw [HE.out];rfl,below_drewN hW _⟩
end
end Go.Proofs.YtchddaafibjmgaaGreat
