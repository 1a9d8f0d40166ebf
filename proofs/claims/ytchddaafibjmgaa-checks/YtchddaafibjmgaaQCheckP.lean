/-
  Check and CheckNode, the program's and the document's, each walked; they say the same.
-/
import Derived.Test.YtchddaafibjmgaaQA1b
namespace Go.Proofs.Ytchddaafibjmgaa
open Go.RowKit

/-- A pod, as data. -/
structure PodD where
  name : ByteArray
  n0 : Int
  n1 : Int
  n2 : Int
  port : Int
  labels : Lst
  select : Lst
  bears : Lst
  near : Lst
  apart : Lst

def PodD.cells (p : PodD) : Array Value := #[.string p.name, .int .i64 p.n0, .int .i64 p.n1, .int .i64 p.n2, .int .i64 p.port, p.labels.val, p.select.val, p.bears.val, p.near.val, p.apart.val]
def PodD.lists (p : PodD) : List Lst := [p.labels, p.select, p.bears, p.near, p.apart]
def PodD.ok (w : World) (p : PodD) : Prop := p.name.size ≤ 9223372036854775807 ∧ ∀ x ∈ p.lists, x.ok w

/-- It is a pod. -/
def PodD.good (p : PodD) : Bool := nameB p.name && amtsB p.n0 p.n1 p.n2 && decide (0 ≤ p.port) && decide (p.port ≤ 65535) && p.lists.all fun x => listB x.L
/-- What Check answers. -/
def PodD.err (p : PodD) : Int := if p.good then 0 else 3

/-- A node, as data. -/
structure NodeD where
  name : ByteArray
  r0 : Int
  r1 : Int
  r2 : Int
  labels : Lst
  taints : Lst

def NodeD.cells (n : NodeD) : Array Value := #[.string n.name, .int .i64 n.r0, .int .i64 n.r1, .int .i64 n.r2, n.labels.val, n.taints.val]
def NodeD.lists (n : NodeD) : List Lst := [n.labels, n.taints]
def NodeD.ok (w : World) (n : NodeD) : Prop := n.name.size ≤ 9223372036854775807 ∧ ∀ x ∈ n.lists, x.ok w
def NodeD.good (n : NodeD) : Bool := nameB n.name && amtsB n.r0 n.r1 n.r2 && n.lists.all fun x => listB x.L
def NodeD.err (n : NodeD) : Int := if n.good then 0 else 2

theorem PodD.ok.below {w w' : World} {p : PodD} (h : p.ok w) (hb : Below w.heap.size w w') : p.ok w' := ⟨h.1, fun x hx => (h.2 x hx).below hb⟩
theorem NodeD.ok.below {w w' : World} {p : NodeD} (h : p.ok w) (hb : Below w.heap.size w w') : p.ok w' := ⟨h.1, fun x hx => (h.2 x hx).below hb⟩

theorem areLists5 (p : PodD) (w w2 : World) (h : p.ok w) (hb : Below w.heap.size w w2) :
    Calls Try.prog 38 #[.slice (some ⟨w2.heap.size, 0, none⟩) 5 5] (w2.alloc (.cells #[.slice p.labels.a p.labels.L.length p.labels.cap, .slice p.select.a p.select.L.length p.select.cap, .slice p.bears.a p.bears.L.length p.bears.cap, .slice p.near.a p.near.L.length p.near.cap, .slice p.apart.a p.apart.L.length p.apart.cap] 31))
      fun e w' => e = .returned (.bool (p.lists.all fun x => listB x.L)) ∧ Below w2.heap.size w2 w' := by
  have hW := below_trans hb (below_alloc w2 (.cells #[.slice p.labels.a p.labels.L.length p.labels.cap, .slice p.select.a p.select.L.length p.select.cap, .slice p.bears.a p.bears.L.length p.bears.cap, .slice p.near.a p.near.L.length p.near.cap, .slice p.apart.a p.apart.L.length p.apart.cap] 31))
  refine (areLists_any p.lists w2.heap.size 5 _ (fun x hx => (h.2 x hx).below hW) (by simp [PodD.lists]) (by simp) ?_).mono fun e w' ⟨he, hb'⟩ => ⟨he, below_trans (below_alloc _ _) hb'⟩
  intro k hk
  have hk' : k < 5 := hk
  rw [cell_of_block (block_alloc_new _ _)]
  match k, hk' with
  | 0, _ => rfl
  | 1, _ => rfl
  | 2, _ => rfl
  | 3, _ => rfl
  | 4, _ => rfl

theorem areLists2 (p : NodeD) (w w2 : World) (h : p.ok w) (hb : Below w.heap.size w w2) :
    Calls Try.prog 38 #[.slice (some ⟨w2.heap.size, 0, none⟩) 2 2] (w2.alloc (.cells #[.slice p.labels.a p.labels.L.length p.labels.cap, .slice p.taints.a p.taints.L.length p.taints.cap] 31))
      fun e w' => e = .returned (.bool (p.lists.all fun x => listB x.L)) ∧ Below w2.heap.size w2 w' := by
  have hW := below_trans hb (below_alloc w2 (.cells #[.slice p.labels.a p.labels.L.length p.labels.cap, .slice p.taints.a p.taints.L.length p.taints.cap] 31))
  refine (areLists_any p.lists w2.heap.size 2 _ (fun x hx => (h.2 x hx).below hW) (by simp [NodeD.lists]) (by simp) ?_).mono fun e w' ⟨he, hb'⟩ => ⟨he, below_trans (below_alloc _ _) hb'⟩
  intro k hk
  have hk' : k < 2 := hk
  rw [cell_of_block (block_alloc_new _ _)]
  match k, hk' with
  | 0, _ => rfl
  | 1, _ => rfl

set_option maxRecDepth 100000 in
set_option maxHeartbeats 400000 in
theorem check_any (p : PodD) (w : World) (h : p.ok w) : Calls Try.prog 10 #[.agg p.cells] w fun e w' => e = .returned (.int .i64 p.err) ∧ Below w.heap.size w w' := by
  have c1 := fun w => isName_any p.name w h.1
  have c2 := fun w => areAmounts_any p.n0 p.n1 p.n2 w
  unfold PodD.cells Lst.val
  cases hE : nameB p.name
  · have HE : Hid (p.err = 3) := by show p.err = 3; simp [PodD.err, PodD.good, hE]
    rw [hE] at c1
    go_enter Try.func10, Try.ntmps10
    go_wp2_with (first | (go_at_call 36; refine (c1 _).mono ?_; rintro e w' ⟨rfl, rfl⟩))
    go_ret
    exact ⟨by rw [HE.out]; rfl, below_alloc _ _⟩
  cases hE2 : amtsB p.n0 p.n1 p.n2
  · have HE : Hid (p.err = 3) := by show p.err = 3; simp [PodD.err, PodD.good, hE2]
    rw [hE] at c1
    rw [hE2] at c2
    go_enter Try.func10, Try.ntmps10
    go_wp2_with (first | (go_at_call 36; refine (c1 _).mono ?_; rintro e w' ⟨rfl, rfl⟩) | (go_at_call 37; refine (c2 _).mono ?_; rintro e w' ⟨rfl, hb'⟩))
    go_ret
    exact ⟨by rw [HE.out]; rfl, below_trans (below_alloc _ _) (by assumption)⟩
  rw [hE] at c1
  rw [hE2] at c2
  by_cases h3 : 0 ≤ p.port
  · by_cases h4 : p.port ≤ 65535
    · have c3 := fun w2 hb => areLists5 p w w2 h hb
      cases hL : p.lists.all fun x => listB x.L
      · have HE : Hid (p.err = 3) := by show p.err = 3; simp only [PodD.err, PodD.good, hL, Bool.and_false]; rfl
        rw [hL] at c3
        clear hL hE hE2
        go_enter Try.func10, Try.ntmps10
        go_wp2_with (first | (go_at_call 36; refine (c1 _).mono ?_; rintro e w' ⟨rfl, rfl⟩) | (go_at_call 37; refine (c2 _).mono ?_; rintro e w2 ⟨rfl, hb'⟩; have hc := fun o => hb'.cell (p := ⟨w.heap.size, o, none⟩) (by simp); have hz : w.heap.size + 1 ≤ w2.heap.size := by have := hb'.size; simp at this; omega) | (go_at_call 38; refine (c3 w2 (below_trans (below_alloc _ _) hb')).mono ?_; rintro e w3 ⟨rfl, hb3⟩))
        go_ret
        exact ⟨by rw [HE.out]; rfl, below_trans (below_trans (below_alloc _ _) hb') hb3⟩
      · have HE : Hid (p.err = 0) := by show p.err = 0; simp only [PodD.err, PodD.good, hL, hE, hE2, h3, h4]; rfl
        rw [hL] at c3
        clear hL hE hE2
        go_enter Try.func10, Try.ntmps10
        go_wp2_with (first | (go_at_call 36; refine (c1 _).mono ?_; rintro e w' ⟨rfl, rfl⟩) | (go_at_call 37; refine (c2 _).mono ?_; rintro e w2 ⟨rfl, hb'⟩; have hc := fun o => hb'.cell (p := ⟨w.heap.size, o, none⟩) (by simp); have hz : w.heap.size + 1 ≤ w2.heap.size := by have := hb'.size; simp at this; omega) | (go_at_call 38; refine (c3 w2 (below_trans (below_alloc _ _) hb')).mono ?_; rintro e w3 ⟨rfl, hb3⟩))
        go_ret
        exact ⟨by rw [HE.out]; rfl, below_trans (below_trans (below_alloc _ _) hb') hb3⟩
    · have HE : Hid (p.err = 3) := by show p.err = 3; simp [PodD.err, PodD.good, h4]
      clear hE hE2
      go_enter Try.func10, Try.ntmps10
      go_wp2_with (first | (go_at_call 36; refine (c1 _).mono ?_; rintro e w' ⟨rfl, rfl⟩) | (go_at_call 37; refine (c2 _).mono ?_; rintro e w2 ⟨rfl, hb'⟩; have hc := fun o => hb'.cell (p := ⟨w.heap.size, o, none⟩) (by simp); have hz : w.heap.size + 1 ≤ w2.heap.size := by have := hb'.size; simp at this; omega))
      go_ret
      exact ⟨by rw [HE.out]; rfl, below_trans (below_alloc _ _) hb'⟩
  · have HE : Hid (p.err = 3) := by show p.err = 3; simp [PodD.err, PodD.good, h3]
    clear hE hE2
    go_enter Try.func10, Try.ntmps10
    go_wp2_with (first | (go_at_call 36; refine (c1 _).mono ?_; rintro e w' ⟨rfl, rfl⟩) | (go_at_call 37; refine (c2 _).mono ?_; rintro e w2 ⟨rfl, hb'⟩; have hc := fun o => hb'.cell (p := ⟨w.heap.size, o, none⟩) (by simp); have hz : w.heap.size + 1 ≤ w2.heap.size := by have := hb'.size; simp at this; omega))
    go_ret
    exact ⟨by rw [HE.out]; rfl, below_trans (below_alloc _ _) hb'⟩

set_option maxRecDepth 100000 in
set_option maxHeartbeats 400000 in
theorem checkNode_any (p : NodeD) (w : World) (h : p.ok w) : Calls Try.prog 12 #[.agg p.cells] w fun e w' => e = .returned (.int .i64 p.err) ∧ Below w.heap.size w w' := by
  have c1 := fun w => isName_any p.name w h.1
  have c2 := fun w => areAmounts_any p.r0 p.r1 p.r2 w
  unfold NodeD.cells Lst.val
  cases hE : nameB p.name
  · have HE : Hid (p.err = 2) := by show p.err = 2; simp [NodeD.err, NodeD.good, hE]
    rw [hE] at c1
    go_enter Try.func12, Try.ntmps12
    go_wp2_with (first | (go_at_call 36; refine (c1 _).mono ?_; rintro e w' ⟨rfl, rfl⟩))
    go_ret
    exact ⟨by rw [HE.out]; rfl, below_alloc _ _⟩
  cases hE2 : amtsB p.r0 p.r1 p.r2
  · have HE : Hid (p.err = 2) := by show p.err = 2; simp [NodeD.err, NodeD.good, hE2]
    rw [hE] at c1
    rw [hE2] at c2
    go_enter Try.func12, Try.ntmps12
    go_wp2_with (first | (go_at_call 36; refine (c1 _).mono ?_; rintro e w' ⟨rfl, rfl⟩) | (go_at_call 37; refine (c2 _).mono ?_; rintro e w2 ⟨rfl, hb'⟩; have hc := fun o => hb'.cell (p := ⟨w.heap.size, o, none⟩) (by simp); have hz : w.heap.size + 1 ≤ w2.heap.size := by have := hb'.size; simp at this; omega))
    go_ret
    exact ⟨by rw [HE.out]; rfl, below_trans (below_alloc _ _) (by assumption)⟩
  rw [hE] at c1
  rw [hE2] at c2
  have c3 := fun w2 hb => areLists2 p w w2 h hb
  cases hL : p.lists.all fun x => listB x.L
  · have HE : Hid (p.err = 2) := by show p.err = 2; simp only [NodeD.err, NodeD.good, hL, Bool.and_false]; rfl
    rw [hL] at c3
    clear hL hE hE2
    go_enter Try.func12, Try.ntmps12
    go_wp2_with (first | (go_at_call 36; refine (c1 _).mono ?_; rintro e w' ⟨rfl, rfl⟩) | (go_at_call 37; refine (c2 _).mono ?_; rintro e w2 ⟨rfl, hb'⟩; have hc := fun o => hb'.cell (p := ⟨w.heap.size, o, none⟩) (by simp); have hz : w.heap.size + 1 ≤ w2.heap.size := by have := hb'.size; simp at this; omega) | (go_at_call 38; refine (c3 w2 (below_trans (below_alloc _ _) hb')).mono ?_; rintro e w3 ⟨rfl, hb3⟩))
    go_ret
    exact ⟨by rw [HE.out]; rfl, below_trans (below_trans (below_alloc _ _) hb') hb3⟩
  · have HE : Hid (p.err = 0) := by show p.err = 0; simp only [NodeD.err, NodeD.good, hL, hE, hE2]; rfl
    rw [hL] at c3
    clear hL hE hE2
    go_enter Try.func12, Try.ntmps12
    go_wp2_with (first | (go_at_call 36; refine (c1 _).mono ?_; rintro e w' ⟨rfl, rfl⟩) | (go_at_call 37; refine (c2 _).mono ?_; rintro e w2 ⟨rfl, hb'⟩; have hc := fun o => hb'.cell (p := ⟨w.heap.size, o, none⟩) (by simp); have hz : w.heap.size + 1 ≤ w2.heap.size := by have := hb'.size; simp at this; omega) | (go_at_call 38; refine (c3 w2 (below_trans (below_alloc _ _) hb')).mono ?_; rintro e w3 ⟨rfl, hb3⟩))
    go_ret
    exact ⟨by rw [HE.out]; rfl, below_trans (below_trans (below_alloc _ _) hb') hb3⟩

end Go.Proofs.Ytchddaafibjmgaa
