/-
  The law Checks, walked: for all pods and nodes it returns true.
-/
import Derived.Test.YtchddaafibjmgaaQSent
import Derived.Test.YtchddaafibjmgaaQCheckR
namespace Go.Proofs.Ytchddaafibjmgaa
open Go.RowKit
attribute [local go_sem] Go.wp_at_zero Go.wp_at_succ

theorem num_any (n : Int) (w : World) : Calls Try.prog 15 #[.int .i64 n] w fun e w' => e = .returned (.int .i64 n) ∧ w' = w := by
  go_enter Try.func15, Try.ntmps15
  go_wp2
  go_ret
  exact ⟨rfl, rfl⟩

theorem out_ok {C P : Nat → Prop} {w w' : World} {X : Nat} {its : List Item} {x y : Lst} (hx : x.ok w) (H : LentG C P w' X its) (h : x.outOf its y) : y.ok w' := by
  obtain ⟨h1, h2, h3⟩ := h
  exact ⟨by rw [h1]; exact hx.1, h2, H.labs h3, by rw [h1]; exact hx.2.2.2⟩

theorem PodD.sent.ok {C P : Nat → Prop} {w w' : World} {X : Nat} {its : List Item} {p q : PodD} (h : p.sent its q) (hp : p.ok w) (H : LentG C P w' X its) : q.ok w' ∧ q.err = p.err := by
  obtain ⟨e0, e1, e2, e3, e4, l1, l2, l3, l4, l5⟩ := h
  refine ⟨⟨by rw [e0]; exact hp.1, fun x hx => ?_⟩, ?_⟩
  · simp only [PodD.lists, List.mem_cons, List.not_mem_nil, or_false] at hx
    rcases hx with rfl | rfl | rfl | rfl | rfl
    · exact out_ok (hp.2 p.labels (by simp [PodD.lists])) H l1
    · exact out_ok (hp.2 p.select (by simp [PodD.lists])) H l2
    · exact out_ok (hp.2 p.bears (by simp [PodD.lists])) H l3
    · exact out_ok (hp.2 p.near (by simp [PodD.lists])) H l4
    · exact out_ok (hp.2 p.apart (by simp [PodD.lists])) H l5
  · have hg : q.good = p.good := by
      unfold PodD.good PodD.lists
      rw [e0, e1, e2, e3, e4]
      simp only [List.all_cons, l1.1, l2.1, l3.1, l4.1, l5.1]
    unfold PodD.err
    rw [hg]

theorem NodeD.sent.ok {C P : Nat → Prop} {w w' : World} {X : Nat} {its : List Item} {p q : NodeD} (h : p.sent its q) (hp : p.ok w) (H : LentG C P w' X its) : q.ok w' ∧ q.err = p.err := by
  obtain ⟨e0, e1, e2, e3, l1, l2⟩ := h
  refine ⟨⟨by rw [e0]; exact hp.1, fun x hx => ?_⟩, ?_⟩
  · simp only [NodeD.lists, List.mem_cons, List.not_mem_nil, or_false] at hx
    rcases hx with rfl | rfl
    · exact out_ok (hp.2 p.labels (by simp [NodeD.lists])) H l1
    · exact out_ok (hp.2 p.taints (by simp [NodeD.lists])) H l2
  · have hg : q.good = p.good := by
      unfold NodeD.good NodeD.lists
      rw [e0, e1, e2, e3]
      simp only [List.all_cons, l1.1, l2.1]
    unfold NodeD.err
    rw [hg]

def nilLst : Lst := ⟨none, [], 0⟩
/-- A pod of a name alone. -/
def bare (s : ByteArray) : PodD := ⟨s, 0, 0, 0, 0, nilLst, nilLst, nilLst, nilLst, nilLst⟩

theorem bare_ok (s : ByteArray) (hs : s.size ≤ 9223372036854775807) (w : World) : (bare s).ok w := by
  refine ⟨hs, fun x hx => ?_⟩
  have : x = nilLst := by simpa [bare, PodD.lists] using hx
  subst this
  exact ⟨by simp [nilLst], by simp [nilLst], LabsAt.nil _ _, fun x hx => by simp [nilLst] at hx⟩

theorem check_A (w : World) : Calls Try.prog 10 #[.agg #[.string ⟨#[65]⟩, .int .i64 0, .int .i64 0, .int .i64 0, .int .i64 0, .slice none 0 0, .slice none 0 0, .slice none 0 0, .slice none 0 0, .slice none 0 0]] w fun e w' => e = .returned (.int .i64 3) ∧ Below w.heap.size w w' :=
  (check_any (bare ⟨#[65]⟩) w (bare_ok _ (by decide) w)).mono fun _ _ ⟨he, hb⟩ => ⟨he.trans (by rw [show (bare ⟨#[65]⟩).err = 3 from by decide]), hb⟩

theorem check_a (w : World) : Calls Try.prog 10 #[.agg #[.string ⟨#[97]⟩, .int .i64 0, .int .i64 0, .int .i64 0, .int .i64 0, .slice none 0 0, .slice none 0 0, .slice none 0 0, .slice none 0 0, .slice none 0 0]] w fun e w' => e = .returned (.int .i64 0) ∧ Below w.heap.size w w' :=
  (check_any (bare ⟨#[97]⟩) w (bare_ok _ (by decide) w)).mono fun _ _ ⟨he, hb⟩ => ⟨he.trans (by rw [show (bare ⟨#[97]⟩).err = 0 from by decide]), hb⟩

set_option maxRecDepth 100000 in
set_option maxHeartbeats 1000000 in
theorem checks_any (p : PodD) (n : NodeD) (w : World) (hp : p.ok w) (hn : n.ok w) : Calls Try.prog 3 #[.agg p.cells, .agg n.cells] w fun e w' => e = .returned (.bool true) ∧ Below w.heap.size w w' := by
  have hCp : ∀ x ∈ p.lists, x.inC (· < w.heap.size) := fun x hx h0 q e => (hp.2 x hx).2.2.1.low h0 q e
  have hCn : ∀ x ∈ n.lists, x.inC (· < w.heap.size) := fun x hx h0 q e => (hn.2 x hx).2.2.1.low h0 q e
  have pA := pod_any (· < w.heap.size)
  have pN := node_any (· < w.heap.size)
  have rA := rcheck_any p
  have rN := rcheckNode_any n
  have cA := check_any
  have cN := checkNode_any
  have B0 := fun o o' => below_trans (below_alloc w o) (below_alloc (w.alloc o) o')
  unfold PodD.cells Lst.val at pA rA cA
  unfold NodeD.cells Lst.val at pN rN cN
  unfold PodD.cells NodeD.cells Lst.val
  go_enter Try.func3, Try.ntmps3
  go_wp2_with fail
  refine (check_A _).mono ?_
  rintro e w1 ⟨rfl, hb1⟩
  have r1 := fun o => hb1.cell (p := ⟨w.heap.size, o, none⟩) (by simp; omega)
  have r1' := fun o => hb1.cell (p := ⟨w.heap.size + 1, o, none⟩) (by simp)
  have z1 : w.heap.size + 2 ≤ w1.heap.size := by have := hb1.size; simpa using this
  go_wp2_with fail
  refine (check_a _).mono ?_
  rintro e w2 ⟨rfl, hb2⟩
  have r2 := fun o => hb2.cell (p := ⟨w.heap.size, o, none⟩) (by simp; omega)
  have r2' := fun o => hb2.cell (p := ⟨w.heap.size + 1, o, none⟩) (by simp; omega)
  have z2 : w.heap.size + 1 < w2.heap.size := by have := hb2.size; omega
  have z2' : w.heap.size < w2.heap.size := by omega
  go_wp2_with fail
  have hW2 := below_trans (below_trans (B0 _ _) hb1) hb2
  clear hb1 hb2 B0
  have hW3 := below_trans hW2 (below_alloc w2 (.cells #[.slice none 0 0, .slice none 0 0] 38))
  have hG3 : LentG (· < w.heap.size) (· = w2.heap.size) (w2.alloc (.cells #[.slice none 0 0, .slice none 0 0] 38)) w2.heap.size [] := LentG.init rfl
  refine (pA _ _ _ [] p hG3 (fun k h1 h2 => by omega) (fun k h => by simp; omega) (fun k h => by simp [h]) (hp.below hW3) hCp (by simp)).mono ?_
  rintro e w4 ⟨q, its1, rfl, hs1, hG4, hK4, hn1⟩
  obtain ⟨hq, hqe⟩ := hs1.ok hp hG4
  have r4 := fun o => hK4.cell (p := ⟨w.heap.size, o, none⟩) (by simp; omega) (by simp; omega)
  have r4' := fun o => hK4.cell (p := ⟨w.heap.size + 1, o, none⟩) (by simp; omega) (by simp; omega)
  have hW4 : Below w.heap.size w w4 := hW3.trans (hK4.below (by simp; omega) (fun i h1 h2 => by omega))
  have z4 : w2.heap.size + 1 ≤ w4.heap.size := by have := hK4.size; simpa using this
  have cq := cA q w4 hq
  rw [hqe] at cq
  clear hq hqe hG3 hW3 hW2 hs1 cA pA hK4
  go_wp2_with fail
  refine cq.mono ?_
  rintro e w5 ⟨rfl, hb5⟩
  have r5 := fun o => hb5.cell (p := ⟨w.heap.size, o, none⟩) (by simp; omega)
  have r5' := fun o => hb5.cell (p := ⟨w.heap.size + 1, o, none⟩) (by simp; omega)
  have hW5 := hW4.trans (hb5.mono hW4.size)
  have z5 := hb5.size
  have hG5 := hG4.kept (Kept.of_below (F := noBlock) hb5) (fun _ _ => id) (fun _ _ => id)
  clear cq hG4 hW4 hb5
  go_wp2_with fail
  refine (pN _ _ _ its1 n hG5 (fun k h1 h2 => h2.elim (fun h => by omega) (fun h => by simp at h; omega)) (fun k h => by have := hW5.size; omega) (fun k h2 => h2.elim (fun h => by omega) (fun h => by omega)) (hn.below hW5) hCn (by simp at hn1; omega)).mono ?_
  rintro e w6 ⟨q2, its2, rfl, hs2, hG6, hK6, hn2⟩
  obtain ⟨hq, hqe⟩ := hs2.ok hn hG6
  have r6 := fun o => hK6.cell (p := ⟨w.heap.size, o, none⟩) (by simp; omega) (by rintro (h | h) <;> simp at h <;> omega)
  have r6' := fun o => hK6.cell (p := ⟨w.heap.size + 1, o, none⟩) (by simp; omega) (by rintro (h | h) <;> simp at h <;> omega)
  have hW6 : Below w.heap.size w w6 := hW5.trans (hK6.below hW5.size (fun i h1 h2 => h2.elim (fun h => by omega) (fun h => by simp at h; omega)))
  have z6 := hK6.size
  have cq := cN q2 w6 hq
  rw [hqe] at cq
  clear hq hqe hs2 hG5 hW5 cN pN hK6
  go_wp2_with fail
  refine cq.mono ?_
  rintro e w7 ⟨rfl, hb7⟩
  have r7 := fun o => hb7.cell (p := ⟨w.heap.size, o, none⟩) (by simp; omega)
  have r7' := fun o => hb7.cell (p := ⟨w.heap.size + 1, o, none⟩) (by simp; omega)
  have hW7 := hW6.trans (hb7.mono hW6.size)
  have z7 := hb7.size
  have hG7 := hG6.kept (Kept.of_below (F := noBlock) hb7) (fun _ _ => id) (fun _ _ => id)
  clear cq hG6 hW6 hb7
  go_wp2_with fail
  refine (stillG_any _ _ w7 w2.heap.size its2 hG7 (by simp at hn1; omega)).mono ?_
  rintro e w8 ⟨rfl, _, hK8⟩
  have nB : ∀ b, b < w2.heap.size → ¬ grow (grow (fun x => x = w2.heap.size) (w2.alloc (.cells #[.slice none 0 0, .slice none 0 0] 38)) w4) w5 w6 b := by
    rintro b hb ((h | h) | h)
    · omega
    · simp at h; omega
    · omega
  have r8 := fun o => hK8.cell (p := ⟨w.heap.size, o, none⟩) (by simp; omega) (nB _ (by simp; omega))
  have r8' := fun o => hK8.cell (p := ⟨w.heap.size + 1, o, none⟩) (by simp; omega) (nB _ (by simp; omega))
  have hW8 : Below w.heap.size w w8 := hW7.trans (hK8.below hW7.size (fun i h1 => nB i (by omega)))
  have z8 := hK8.size
  clear hG7 hW7 nB hK8
  have d0 : w8.cell? ⟨w.heap.size, 0, none⟩ = some (.string p.name) := by rw [r8, r7, r6, r5, r4]; simp [World.cell?_alloc_past, World.cell?_alloc_at, r2, r1, z2']
  have d1 : w8.cell? ⟨w.heap.size, 1, none⟩ = some (.int .i64 p.n0) := by rw [r8, r7, r6, r5, r4]; simp [World.cell?_alloc_past, World.cell?_alloc_at, r2, r1, z2']
  have d2 : w8.cell? ⟨w.heap.size, 2, none⟩ = some (.int .i64 p.n1) := by rw [r8, r7, r6, r5, r4]; simp [World.cell?_alloc_past, World.cell?_alloc_at, r2, r1, z2']
  have d3 : w8.cell? ⟨w.heap.size, 3, none⟩ = some (.int .i64 p.n2) := by rw [r8, r7, r6, r5, r4]; simp [World.cell?_alloc_past, World.cell?_alloc_at, r2, r1, z2']
  have d4 : w8.cell? ⟨w.heap.size, 4, none⟩ = some (.int .i64 p.port) := by rw [r8, r7, r6, r5, r4]; simp [World.cell?_alloc_past, World.cell?_alloc_at, r2, r1, z2']
  have d5 : w8.cell? ⟨w.heap.size, 5, none⟩ = some (.slice p.labels.a p.labels.L.length p.labels.cap) := by rw [r8, r7, r6, r5, r4]; simp [World.cell?_alloc_past, World.cell?_alloc_at, r2, r1, z2']
  have d6 : w8.cell? ⟨w.heap.size, 6, none⟩ = some (.slice p.select.a p.select.L.length p.select.cap) := by rw [r8, r7, r6, r5, r4]; simp [World.cell?_alloc_past, World.cell?_alloc_at, r2, r1, z2']
  have d7 : w8.cell? ⟨w.heap.size, 7, none⟩ = some (.slice p.bears.a p.bears.L.length p.bears.cap) := by rw [r8, r7, r6, r5, r4]; simp [World.cell?_alloc_past, World.cell?_alloc_at, r2, r1, z2']
  have d8 : w8.cell? ⟨w.heap.size, 8, none⟩ = some (.slice p.near.a p.near.L.length p.near.cap) := by rw [r8, r7, r6, r5, r4]; simp [World.cell?_alloc_past, World.cell?_alloc_at, r2, r1, z2']
  have d9 : w8.cell? ⟨w.heap.size, 9, none⟩ = some (.slice p.apart.a p.apart.L.length p.apart.cap) := by rw [r8, r7, r6, r5, r4]; simp [World.cell?_alloc_past, World.cell?_alloc_at, r2, r1, z2']
  have f0 : w8.cell? ⟨w.heap.size + 1, 0, none⟩ = some (.string n.name) := by rw [r8', r7', r6', r5', r4']; simp [World.cell?_alloc_past, World.cell?_alloc_at, r2', r1', z2]
  have f1 : w8.cell? ⟨w.heap.size + 1, 1, none⟩ = some (.int .i64 n.r0) := by rw [r8', r7', r6', r5', r4']; simp [World.cell?_alloc_past, World.cell?_alloc_at, r2', r1', z2]
  have f2 : w8.cell? ⟨w.heap.size + 1, 2, none⟩ = some (.int .i64 n.r1) := by rw [r8', r7', r6', r5', r4']; simp [World.cell?_alloc_past, World.cell?_alloc_at, r2', r1', z2]
  have f3 : w8.cell? ⟨w.heap.size + 1, 3, none⟩ = some (.int .i64 n.r2) := by rw [r8', r7', r6', r5', r4']; simp [World.cell?_alloc_past, World.cell?_alloc_at, r2', r1', z2]
  have f4 : w8.cell? ⟨w.heap.size + 1, 4, none⟩ = some (.slice n.labels.a n.labels.L.length n.labels.cap) := by rw [r8', r7', r6', r5', r4']; simp [World.cell?_alloc_past, World.cell?_alloc_at, r2', r1', z2]
  have f5 : w8.cell? ⟨w.heap.size + 1, 5, none⟩ = some (.slice n.taints.a n.taints.L.length n.taints.cap) := by rw [r8', r7', r6', r5', r4']; simp [World.cell?_alloc_past, World.cell?_alloc_at, r2', r1', z2]
  clear r1 r1' r2 r2' r4 r4' r5 r5' r6 r6' r7 r7' r8 r8'
  go_wp2
  go_region_held3 (fun w' => w'.cell? ⟨w.heap.size, 0, none⟩ = some (.string p.name) ∧ w'.cell? ⟨w.heap.size, 1, none⟩ = some (.int .i64 p.n0) ∧ w'.cell? ⟨w.heap.size, 2, none⟩ = some (.int .i64 p.n1) ∧ w'.cell? ⟨w.heap.size, 3, none⟩ = some (.int .i64 p.n2) ∧ w'.cell? ⟨w.heap.size, 4, none⟩ = some (.int .i64 p.port) ∧ w'.cell? ⟨w.heap.size, 5, none⟩ = some (.slice p.labels.a p.labels.L.length p.labels.cap) ∧ w'.cell? ⟨w.heap.size, 6, none⟩ = some (.slice p.select.a p.select.L.length p.select.cap) ∧ w'.cell? ⟨w.heap.size, 7, none⟩ = some (.slice p.bears.a p.bears.L.length p.bears.cap) ∧ w'.cell? ⟨w.heap.size, 8, none⟩ = some (.slice p.near.a p.near.L.length p.near.cap) ∧ w'.cell? ⟨w.heap.size, 9, none⟩ = some (.slice p.apart.a p.apart.L.length p.apart.cap) ∧ w'.cell? ⟨w.heap.size + 1, 0, none⟩ = some (.string n.name) ∧ w'.cell? ⟨w.heap.size + 1, 1, none⟩ = some (.int .i64 n.r0) ∧ w'.cell? ⟨w.heap.size + 1, 2, none⟩ = some (.int .i64 n.r1) ∧ w'.cell? ⟨w.heap.size + 1, 3, none⟩ = some (.int .i64 n.r2) ∧ w'.cell? ⟨w.heap.size + 1, 4, none⟩ = some (.slice n.labels.a n.labels.L.length n.labels.cap) ∧ w'.cell? ⟨w.heap.size + 1, 5, none⟩ = some (.slice n.taints.a n.taints.L.length n.taints.cap)) (go_keep)
    (first
      | (go_at_call_of 15 (p.err); refine (num_any _ _).mono ?_; rintro e w' ⟨rfl, rfl⟩)
      | (go_at_call_of 15 (n.err); refine (num_any _ _).mono ?_; rintro e w' ⟨rfl, rfl⟩)
      | (go_at_call 16; refine (rA _ (hp.below hW8.drew)).mono ?_; rintro e w9 ⟨rfl, hb9⟩; have s9 := fun o => hb9.cell (p := ⟨w.heap.size, o, none⟩) (by simp; omega); have s9' := fun o => hb9.cell (p := ⟨w.heap.size + 1, o, none⟩) (by simp; omega); have z9 := hb9.size)
      | (go_at_call 17; refine (rN _ (hn.below (below_trans hW8.drew hb9))).mono ?_; rintro e w10 ⟨rfl, hb10⟩; have s10 := fun o => hb10.cell (p := ⟨w.heap.size, o, none⟩) (by simp at z9; simp; omega); have s10' := fun o => hb10.cell (p := ⟨w.heap.size + 1, o, none⟩) (by simp at z9; simp; omega)))
  go_wp2
  go_ret
  exact ⟨rfl, below_trans (below_trans hW8.drew hb9) hb10⟩

end Go.Proofs.Ytchddaafibjmgaa
