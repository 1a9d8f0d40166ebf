/-
  pod and node of what is lent, walked: the program's pod and node, their lists lent.
-/
import Derived.Test.YtchddaafibjmgaaQLentG
import Derived.Test.YtchddaafibjmgaaQCheckP
import Derived.Deep.RegionHeld3
import Derived.Deep.DrawnRows
namespace Go.Proofs.Ytchddaafibjmgaa
open Go.RowKit
attribute [local go_sem] Go.wp_at_zero Go.wp_at_succ

theorem LentI.start {C P : Nat → Prop} {w : World} {X : Nat} {its : List Item} (H : LentG C P w X its) (cp : ∀ k, C k → ¬ P k) (cb : ∀ k, C k → k < w.heap.size) (o o' : Obj) : LentI C P ((w.alloc o).alloc o') ((w.alloc o).alloc o') X its :=
  LentI.refl (H.kept (((Kept.refl noBlock w).alloc o).alloc o') (fun _ _ => id) (fun _ _ => id)) cp (fun k hk => by have := cb k hk; simp; omega)

theorem sent_close {C P : Nat → Prop} {w w2 W : World} {X : Nat} {its : List Item} {o o' : Obj} (hI : LentI C P ((w.alloc o).alloc o') w2 X its) (cb : ∀ k, C k → k < w.heap.size) (pb : ∀ k, P k → k < w.heap.size) (hK : Kept (fun b => b = w.heap.size + 1) w2 W) :
    LentG C (grow P w W) W X its ∧ Kept P w W := by
  have hz : w.heap.size + 2 ≤ w2.heap.size := by have := hI.kept.size; simp at this; omega
  have hz' := hK.size
  have n1 : ¬ P (w.heap.size + 1) := fun h => by have := pb _ h; omega
  refine ⟨(hI.lent.kept hK ?_ ?_).mono ?_, ?_⟩
  · rintro k hk rfl
    rcases hk with hk | ⟨hk, _⟩
    · exact n1 hk
    · simp at hk
      omega
  · rintro k hk rfl
    have := cb _ hk
    omega
  · intro k hk
    rcases hk with hk | ⟨hk, hk'⟩
    · exact .inl hk
    · simp at hk
      exact .inr ⟨by omega, by omega⟩
  · have K0 : Kept P w ((w.alloc o).alloc o') := ((Kept.refl P w).alloc o).alloc o'
    exact (K0.trans hI.kept (fun _ _ h => h)).trans hK (fun i hi e => by omega)

/-- What came of a node: the same, its lists lent. -/
def NodeD.sent (its : List Item) (p q : NodeD) : Prop := q.name = p.name ∧ q.r0 = p.r0 ∧ q.r1 = p.r1 ∧ q.r2 = p.r2 ∧ p.labels.outOf its q.labels ∧ p.taints.outOf its q.taints

set_option maxRecDepth 100000 in
set_option maxHeartbeats 1000000 in
theorem node_any (C P : Nat → Prop) (w : World) (X : Nat) (its : List Item) (p : NodeD) (H : LentG C P w X its) (cp : ∀ k, C k → ¬ P k) (cb : ∀ k, C k → k < w.heap.size) (pb : ∀ k, P k → k < w.heap.size)
    (hp : p.ok w) (hC : ∀ x ∈ p.lists, x.inC C) (hits : its.length ≤ 900) :
    Calls Try.prog 13 #[.pointer (some ⟨X, 0, none⟩), .agg p.cells] w fun e w' => ∃ q its', e = .returned (.agg q.cells) ∧ p.sent its' q ∧ LentG C (grow P w w') w' X its' ∧ Kept P w w' ∧ its'.length ≤ its.length + 2 := by
  unfold NodeD.cells Lst.val
  have hI := LentI.start H cp cb (.cells #[.string p.name, .int .i64 p.r0, .int .i64 p.r1, .int .i64 p.r2, .slice p.labels.a p.labels.L.length p.labels.cap, .slice p.taints.a p.taints.L.length p.taints.cap] 27)
    (.cells #[.string ⟨#[]⟩, .int .i64 0, .int .i64 0, .int .i64 0, .slice none 0 0, .slice none 0 0] 42)
  have hb : Below w.heap.size w ((w.alloc (.cells #[.string p.name, .int .i64 p.r0, .int .i64 p.r1, .int .i64 p.r2, .slice p.labels.a p.labels.L.length p.labels.cap, .slice p.taints.a p.taints.L.length p.taints.cap] 27)).alloc
    (.cells #[.string ⟨#[]⟩, .int .i64 0, .int .i64 0, .int .i64 0, .slice none 0 0, .slice none 0 0] 42)) := below_trans (below_alloc _ _) (below_alloc _ _)
  have hok := hp.below hb
  have ok1 := hok.2 p.labels (by simp [NodeD.lists])
  have ok2 := hok.2 p.taints (by simp [NodeD.lists])
  have hc1 := hC p.labels (by simp [NodeD.lists])
  have hc2 := hC p.taints (by simp [NodeD.lists])
  have n0 : ¬ P w.heap.size := fun h => by have := pb _ h; omega
  have n1 : ¬ P (w.heap.size + 1) := fun h => by have := pb _ h; omega
  go_enter Try.func13, Try.ntmps13
  go_wp2
  go_region_held3 (fun w' => w'.cell? ⟨w.heap.size, 0, none⟩ = some (.string p.name) ∧ w'.cell? ⟨w.heap.size, 1, none⟩ = some (.int .i64 p.r0) ∧ w'.cell? ⟨w.heap.size, 2, none⟩ = some (.int .i64 p.r1) ∧ w'.cell? ⟨w.heap.size, 3, none⟩ = some (.int .i64 p.r2) ∧
      w'.cell? ⟨w.heap.size, 4, none⟩ = some (.slice p.labels.a p.labels.L.length p.labels.cap) ∧ w'.cell? ⟨w.heap.size, 5, none⟩ = some (.slice p.taints.a p.taints.L.length p.taints.cap)) (go_keep)
    (first
      | (go_at_call_of 19 (Value.slice p.labels.a p.labels.L.length p.labels.cap); refine (lendI_any C P _ _ X its p.labels hI.drew ok1 hc1 (by omega)).mono ?_; rintro e w1 ⟨a1, cp1, its1, rfl, ho1, hI1, hn1, _⟩; obtain ⟨qa, qb⟩ := hI1.still (b := w.heap.size) (by simp; omega) n0; obtain ⟨qc, qd⟩ := hI1.still (b := w.heap.size + 1) (by simp) n1)
      | (go_at_call_of 19 (Value.slice p.taints.a p.taints.L.length p.taints.cap); refine (lendI_any C P _ _ X its1 p.taints hI1 ok2 hc2 (by omega)).mono ?_; rintro e w2 ⟨a2, cp2, its2, rfl, ho2, hI2, hn2, hs2⟩; obtain ⟨qe, qf⟩ := hI2.still (b := w.heap.size) (by simp; omega) n0; obtain ⟨qg, qh⟩ := hI2.still (b := w.heap.size + 1) (by simp) n1))
  go_wp2
  have hcl := fun W hK => sent_close (W := W) hI2 cb pb hK
  clear hI hI1 hI2 hb hok ok1 ok2 qa qb qc qd qe qf
  refine bodyPost_ret (v := .agg #[.string p.name, .int .i64 p.r0, .int .i64 p.r1, .int .i64 p.r2, .slice a1 p.labels.L.length cp1, .slice a2 p.taints.L.length cp2]) (by simp [results, Try.results13, go_sem, qg]) rfl
    ⟨⟨p.name, p.r0, p.r1, p.r2, ⟨a1, p.labels.L, cp1⟩, ⟨a2, p.taints.L, cp2⟩⟩, its2, rfl, ⟨rfl, rfl, rfl, rfl, ho1.mono hs2, ho2⟩, ?_⟩
  obtain ⟨g1, g2⟩ := hcl _ (((((((Kept.refl (fun b => b = w.heap.size + 1) w2).setCell (p := ⟨w.heap.size + 1, 0, none⟩) (fun _ => rfl) (.string p.name)).setCell (p := ⟨w.heap.size + 1, 1, none⟩) (fun _ => rfl) (.int .i64 p.r0)).setCell (p := ⟨w.heap.size + 1, 2, none⟩) (fun _ => rfl) (.int .i64 p.r1)).setCell (p := ⟨w.heap.size + 1, 3, none⟩) (fun _ => rfl) (.int .i64 p.r2)).setCell (p := ⟨w.heap.size + 1, 4, none⟩) (fun _ => rfl) (.slice a1 p.labels.L.length cp1)).setCell (p := ⟨w.heap.size + 1, 5, none⟩) (fun _ => rfl) (.slice a2 p.taints.L.length cp2))
  exact ⟨g1, g2, by omega⟩

/-- What came of a pod: the same, its lists lent. -/
def PodD.sent (its : List Item) (p q : PodD) : Prop := q.name = p.name ∧ q.n0 = p.n0 ∧ q.n1 = p.n1 ∧ q.n2 = p.n2 ∧ q.port = p.port ∧ p.labels.outOf its q.labels ∧ p.select.outOf its q.select ∧ p.bears.outOf its q.bears ∧ p.near.outOf its q.near ∧ p.apart.outOf its q.apart

set_option maxRecDepth 100000 in
set_option maxHeartbeats 2000000 in
theorem pod_any (C P : Nat → Prop) (w : World) (X : Nat) (its : List Item) (p : PodD) (H : LentG C P w X its) (cp : ∀ k, C k → ¬ P k) (cb : ∀ k, C k → k < w.heap.size) (pb : ∀ k, P k → k < w.heap.size)
    (hp : p.ok w) (hC : ∀ x ∈ p.lists, x.inC C) (hits : its.length ≤ 900) :
    Calls Try.prog 11 #[.pointer (some ⟨X, 0, none⟩), .agg p.cells] w fun e w' => ∃ q its', e = .returned (.agg q.cells) ∧ p.sent its' q ∧ LentG C (grow P w w') w' X its' ∧ Kept P w w' ∧ its'.length ≤ its.length + 5 := by
  unfold PodD.cells Lst.val
  have hI := LentI.start H cp cb (.cells #[.string p.name, .int .i64 p.n0, .int .i64 p.n1, .int .i64 p.n2, .int .i64 p.port, .slice p.labels.a p.labels.L.length p.labels.cap, .slice p.select.a p.select.L.length p.select.cap, .slice p.bears.a p.bears.L.length p.bears.cap, .slice p.near.a p.near.L.length p.near.cap, .slice p.apart.a p.apart.L.length p.apart.cap] 25)
    (.cells #[.string ⟨#[]⟩, .int .i64 0, .int .i64 0, .int .i64 0, .int .i64 0, .slice none 0 0, .slice none 0 0, .slice none 0 0, .slice none 0 0, .slice none 0 0] 33)
  have hb : Below w.heap.size w ((w.alloc (.cells #[.string p.name, .int .i64 p.n0, .int .i64 p.n1, .int .i64 p.n2, .int .i64 p.port, .slice p.labels.a p.labels.L.length p.labels.cap, .slice p.select.a p.select.L.length p.select.cap, .slice p.bears.a p.bears.L.length p.bears.cap, .slice p.near.a p.near.L.length p.near.cap, .slice p.apart.a p.apart.L.length p.apart.cap] 25)).alloc
    (.cells #[.string ⟨#[]⟩, .int .i64 0, .int .i64 0, .int .i64 0, .int .i64 0, .slice none 0 0, .slice none 0 0, .slice none 0 0, .slice none 0 0, .slice none 0 0] 33)) := below_trans (below_alloc _ _) (below_alloc _ _)
  have hok := hp.below hb
  have ok1 := hok.2 p.labels (by simp [PodD.lists])
  have hc1 := hC p.labels (by simp [PodD.lists])
  have ok2 := hok.2 p.select (by simp [PodD.lists])
  have hc2 := hC p.select (by simp [PodD.lists])
  have ok3 := hok.2 p.bears (by simp [PodD.lists])
  have hc3 := hC p.bears (by simp [PodD.lists])
  have ok4 := hok.2 p.near (by simp [PodD.lists])
  have hc4 := hC p.near (by simp [PodD.lists])
  have ok5 := hok.2 p.apart (by simp [PodD.lists])
  have hc5 := hC p.apart (by simp [PodD.lists])
  have n0 : ¬ P w.heap.size := fun h => by have := pb _ h; omega
  have n1 : ¬ P (w.heap.size + 1) := fun h => by have := pb _ h; omega
  go_enter Try.func11, Try.ntmps11
  go_wp2
  go_region_held3 (fun w' => w'.cell? ⟨w.heap.size, 0, none⟩ = some (.string p.name) ∧ w'.cell? ⟨w.heap.size, 1, none⟩ = some (.int .i64 p.n0) ∧ w'.cell? ⟨w.heap.size, 2, none⟩ = some (.int .i64 p.n1) ∧ w'.cell? ⟨w.heap.size, 3, none⟩ = some (.int .i64 p.n2) ∧ w'.cell? ⟨w.heap.size, 4, none⟩ = some (.int .i64 p.port) ∧ w'.cell? ⟨w.heap.size, 5, none⟩ = some (.slice p.labels.a p.labels.L.length p.labels.cap) ∧ w'.cell? ⟨w.heap.size, 6, none⟩ = some (.slice p.select.a p.select.L.length p.select.cap) ∧ w'.cell? ⟨w.heap.size, 7, none⟩ = some (.slice p.bears.a p.bears.L.length p.bears.cap) ∧ w'.cell? ⟨w.heap.size, 8, none⟩ = some (.slice p.near.a p.near.L.length p.near.cap) ∧ w'.cell? ⟨w.heap.size, 9, none⟩ = some (.slice p.apart.a p.apart.L.length p.apart.cap)) (go_keep)
    (first
      | (go_at_call_of 19 (Value.slice p.labels.a p.labels.L.length p.labels.cap); refine (lendI_any C P _ _ X its p.labels hI.drew ok1 hc1 (by omega)).mono ?_; rintro e w1 ⟨a1, cp1, its1, rfl, ho1, hI1, hn1, hs1⟩; obtain ⟨qa1, qb1⟩ := hI1.still (b := w.heap.size) (by simp; omega) n0; obtain ⟨qc1, qd1⟩ := hI1.still (b := w.heap.size + 1) (by simp) n1)
      | (go_at_call_of 19 (Value.slice p.select.a p.select.L.length p.select.cap); refine (lendI_any C P _ _ X its1 p.select hI1 ok2 hc2 (by omega)).mono ?_; rintro e w2 ⟨a2, cp2, its2, rfl, ho2, hI2, hn2, hs2⟩; obtain ⟨qa2, qb2⟩ := hI2.still (b := w.heap.size) (by simp; omega) n0; obtain ⟨qc2, qd2⟩ := hI2.still (b := w.heap.size + 1) (by simp) n1)
      | (go_at_call_of 19 (Value.slice p.bears.a p.bears.L.length p.bears.cap); refine (lendI_any C P _ _ X its2 p.bears hI2 ok3 hc3 (by omega)).mono ?_; rintro e w3 ⟨a3, cp3, its3, rfl, ho3, hI3, hn3, hs3⟩; obtain ⟨qa3, qb3⟩ := hI3.still (b := w.heap.size) (by simp; omega) n0; obtain ⟨qc3, qd3⟩ := hI3.still (b := w.heap.size + 1) (by simp) n1)
      | (go_at_call_of 19 (Value.slice p.near.a p.near.L.length p.near.cap); refine (lendI_any C P _ _ X its3 p.near hI3 ok4 hc4 (by omega)).mono ?_; rintro e w4 ⟨a4, cp4, its4, rfl, ho4, hI4, hn4, hs4⟩; obtain ⟨qa4, qb4⟩ := hI4.still (b := w.heap.size) (by simp; omega) n0; obtain ⟨qc4, qd4⟩ := hI4.still (b := w.heap.size + 1) (by simp) n1)
      | (go_at_call_of 19 (Value.slice p.apart.a p.apart.L.length p.apart.cap); refine (lendI_any C P _ _ X its4 p.apart hI4 ok5 hc5 (by omega)).mono ?_; rintro e w5 ⟨a5, cp5, its5, rfl, ho5, hI5, hn5, hs5⟩; obtain ⟨qa5, qb5⟩ := hI5.still (b := w.heap.size) (by simp; omega) n0; obtain ⟨qc5, qd5⟩ := hI5.still (b := w.heap.size + 1) (by simp) n1))
  go_wp2
  have hcl := fun W hK => sent_close (W := W) hI5 cb pb hK
  clear hI hI1 hI2 hI3 hI4 hI5 hb hok ok1 ok2 ok3 ok4 ok5 qa1 qb1 qa2 qb2 qa3 qb3 qa4 qb4 qa5 qb5 qc1 qd1 qc2 qd2 qc3 qd3 qc4 qd4
  refine bodyPost_ret (v := .agg #[.string p.name, .int .i64 p.n0, .int .i64 p.n1, .int .i64 p.n2, .int .i64 p.port, .slice a1 p.labels.L.length cp1, .slice a2 p.select.L.length cp2, .slice a3 p.bears.L.length cp3, .slice a4 p.near.L.length cp4, .slice a5 p.apart.L.length cp5]) (by simp [results, Try.results11, go_sem, qc5]) rfl
    ⟨⟨p.name, p.n0, p.n1, p.n2, p.port, ⟨a1, p.labels.L, cp1⟩, ⟨a2, p.select.L, cp2⟩, ⟨a3, p.bears.L, cp3⟩, ⟨a4, p.near.L, cp4⟩, ⟨a5, p.apart.L, cp5⟩⟩, its5, rfl, ⟨rfl, rfl, rfl, rfl, rfl, ((((ho1.mono hs2).mono hs3).mono hs4).mono hs5), (((ho2.mono hs3).mono hs4).mono hs5), ((ho3.mono hs4).mono hs5), (ho4.mono hs5), ho5⟩, ?_⟩
  obtain ⟨g1, g2⟩ := hcl _ (((((((((((Kept.refl (fun b => b = w.heap.size + 1) w5).setCell (p := ⟨w.heap.size + 1, 0, none⟩) (fun _ => rfl) (.string p.name)).setCell (p := ⟨w.heap.size + 1, 1, none⟩) (fun _ => rfl) (.int .i64 p.n0)).setCell (p := ⟨w.heap.size + 1, 2, none⟩) (fun _ => rfl) (.int .i64 p.n1)).setCell (p := ⟨w.heap.size + 1, 3, none⟩) (fun _ => rfl) (.int .i64 p.n2)).setCell (p := ⟨w.heap.size + 1, 4, none⟩) (fun _ => rfl) (.int .i64 p.port)).setCell (p := ⟨w.heap.size + 1, 5, none⟩) (fun _ => rfl) (.slice a1 p.labels.L.length cp1)).setCell (p := ⟨w.heap.size + 1, 6, none⟩) (fun _ => rfl) (.slice a2 p.select.L.length cp2)).setCell (p := ⟨w.heap.size + 1, 7, none⟩) (fun _ => rfl) (.slice a3 p.bears.L.length cp3)).setCell (p := ⟨w.heap.size + 1, 8, none⟩) (fun _ => rfl) (.slice a4 p.near.L.length cp4)).setCell (p := ⟨w.heap.size + 1, 9, none⟩) (fun _ => rfl) (.slice a5 p.apart.L.length cp5))
  exact ⟨g1, g2, by omega⟩

end Go.Proofs.Ytchddaafibjmgaa
