/-
  The document's Check and CheckNode, each walked: they answer as the program's do.
-/
import Derived.Test.YtchddaafibjmgaaQCheckP
namespace Go.Proofs.Ytchddaafibjmgaa
open Go.RowKit

set_option maxRecDepth 100000 in
set_option maxHeartbeats 1000000 in
theorem rcheck_any (p : PodD) (w : World) (h : p.ok w) : Calls Try.prog 16 #[.agg p.cells] w fun e w' => e = .returned (.int .i64 p.err) ∧ Below w.heap.size w w' := by
  have c1 := fun w => name_any p.name w h.1
  have c2 := fun w => amounts_any p.n0 p.n1 p.n2 w
  have llabels : ∀ w2, Below w.heap.size w w2 → Calls Try.prog 41 #[.slice p.labels.a p.labels.L.length p.labels.cap] w2 fun e w' => e = .returned (.bool (listB p.labels.L)) ∧ ∃ n, w' = w2.drewN n := fun w2 hb => have o := (h.2 p.labels (by simp [PodD.lists])).below hb; list_any p.labels.L p.labels.a p.labels.cap w2 o.1 o.2.2.1 o.2.2.2
  have lselect : ∀ w2, Below w.heap.size w w2 → Calls Try.prog 41 #[.slice p.select.a p.select.L.length p.select.cap] w2 fun e w' => e = .returned (.bool (listB p.select.L)) ∧ ∃ n, w' = w2.drewN n := fun w2 hb => have o := (h.2 p.select (by simp [PodD.lists])).below hb; list_any p.select.L p.select.a p.select.cap w2 o.1 o.2.2.1 o.2.2.2
  have lbears : ∀ w2, Below w.heap.size w w2 → Calls Try.prog 41 #[.slice p.bears.a p.bears.L.length p.bears.cap] w2 fun e w' => e = .returned (.bool (listB p.bears.L)) ∧ ∃ n, w' = w2.drewN n := fun w2 hb => have o := (h.2 p.bears (by simp [PodD.lists])).below hb; list_any p.bears.L p.bears.a p.bears.cap w2 o.1 o.2.2.1 o.2.2.2
  have lnear : ∀ w2, Below w.heap.size w w2 → Calls Try.prog 41 #[.slice p.near.a p.near.L.length p.near.cap] w2 fun e w' => e = .returned (.bool (listB p.near.L)) ∧ ∃ n, w' = w2.drewN n := fun w2 hb => have o := (h.2 p.near (by simp [PodD.lists])).below hb; list_any p.near.L p.near.a p.near.cap w2 o.1 o.2.2.1 o.2.2.2
  have lapart : ∀ w2, Below w.heap.size w w2 → Calls Try.prog 41 #[.slice p.apart.a p.apart.L.length p.apart.cap] w2 fun e w' => e = .returned (.bool (listB p.apart.L)) ∧ ∃ n, w' = w2.drewN n := fun w2 hb => have o := (h.2 p.apart (by simp [PodD.lists])).below hb; list_any p.apart.L p.apart.a p.apart.cap w2 o.1 o.2.2.1 o.2.2.2
  unfold PodD.cells Lst.val
  cases hE0 : nameB p.name
  · have HE : Hid (p.err = 3) := by show p.err = 3; simp [PodD.err, PodD.good, PodD.lists, hE0]
    rw [hE0] at c1
    clear hE0
    go_enter Try.func16, Try.ntmps16
    go_wp2_with (first
        | (go_at_call 39; refine (c1 _).mono ?_; rintro e w' ⟨rfl, rfl⟩)
        | (go_at_call 40; refine (c2 _).mono ?_; rintro e w2 ⟨rfl, hb'⟩; have hc := fun o => hb'.cell (p := ⟨w.heap.size, o, none⟩) (by simp); have hW : Below w.heap.size w w2 := below_trans (below_alloc _ _) hb')
        | (go_at_call_of 41 (Value.slice p.labels.a p.labels.L.length p.labels.cap); refine (llabels _ (by first | exact hW | exact below_drewN hW _)).mono ?_; rintro e w' ⟨rfl, nlabels, rfl⟩)
        | (go_at_call_of 41 (Value.slice p.select.a p.select.L.length p.select.cap); refine (lselect _ (by first | exact hW | exact below_drewN hW _)).mono ?_; rintro e w' ⟨rfl, nselect, rfl⟩)
        | (go_at_call_of 41 (Value.slice p.bears.a p.bears.L.length p.bears.cap); refine (lbears _ (by first | exact hW | exact below_drewN hW _)).mono ?_; rintro e w' ⟨rfl, nbears, rfl⟩)
        | (go_at_call_of 41 (Value.slice p.near.a p.near.L.length p.near.cap); refine (lnear _ (by first | exact hW | exact below_drewN hW _)).mono ?_; rintro e w' ⟨rfl, nnear, rfl⟩)
        | (go_at_call_of 41 (Value.slice p.apart.a p.apart.L.length p.apart.cap); refine (lapart _ (by first | exact hW | exact below_drewN hW _)).mono ?_; rintro e w' ⟨rfl, napart, rfl⟩))
    go_ret
    exact ⟨by rw [HE.out]; rfl, below_drewN hW _⟩
  cases hE1 : amtsB p.n0 p.n1 p.n2
  · have HE : Hid (p.err = 3) := by show p.err = 3; simp [PodD.err, PodD.good, PodD.lists, hE1]
    rw [hE0] at c1
    rw [hE1] at c2
    clear hE0 hE1
    go_enter Try.func16, Try.ntmps16
    go_wp2_with (first
        | (go_at_call 39; refine (c1 _).mono ?_; rintro e w' ⟨rfl, rfl⟩)
        | (go_at_call 40; refine (c2 _).mono ?_; rintro e w2 ⟨rfl, hb'⟩; have hc := fun o => hb'.cell (p := ⟨w.heap.size, o, none⟩) (by simp); have hW : Below w.heap.size w w2 := below_trans (below_alloc _ _) hb')
        | (go_at_call_of 41 (Value.slice p.labels.a p.labels.L.length p.labels.cap); refine (llabels _ (by first | exact hW | exact below_drewN hW _)).mono ?_; rintro e w' ⟨rfl, nlabels, rfl⟩)
        | (go_at_call_of 41 (Value.slice p.select.a p.select.L.length p.select.cap); refine (lselect _ (by first | exact hW | exact below_drewN hW _)).mono ?_; rintro e w' ⟨rfl, nselect, rfl⟩)
        | (go_at_call_of 41 (Value.slice p.bears.a p.bears.L.length p.bears.cap); refine (lbears _ (by first | exact hW | exact below_drewN hW _)).mono ?_; rintro e w' ⟨rfl, nbears, rfl⟩)
        | (go_at_call_of 41 (Value.slice p.near.a p.near.L.length p.near.cap); refine (lnear _ (by first | exact hW | exact below_drewN hW _)).mono ?_; rintro e w' ⟨rfl, nnear, rfl⟩)
        | (go_at_call_of 41 (Value.slice p.apart.a p.apart.L.length p.apart.cap); refine (lapart _ (by first | exact hW | exact below_drewN hW _)).mono ?_; rintro e w' ⟨rfl, napart, rfl⟩))
    go_ret
    exact ⟨by rw [HE.out]; rfl, below_drewN hW _⟩
  cases hE2 : listB p.labels.L
  · have HE : Hid (p.err = 3) := by show p.err = 3; simp [PodD.err, PodD.good, PodD.lists, hE2]
    rw [hE0] at c1
    rw [hE1] at c2
    rw [hE2] at llabels
    clear hE0 hE1 hE2
    go_enter Try.func16, Try.ntmps16
    go_wp2_with (first
        | (go_at_call 39; refine (c1 _).mono ?_; rintro e w' ⟨rfl, rfl⟩)
        | (go_at_call 40; refine (c2 _).mono ?_; rintro e w2 ⟨rfl, hb'⟩; have hc := fun o => hb'.cell (p := ⟨w.heap.size, o, none⟩) (by simp); have hW : Below w.heap.size w w2 := below_trans (below_alloc _ _) hb')
        | (go_at_call_of 41 (Value.slice p.labels.a p.labels.L.length p.labels.cap); refine (llabels _ (by first | exact hW | exact below_drewN hW _)).mono ?_; rintro e w' ⟨rfl, nlabels, rfl⟩)
        | (go_at_call_of 41 (Value.slice p.select.a p.select.L.length p.select.cap); refine (lselect _ (by first | exact hW | exact below_drewN hW _)).mono ?_; rintro e w' ⟨rfl, nselect, rfl⟩)
        | (go_at_call_of 41 (Value.slice p.bears.a p.bears.L.length p.bears.cap); refine (lbears _ (by first | exact hW | exact below_drewN hW _)).mono ?_; rintro e w' ⟨rfl, nbears, rfl⟩)
        | (go_at_call_of 41 (Value.slice p.near.a p.near.L.length p.near.cap); refine (lnear _ (by first | exact hW | exact below_drewN hW _)).mono ?_; rintro e w' ⟨rfl, nnear, rfl⟩)
        | (go_at_call_of 41 (Value.slice p.apart.a p.apart.L.length p.apart.cap); refine (lapart _ (by first | exact hW | exact below_drewN hW _)).mono ?_; rintro e w' ⟨rfl, napart, rfl⟩))
    go_ret
    exact ⟨by rw [HE.out]; rfl, below_drewN hW _⟩
  cases hE3 : listB p.select.L
  · have HE : Hid (p.err = 3) := by show p.err = 3; simp [PodD.err, PodD.good, PodD.lists, hE3]
    rw [hE0] at c1
    rw [hE1] at c2
    rw [hE2] at llabels
    rw [hE3] at lselect
    clear hE0 hE1 hE2 hE3
    go_enter Try.func16, Try.ntmps16
    go_wp2_with (first
        | (go_at_call 39; refine (c1 _).mono ?_; rintro e w' ⟨rfl, rfl⟩)
        | (go_at_call 40; refine (c2 _).mono ?_; rintro e w2 ⟨rfl, hb'⟩; have hc := fun o => hb'.cell (p := ⟨w.heap.size, o, none⟩) (by simp); have hW : Below w.heap.size w w2 := below_trans (below_alloc _ _) hb')
        | (go_at_call_of 41 (Value.slice p.labels.a p.labels.L.length p.labels.cap); refine (llabels _ (by first | exact hW | exact below_drewN hW _)).mono ?_; rintro e w' ⟨rfl, nlabels, rfl⟩)
        | (go_at_call_of 41 (Value.slice p.select.a p.select.L.length p.select.cap); refine (lselect _ (by first | exact hW | exact below_drewN hW _)).mono ?_; rintro e w' ⟨rfl, nselect, rfl⟩)
        | (go_at_call_of 41 (Value.slice p.bears.a p.bears.L.length p.bears.cap); refine (lbears _ (by first | exact hW | exact below_drewN hW _)).mono ?_; rintro e w' ⟨rfl, nbears, rfl⟩)
        | (go_at_call_of 41 (Value.slice p.near.a p.near.L.length p.near.cap); refine (lnear _ (by first | exact hW | exact below_drewN hW _)).mono ?_; rintro e w' ⟨rfl, nnear, rfl⟩)
        | (go_at_call_of 41 (Value.slice p.apart.a p.apart.L.length p.apart.cap); refine (lapart _ (by first | exact hW | exact below_drewN hW _)).mono ?_; rintro e w' ⟨rfl, napart, rfl⟩))
    go_ret
    exact ⟨by rw [HE.out]; rfl, below_drewN hW _⟩
  cases hE4 : listB p.bears.L
  · have HE : Hid (p.err = 3) := by show p.err = 3; simp [PodD.err, PodD.good, PodD.lists, hE4]
    rw [hE0] at c1
    rw [hE1] at c2
    rw [hE2] at llabels
    rw [hE3] at lselect
    rw [hE4] at lbears
    clear hE0 hE1 hE2 hE3 hE4
    go_enter Try.func16, Try.ntmps16
    go_wp2_with (first
        | (go_at_call 39; refine (c1 _).mono ?_; rintro e w' ⟨rfl, rfl⟩)
        | (go_at_call 40; refine (c2 _).mono ?_; rintro e w2 ⟨rfl, hb'⟩; have hc := fun o => hb'.cell (p := ⟨w.heap.size, o, none⟩) (by simp); have hW : Below w.heap.size w w2 := below_trans (below_alloc _ _) hb')
        | (go_at_call_of 41 (Value.slice p.labels.a p.labels.L.length p.labels.cap); refine (llabels _ (by first | exact hW | exact below_drewN hW _)).mono ?_; rintro e w' ⟨rfl, nlabels, rfl⟩)
        | (go_at_call_of 41 (Value.slice p.select.a p.select.L.length p.select.cap); refine (lselect _ (by first | exact hW | exact below_drewN hW _)).mono ?_; rintro e w' ⟨rfl, nselect, rfl⟩)
        | (go_at_call_of 41 (Value.slice p.bears.a p.bears.L.length p.bears.cap); refine (lbears _ (by first | exact hW | exact below_drewN hW _)).mono ?_; rintro e w' ⟨rfl, nbears, rfl⟩)
        | (go_at_call_of 41 (Value.slice p.near.a p.near.L.length p.near.cap); refine (lnear _ (by first | exact hW | exact below_drewN hW _)).mono ?_; rintro e w' ⟨rfl, nnear, rfl⟩)
        | (go_at_call_of 41 (Value.slice p.apart.a p.apart.L.length p.apart.cap); refine (lapart _ (by first | exact hW | exact below_drewN hW _)).mono ?_; rintro e w' ⟨rfl, napart, rfl⟩))
    go_ret
    exact ⟨by rw [HE.out]; rfl, below_drewN hW _⟩
  cases hE5 : listB p.near.L
  · have HE : Hid (p.err = 3) := by show p.err = 3; simp [PodD.err, PodD.good, PodD.lists, hE5]
    rw [hE0] at c1
    rw [hE1] at c2
    rw [hE2] at llabels
    rw [hE3] at lselect
    rw [hE4] at lbears
    rw [hE5] at lnear
    clear hE0 hE1 hE2 hE3 hE4 hE5
    go_enter Try.func16, Try.ntmps16
    go_wp2_with (first
        | (go_at_call 39; refine (c1 _).mono ?_; rintro e w' ⟨rfl, rfl⟩)
        | (go_at_call 40; refine (c2 _).mono ?_; rintro e w2 ⟨rfl, hb'⟩; have hc := fun o => hb'.cell (p := ⟨w.heap.size, o, none⟩) (by simp); have hW : Below w.heap.size w w2 := below_trans (below_alloc _ _) hb')
        | (go_at_call_of 41 (Value.slice p.labels.a p.labels.L.length p.labels.cap); refine (llabels _ (by first | exact hW | exact below_drewN hW _)).mono ?_; rintro e w' ⟨rfl, nlabels, rfl⟩)
        | (go_at_call_of 41 (Value.slice p.select.a p.select.L.length p.select.cap); refine (lselect _ (by first | exact hW | exact below_drewN hW _)).mono ?_; rintro e w' ⟨rfl, nselect, rfl⟩)
        | (go_at_call_of 41 (Value.slice p.bears.a p.bears.L.length p.bears.cap); refine (lbears _ (by first | exact hW | exact below_drewN hW _)).mono ?_; rintro e w' ⟨rfl, nbears, rfl⟩)
        | (go_at_call_of 41 (Value.slice p.near.a p.near.L.length p.near.cap); refine (lnear _ (by first | exact hW | exact below_drewN hW _)).mono ?_; rintro e w' ⟨rfl, nnear, rfl⟩)
        | (go_at_call_of 41 (Value.slice p.apart.a p.apart.L.length p.apart.cap); refine (lapart _ (by first | exact hW | exact below_drewN hW _)).mono ?_; rintro e w' ⟨rfl, napart, rfl⟩))
    go_ret
    exact ⟨by rw [HE.out]; rfl, below_drewN hW _⟩
  cases hE6 : listB p.apart.L
  · have HE : Hid (p.err = 3) := by show p.err = 3; simp [PodD.err, PodD.good, PodD.lists, hE6]
    rw [hE0] at c1
    rw [hE1] at c2
    rw [hE2] at llabels
    rw [hE3] at lselect
    rw [hE4] at lbears
    rw [hE5] at lnear
    rw [hE6] at lapart
    clear hE0 hE1 hE2 hE3 hE4 hE5 hE6
    go_enter Try.func16, Try.ntmps16
    go_wp2_with (first
        | (go_at_call 39; refine (c1 _).mono ?_; rintro e w' ⟨rfl, rfl⟩)
        | (go_at_call 40; refine (c2 _).mono ?_; rintro e w2 ⟨rfl, hb'⟩; have hc := fun o => hb'.cell (p := ⟨w.heap.size, o, none⟩) (by simp); have hW : Below w.heap.size w w2 := below_trans (below_alloc _ _) hb')
        | (go_at_call_of 41 (Value.slice p.labels.a p.labels.L.length p.labels.cap); refine (llabels _ (by first | exact hW | exact below_drewN hW _)).mono ?_; rintro e w' ⟨rfl, nlabels, rfl⟩)
        | (go_at_call_of 41 (Value.slice p.select.a p.select.L.length p.select.cap); refine (lselect _ (by first | exact hW | exact below_drewN hW _)).mono ?_; rintro e w' ⟨rfl, nselect, rfl⟩)
        | (go_at_call_of 41 (Value.slice p.bears.a p.bears.L.length p.bears.cap); refine (lbears _ (by first | exact hW | exact below_drewN hW _)).mono ?_; rintro e w' ⟨rfl, nbears, rfl⟩)
        | (go_at_call_of 41 (Value.slice p.near.a p.near.L.length p.near.cap); refine (lnear _ (by first | exact hW | exact below_drewN hW _)).mono ?_; rintro e w' ⟨rfl, nnear, rfl⟩)
        | (go_at_call_of 41 (Value.slice p.apart.a p.apart.L.length p.apart.cap); refine (lapart _ (by first | exact hW | exact below_drewN hW _)).mono ?_; rintro e w' ⟨rfl, napart, rfl⟩))
    go_ret
    exact ⟨by rw [HE.out]; rfl, below_drewN hW _⟩
  by_cases h3 : 0 ≤ p.port
  · by_cases h4 : p.port ≤ 65535
    · have HE : Hid (p.err = 0) := by show p.err = 0; simp [PodD.err, PodD.good, PodD.lists, hE0, hE1, hE2, hE3, hE4, hE5, hE6, h3, h4]
      rw [hE0] at c1
      rw [hE1] at c2
      rw [hE2] at llabels
      rw [hE3] at lselect
      rw [hE4] at lbears
      rw [hE5] at lnear
      rw [hE6] at lapart
      clear hE0 hE1 hE2 hE3 hE4 hE5 hE6
      go_enter Try.func16, Try.ntmps16
      go_wp2_with (first
        | (go_at_call 39; refine (c1 _).mono ?_; rintro e w' ⟨rfl, rfl⟩)
        | (go_at_call 40; refine (c2 _).mono ?_; rintro e w2 ⟨rfl, hb'⟩; have hc := fun o => hb'.cell (p := ⟨w.heap.size, o, none⟩) (by simp); have hW : Below w.heap.size w w2 := below_trans (below_alloc _ _) hb')
        | (go_at_call_of 41 (Value.slice p.labels.a p.labels.L.length p.labels.cap); refine (llabels _ (by first | exact hW | exact below_drewN hW _)).mono ?_; rintro e w' ⟨rfl, nlabels, rfl⟩)
        | (go_at_call_of 41 (Value.slice p.select.a p.select.L.length p.select.cap); refine (lselect _ (by first | exact hW | exact below_drewN hW _)).mono ?_; rintro e w' ⟨rfl, nselect, rfl⟩)
        | (go_at_call_of 41 (Value.slice p.bears.a p.bears.L.length p.bears.cap); refine (lbears _ (by first | exact hW | exact below_drewN hW _)).mono ?_; rintro e w' ⟨rfl, nbears, rfl⟩)
        | (go_at_call_of 41 (Value.slice p.near.a p.near.L.length p.near.cap); refine (lnear _ (by first | exact hW | exact below_drewN hW _)).mono ?_; rintro e w' ⟨rfl, nnear, rfl⟩)
        | (go_at_call_of 41 (Value.slice p.apart.a p.apart.L.length p.apart.cap); refine (lapart _ (by first | exact hW | exact below_drewN hW _)).mono ?_; rintro e w' ⟨rfl, napart, rfl⟩))
      go_ret
      exact ⟨by rw [HE.out]; rfl, below_drewN hW _⟩
    · have HE : Hid (p.err = 3) := by show p.err = 3; simp [PodD.err, PodD.good, PodD.lists, h4]
      rw [hE0] at c1
      rw [hE1] at c2
      rw [hE2] at llabels
      rw [hE3] at lselect
      rw [hE4] at lbears
      rw [hE5] at lnear
      rw [hE6] at lapart
      clear hE0 hE1 hE2 hE3 hE4 hE5 hE6
      go_enter Try.func16, Try.ntmps16
      go_wp2_with (first
        | (go_at_call 39; refine (c1 _).mono ?_; rintro e w' ⟨rfl, rfl⟩)
        | (go_at_call 40; refine (c2 _).mono ?_; rintro e w2 ⟨rfl, hb'⟩; have hc := fun o => hb'.cell (p := ⟨w.heap.size, o, none⟩) (by simp); have hW : Below w.heap.size w w2 := below_trans (below_alloc _ _) hb')
        | (go_at_call_of 41 (Value.slice p.labels.a p.labels.L.length p.labels.cap); refine (llabels _ (by first | exact hW | exact below_drewN hW _)).mono ?_; rintro e w' ⟨rfl, nlabels, rfl⟩)
        | (go_at_call_of 41 (Value.slice p.select.a p.select.L.length p.select.cap); refine (lselect _ (by first | exact hW | exact below_drewN hW _)).mono ?_; rintro e w' ⟨rfl, nselect, rfl⟩)
        | (go_at_call_of 41 (Value.slice p.bears.a p.bears.L.length p.bears.cap); refine (lbears _ (by first | exact hW | exact below_drewN hW _)).mono ?_; rintro e w' ⟨rfl, nbears, rfl⟩)
        | (go_at_call_of 41 (Value.slice p.near.a p.near.L.length p.near.cap); refine (lnear _ (by first | exact hW | exact below_drewN hW _)).mono ?_; rintro e w' ⟨rfl, nnear, rfl⟩)
        | (go_at_call_of 41 (Value.slice p.apart.a p.apart.L.length p.apart.cap); refine (lapart _ (by first | exact hW | exact below_drewN hW _)).mono ?_; rintro e w' ⟨rfl, napart, rfl⟩))
      go_ret
      exact ⟨by rw [HE.out]; rfl, below_drewN hW _⟩
  · have HE : Hid (p.err = 3) := by show p.err = 3; simp [PodD.err, PodD.good, PodD.lists, h3]
    rw [hE0] at c1
    rw [hE1] at c2
    rw [hE2] at llabels
    rw [hE3] at lselect
    rw [hE4] at lbears
    rw [hE5] at lnear
    rw [hE6] at lapart
    clear hE0 hE1 hE2 hE3 hE4 hE5 hE6
    go_enter Try.func16, Try.ntmps16
    go_wp2_with (first
        | (go_at_call 39; refine (c1 _).mono ?_; rintro e w' ⟨rfl, rfl⟩)
        | (go_at_call 40; refine (c2 _).mono ?_; rintro e w2 ⟨rfl, hb'⟩; have hc := fun o => hb'.cell (p := ⟨w.heap.size, o, none⟩) (by simp); have hW : Below w.heap.size w w2 := below_trans (below_alloc _ _) hb')
        | (go_at_call_of 41 (Value.slice p.labels.a p.labels.L.length p.labels.cap); refine (llabels _ (by first | exact hW | exact below_drewN hW _)).mono ?_; rintro e w' ⟨rfl, nlabels, rfl⟩)
        | (go_at_call_of 41 (Value.slice p.select.a p.select.L.length p.select.cap); refine (lselect _ (by first | exact hW | exact below_drewN hW _)).mono ?_; rintro e w' ⟨rfl, nselect, rfl⟩)
        | (go_at_call_of 41 (Value.slice p.bears.a p.bears.L.length p.bears.cap); refine (lbears _ (by first | exact hW | exact below_drewN hW _)).mono ?_; rintro e w' ⟨rfl, nbears, rfl⟩)
        | (go_at_call_of 41 (Value.slice p.near.a p.near.L.length p.near.cap); refine (lnear _ (by first | exact hW | exact below_drewN hW _)).mono ?_; rintro e w' ⟨rfl, nnear, rfl⟩)
        | (go_at_call_of 41 (Value.slice p.apart.a p.apart.L.length p.apart.cap); refine (lapart _ (by first | exact hW | exact below_drewN hW _)).mono ?_; rintro e w' ⟨rfl, napart, rfl⟩))
    go_ret
    exact ⟨by rw [HE.out]; rfl, below_drewN hW _⟩

set_option maxRecDepth 100000 in
set_option maxHeartbeats 1000000 in
theorem rcheckNode_any (p : NodeD) (w : World) (h : p.ok w) : Calls Try.prog 17 #[.agg p.cells] w fun e w' => e = .returned (.int .i64 p.err) ∧ Below w.heap.size w w' := by
  have c1 := fun w => name_any p.name w h.1
  have c2 := fun w => amounts_any p.r0 p.r1 p.r2 w
  have llabels : ∀ w2, Below w.heap.size w w2 → Calls Try.prog 41 #[.slice p.labels.a p.labels.L.length p.labels.cap] w2 fun e w' => e = .returned (.bool (listB p.labels.L)) ∧ ∃ n, w' = w2.drewN n := fun w2 hb => have o := (h.2 p.labels (by simp [NodeD.lists])).below hb; list_any p.labels.L p.labels.a p.labels.cap w2 o.1 o.2.2.1 o.2.2.2
  have ltaints : ∀ w2, Below w.heap.size w w2 → Calls Try.prog 41 #[.slice p.taints.a p.taints.L.length p.taints.cap] w2 fun e w' => e = .returned (.bool (listB p.taints.L)) ∧ ∃ n, w' = w2.drewN n := fun w2 hb => have o := (h.2 p.taints (by simp [NodeD.lists])).below hb; list_any p.taints.L p.taints.a p.taints.cap w2 o.1 o.2.2.1 o.2.2.2
  unfold NodeD.cells Lst.val
  cases hE0 : nameB p.name
  · have HE : Hid (p.err = 2) := by show p.err = 2; simp [NodeD.err, NodeD.good, NodeD.lists, hE0]
    rw [hE0] at c1
    clear hE0
    go_enter Try.func17, Try.ntmps17
    go_wp2_with (first
        | (go_at_call 39; refine (c1 _).mono ?_; rintro e w' ⟨rfl, rfl⟩)
        | (go_at_call 40; refine (c2 _).mono ?_; rintro e w2 ⟨rfl, hb'⟩; have hc := fun o => hb'.cell (p := ⟨w.heap.size, o, none⟩) (by simp); have hW : Below w.heap.size w w2 := below_trans (below_alloc _ _) hb')
        | (go_at_call_of 41 (Value.slice p.labels.a p.labels.L.length p.labels.cap); refine (llabels _ (by first | exact hW | exact below_drewN hW _)).mono ?_; rintro e w' ⟨rfl, nlabels, rfl⟩)
        | (go_at_call_of 41 (Value.slice p.taints.a p.taints.L.length p.taints.cap); refine (ltaints _ (by first | exact hW | exact below_drewN hW _)).mono ?_; rintro e w' ⟨rfl, ntaints, rfl⟩))
    go_ret
    exact ⟨by rw [HE.out]; rfl, below_drewN hW _⟩
  cases hE1 : amtsB p.r0 p.r1 p.r2
  · have HE : Hid (p.err = 2) := by show p.err = 2; simp [NodeD.err, NodeD.good, NodeD.lists, hE1]
    rw [hE0] at c1
    rw [hE1] at c2
    clear hE0 hE1
    go_enter Try.func17, Try.ntmps17
    go_wp2_with (first
        | (go_at_call 39; refine (c1 _).mono ?_; rintro e w' ⟨rfl, rfl⟩)
        | (go_at_call 40; refine (c2 _).mono ?_; rintro e w2 ⟨rfl, hb'⟩; have hc := fun o => hb'.cell (p := ⟨w.heap.size, o, none⟩) (by simp); have hW : Below w.heap.size w w2 := below_trans (below_alloc _ _) hb')
        | (go_at_call_of 41 (Value.slice p.labels.a p.labels.L.length p.labels.cap); refine (llabels _ (by first | exact hW | exact below_drewN hW _)).mono ?_; rintro e w' ⟨rfl, nlabels, rfl⟩)
        | (go_at_call_of 41 (Value.slice p.taints.a p.taints.L.length p.taints.cap); refine (ltaints _ (by first | exact hW | exact below_drewN hW _)).mono ?_; rintro e w' ⟨rfl, ntaints, rfl⟩))
    go_ret
    exact ⟨by rw [HE.out]; rfl, below_drewN hW _⟩
  cases hE2 : listB p.labels.L
  · have HE : Hid (p.err = 2) := by show p.err = 2; simp [NodeD.err, NodeD.good, NodeD.lists, hE2]
    rw [hE0] at c1
    rw [hE1] at c2
    rw [hE2] at llabels
    clear hE0 hE1 hE2
    go_enter Try.func17, Try.ntmps17
    go_wp2_with (first
        | (go_at_call 39; refine (c1 _).mono ?_; rintro e w' ⟨rfl, rfl⟩)
        | (go_at_call 40; refine (c2 _).mono ?_; rintro e w2 ⟨rfl, hb'⟩; have hc := fun o => hb'.cell (p := ⟨w.heap.size, o, none⟩) (by simp); have hW : Below w.heap.size w w2 := below_trans (below_alloc _ _) hb')
        | (go_at_call_of 41 (Value.slice p.labels.a p.labels.L.length p.labels.cap); refine (llabels _ (by first | exact hW | exact below_drewN hW _)).mono ?_; rintro e w' ⟨rfl, nlabels, rfl⟩)
        | (go_at_call_of 41 (Value.slice p.taints.a p.taints.L.length p.taints.cap); refine (ltaints _ (by first | exact hW | exact below_drewN hW _)).mono ?_; rintro e w' ⟨rfl, ntaints, rfl⟩))
    go_ret
    exact ⟨by rw [HE.out]; rfl, below_drewN hW _⟩
  cases hE3 : listB p.taints.L
  · have HE : Hid (p.err = 2) := by show p.err = 2; simp [NodeD.err, NodeD.good, NodeD.lists, hE3]
    rw [hE0] at c1
    rw [hE1] at c2
    rw [hE2] at llabels
    rw [hE3] at ltaints
    clear hE0 hE1 hE2 hE3
    go_enter Try.func17, Try.ntmps17
    go_wp2_with (first
        | (go_at_call 39; refine (c1 _).mono ?_; rintro e w' ⟨rfl, rfl⟩)
        | (go_at_call 40; refine (c2 _).mono ?_; rintro e w2 ⟨rfl, hb'⟩; have hc := fun o => hb'.cell (p := ⟨w.heap.size, o, none⟩) (by simp); have hW : Below w.heap.size w w2 := below_trans (below_alloc _ _) hb')
        | (go_at_call_of 41 (Value.slice p.labels.a p.labels.L.length p.labels.cap); refine (llabels _ (by first | exact hW | exact below_drewN hW _)).mono ?_; rintro e w' ⟨rfl, nlabels, rfl⟩)
        | (go_at_call_of 41 (Value.slice p.taints.a p.taints.L.length p.taints.cap); refine (ltaints _ (by first | exact hW | exact below_drewN hW _)).mono ?_; rintro e w' ⟨rfl, ntaints, rfl⟩))
    go_ret
    exact ⟨by rw [HE.out]; rfl, below_drewN hW _⟩
  have HE : Hid (p.err = 0) := by show p.err = 0; simp [NodeD.err, NodeD.good, NodeD.lists, hE0, hE1, hE2, hE3]
  rw [hE0] at c1
  rw [hE1] at c2
  rw [hE2] at llabels
  rw [hE3] at ltaints
  clear hE0 hE1 hE2 hE3
  go_enter Try.func17, Try.ntmps17
  go_wp2_with (first
        | (go_at_call 39; refine (c1 _).mono ?_; rintro e w' ⟨rfl, rfl⟩)
        | (go_at_call 40; refine (c2 _).mono ?_; rintro e w2 ⟨rfl, hb'⟩; have hc := fun o => hb'.cell (p := ⟨w.heap.size, o, none⟩) (by simp); have hW : Below w.heap.size w w2 := below_trans (below_alloc _ _) hb')
        | (go_at_call_of 41 (Value.slice p.labels.a p.labels.L.length p.labels.cap); refine (llabels _ (by first | exact hW | exact below_drewN hW _)).mono ?_; rintro e w' ⟨rfl, nlabels, rfl⟩)
        | (go_at_call_of 41 (Value.slice p.taints.a p.taints.L.length p.taints.cap); refine (ltaints _ (by first | exact hW | exact below_drewN hW _)).mono ?_; rintro e w' ⟨rfl, ntaints, rfl⟩))
  go_ret
  exact ⟨by rw [HE.out]; rfl, below_drewN hW _⟩

end Go.Proofs.Ytchddaafibjmgaa
