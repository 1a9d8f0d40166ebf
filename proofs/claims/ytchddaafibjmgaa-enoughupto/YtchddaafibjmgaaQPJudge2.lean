/-
  The program's closures over pods, and whether one of a row of pods is as they ask.
-/
import Derived.Test.YtchddaafibjmgaaQPSorted
import Derived.Test.YtchddaafibjmgaaQFits
namespace Go.Proofs.Ytchddaafibjmgaa
open Go.RowKit Go.Maps

/-- An Apart shuns a pod. -/
def shunsB (a l : List Lab) : Bool := decide (0 < a.length) && labFits a l

set_option maxRecDepth 100000 in
set_option maxHeartbeats 400000 in
theorem shuns_any (x y : Lst) (w : World) (hx : x.ok w) (hy : y.ok w) : Calls Try.prog 107 #[x.val, y.val] w fun e w' => e = .returned (.bool (shunsB x.L y.L)) ∧ Below w.heap.size w w' := by
  have c1 := fits_any x.L y.L x.a y.a x.cap y.cap w hx.1 hy.1 hx.2.2.1 hy.2.2.1
  have hl := hx.1
  unfold Lst.val
  by_cases h0 : 0 < x.L.length
  · have HE : Hid (shunsB x.L y.L = labFits x.L y.L) := by show shunsB _ _ = _; simp [shunsB, h0]
    have h0' : (0 : Int) < (x.L.length : Int) := by omega
    go_enter Try.func107, Try.ntmps107
    go_wp2_with (go_at_call 18; refine c1.mono ?_; rintro e w1 ⟨rfl, hb1⟩)
    go_ret
    exact ⟨by rw [HE.out]; rfl, hb1⟩
  · have HE : Hid (shunsB x.L y.L = false) := by show shunsB _ _ = _; simp [shunsB, h0]
    have h0' : ¬ (0 : Int) < (x.L.length : Int) := by omega
    clear h0
    go_enter Try.func107, Try.ntmps107
    go_wp2
    go_ret
    exact ⟨by rw [HE.out]; rfl, Below.refl _ _⟩

/-- A pod that was handed in lies in a box. -/
def BoxAt (w : World) (cb : Nat) (p : PodD) : Prop := w.heap[cb]? = some (.cells p.cells 33 (0, 0))

theorem BoxAt.below {w w' : World} {cb : Nat} {p : PodD} (h : BoxAt w cb p) (hb : Below w.heap.size w w') : BoxAt w' cb p := by
  unfold BoxAt at *
  rw [hb.block cb (lt_of_block h)]
  exact h

theorem BoxAt.cells {w : World} {cb : Nat} {p : PodD} (h : BoxAt w cb p) : w.cell? ⟨cb, 5, none⟩ = some (.slice p.labels.a p.labels.L.length p.labels.cap) ∧ w.cell? ⟨cb, 8, none⟩ = some (.slice p.near.a p.near.L.length p.near.cap) ∧ w.cell? ⟨cb, 9, none⟩ = some (.slice p.apart.a p.apart.L.length p.apart.cap) := by
  refine ⟨?_, ?_, ?_⟩ <;> (rw [cell_of_block h]; rfl)

section
variable {F : Nat → Prop} {w : World}

theorem PodAt.below {q : Nat} {x : LiesV} {w' : World} (h : PodAt F w q x) (hb : Below w.heap.size w w') : PodAt F w' q x := h.kept (Kept.of_below (F := noBlock) hb) (fun _ _ h => h.elim) id (fun _ h => h)

/-- A pod's lists, as they are read. -/
theorem PodAt.lists {q : Nat} {x : LiesV} (h : PodAt F w q x) : ∃ l a : Lst, l.L = x.labels ∧ a.L = x.apart ∧ l.ok w ∧ a.ok w ∧ w.cell? ⟨q, 4, none⟩ = some (.slice l.a l.L.length l.cap) ∧ w.cell? ⟨q, 5, none⟩ = some (.slice a.a a.L.length a.cap) ∧ q < w.heap.size := by
  obtain ⟨lv, av, h1, h2, ⟨b1, c1, u1, rfl, _, _, o1⟩, ⟨b2, c2, u2, rfl, _, _, o2⟩⟩ := h
  exact ⟨⟨some ⟨b1, 0, none⟩, x.labels, c1⟩, ⟨some ⟨b2, 0, none⟩, x.apart, c2⟩, rfl, rfl, o1, o2, by rw [cell_of_block h1]; rfl, by rw [cell_of_block h1]; rfl, lt_of_block h1⟩

set_option maxRecDepth 100000 in
set_option maxHeartbeats 400000 in
theorem cPort_any {q : Nat} {x : LiesV} (h : PodAt F w q x) (cb : Nat) (port : Int) (hc : w.cell? ⟨cb, 0, none⟩ = some (.int .i64 port)) :
    Calls Try.prog 103 #[.pointer (some ⟨q, 0, none⟩), .pointer (some ⟨cb, 0, none⟩)] w fun e w' => e = .returned (.bool (x.port == port)) ∧ Below w.heap.size w w' := by
  obtain ⟨-, -, -, h3, -⟩ := h.cells
  clear h
  go_enter Try.func103, Try.ntmps103
  go_wp2
  go_quiet (fail)
  go_wp2
  go_ret
  exact ⟨rfl, below_drewN (Below.refl _ _) _⟩

set_option maxRecDepth 100000 in
set_option maxHeartbeats 400000 in
theorem cNear_any {q : Nat} {x : LiesV} (h : PodAt F w q x) (cb : Nat) (p : PodD) (hp : BoxAt w cb p) (hok : p.ok w) :
    Calls Try.prog 105 #[.pointer (some ⟨q, 0, none⟩), .pointer (some ⟨cb, 0, none⟩)] w fun e w' => e = .returned (.bool (labFits p.near.L x.labels)) ∧ Below w.heap.size w w' := by
  obtain ⟨l, a, e1, -, o1, -, h4, -, hq⟩ := h.lists
  obtain ⟨-, h8, -⟩ := hp.cells
  have on := hok.2 p.near (by simp [PodD.lists])
  have hcb := lt_of_block hp
  have c1 := fun W (hb : Below w.heap.size w W) => fits_any p.near.L l.L p.near.a l.a p.near.cap l.cap W on.1 o1.1 (on.below hb).2.2.1 (o1.below hb).2.2.1
  have hdw : Below w.heap.size w w.drew := (Below.refl _ _).drew
  rw [← e1]
  clear h e1 hp
  go_enter Try.func105, Try.ntmps105
  go_wp2
  go_region_held3 (fun w' => w'.cell? ⟨q, 4, none⟩ = some (.slice l.a l.L.length l.cap) ∧ w'.cell? ⟨cb, 8, none⟩ = some (.slice p.near.a p.near.L.length p.near.cap)) (go_keep)
    (first
      | (go_at_call 18; refine (c1 _ hdw).mono ?_; rintro e w1 ⟨rfl, hb1⟩; have s1 := fun o => hb1.cell (p := ⟨q, o, none⟩) hq; have s2 := fun o => hb1.cell (p := ⟨cb, o, none⟩) hcb))
  go_wp2
  go_ret
  exact ⟨rfl, below_trans hdw hb1⟩

set_option maxRecDepth 100000 in
set_option maxHeartbeats 1000000 in
theorem cApart_any {q : Nat} {x : LiesV} (h : PodAt F w q x) (cb : Nat) (p : PodD) (hp : BoxAt w cb p) (hok : p.ok w) :
    Calls Try.prog 106 #[.pointer (some ⟨q, 0, none⟩), .pointer (some ⟨cb, 0, none⟩)] w fun e w' => e = .returned (.bool (shunsB p.apart.L x.labels || shunsB x.apart p.labels.L)) ∧ Below w.heap.size w w' := by
  obtain ⟨l, a, e1, e2, o1, o2, h4, h5, hq⟩ := h.lists
  obtain ⟨k5, k8, k9⟩ := hp.cells
  have oa := hok.2 p.apart (by simp [PodD.lists])
  have ol := hok.2 p.labels (by simp [PodD.lists])
  have hcb := lt_of_block hp
  have c1 := fun W (hb : Below w.heap.size w W) => shuns_any p.apart l W (oa.below hb) (o1.below hb)
  have c2 := fun W (hb : Below w.heap.size w W) => shuns_any a p.labels W (o2.below hb) (ol.below hb)
  have hdw : Below w.heap.size w w.drew := (Below.refl _ _).drew
  unfold Lst.val at c1 c2
  rw [← e1, ← e2]
  clear h e1 e2 hp k8
  cases hE : shunsB p.apart.L l.L
  · rw [hE] at c1
    go_enter Try.func106, Try.ntmps106
    go_wp2
    go_region_held3 (fun w' => w'.cell? ⟨q, 4, none⟩ = some (.slice l.a l.L.length l.cap) ∧ w'.cell? ⟨q, 5, none⟩ = some (.slice a.a a.L.length a.cap) ∧ w'.cell? ⟨cb, 5, none⟩ = some (.slice p.labels.a p.labels.L.length p.labels.cap) ∧ w'.cell? ⟨cb, 9, none⟩ = some (.slice p.apart.a p.apart.L.length p.apart.cap)) (go_keep)
      (first
        | (go_at_call_of 107 (Value.slice p.apart.a p.apart.L.length p.apart.cap); refine (c1 _ hdw).mono ?_; rintro e w1 ⟨rfl, hb1⟩; have s1 := fun o => hb1.cell (p := ⟨q, o, none⟩) hq; have s2 := fun o => hb1.cell (p := ⟨cb, o, none⟩) hcb; have hW1 := below_trans hdw hb1; have zq1 : q < w1.heap.size := Nat.lt_of_lt_of_le hq hb1.size; have zc1 : cb < w1.heap.size := Nat.lt_of_lt_of_le hcb hb1.size)
        | (go_at_call_of 107 (Value.slice a.a a.L.length a.cap); refine (c2 w1 hW1).mono ?_; rintro e w2 ⟨rfl, hb2⟩; have s3 := fun o => hb2.cell (p := ⟨q, o, none⟩) zq1; have s4 := fun o => hb2.cell (p := ⟨cb, o, none⟩) zc1; have hW2 := below_trans hW1 hb2))
    go_wp2
    go_ret
    exact ⟨rfl, hW2⟩
  · go_enter Try.func106, Try.ntmps106
    go_wp2
    rw [hE] at c1
    first
      | go_region_with (first
        | (go_at_call_of 107 (Value.slice p.apart.a p.apart.L.length p.apart.cap); refine (c1 _ hdw).mono ?_; rintro e w1 ⟨rfl, hb1⟩; have s1 := fun o => hb1.cell (p := ⟨q, o, none⟩) hq; have s2 := fun o => hb1.cell (p := ⟨cb, o, none⟩) hcb; have hW1 := below_trans hdw hb1))
      | fail
    all_goals go_wp2
    all_goals go_ret
    all_goals exact ⟨rfl, by assumption⟩

set_option maxRecDepth 100000 in
set_option maxHeartbeats 400000 in
theorem indexPort (xs : List (Nat × LiesV)) (f : Nat × LiesV → Bool) (ao : Option Addr) (cap cb : Nat) (hl : xs.length ≤ 100000) (hr : w.ownsRow 0 117 1 (.slice ao xs.length cap) xs.length (xs.map fun p => ptrV p.1))
    (hc : ∀ W, Below w.heap.size w W → ∀ p ∈ xs, Calls Try.prog 103 #[.pointer (some ⟨p.1, 0, none⟩), .pointer (some ⟨cb, 0, none⟩)] W fun e w' => e = .returned (.bool (f p)) ∧ Below W.heap.size W w') :
    Calls Try.prog 114 #[.slice ao xs.length cap, .func (.func 103) #[] #[.pointer (some ⟨cb, 0, none⟩)]] w fun e w' => (∃ r : Int, e = .returned (.int .i64 r) ∧ decide (0 ≤ r) = xs.any f) ∧ Below w.heap.size w w' := by
  go_enter Try.func114, Try.ntmps114
  go_wp2
  go_loopw [8] (fun i wr => ∃ k : Nat, k ≤ xs.length ∧ i = .int .i64 k ∧ Below w.heap.size w wr ∧ (xs.take k).any f = false) (fun i _ => xs.length - (intOf i).toNat)
  case atStart => exact ⟨0, Nat.zero_le _, rfl, Below.refl _ _, rfl⟩
  case round =>
    obtain ⟨k, hk, rfl, hbw, hno⟩ := hrel
    have Hno : Hid ((xs.take k).any f = false) := hno
    clear hno
    by_cases hlt : k < xs.length
    · obtain ⟨gb, rfl, hg, hcl⟩ := own_at hr (by omega)
      have hcell : wr.cell? ⟨gb, k, none⟩ = some (.pointer (some ⟨xs[k].1, 0, none⟩)) := by
        rw [hbw.cell (p := ⟨gb, k, none⟩) hg, hcl k hlt]
        simp [ptrV, hlt]
      have Htk : Hid ((xs.take (k + 1)).any f = ((xs.take k).any f || f xs[k])) := by
        show _ = _
        rw [List.take_succ_eq_append_getElem hlt, List.any_append]
        simp
      have c1 := hc wr hbw xs[k] (List.getElem_mem hlt)
      clear hcl
      cases hE : f xs[k]
      · have HE : Hid (f xs[k] = false) := hE
        rw [hE] at c1
        clear hE
        go_wp2_with (go_at_call 103; refine c1.mono ?_; rintro e w2 ⟨rfl, hb2⟩)
        go_roundw
        case rel => exact ⟨k + 1, by omega, by go_num, below_trans hbw hb2, by rw [Htk.out, Hno.out, HE.out]; rfl⟩
        case measure => simp [intOf]; omega
      · have HE : Hid (xs.any f = true) := List.any_eq_true.2 ⟨xs[k], List.getElem_mem hlt, hE⟩
        rw [hE] at c1
        clear hE
        go_wp2_with (go_at_call 103; refine c1.mono ?_; rintro e w2 ⟨rfl, hb2⟩)
        go_ret
        exact ⟨⟨k, rfl, by rw [HE.out]; simp⟩, below_trans hbw hb2⟩
    · have h0 := Hno.out
      rw [List.take_of_length_le (by omega)] at h0
      have H0 : Hid (xs.any f = false) := h0
      clear h0
      go_wp2
      go_ret
      exact ⟨⟨_, rfl, by rw [H0.out]; rfl⟩, hbw⟩

set_option maxRecDepth 100000 in
set_option maxHeartbeats 400000 in
theorem containsPort (xs : List (Nat × LiesV)) (f : Nat × LiesV → Bool) (ao : Option Addr) (cap cb : Nat) (hl : xs.length ≤ 100000) (hr : w.ownsRow 0 117 1 (.slice ao xs.length cap) xs.length (xs.map fun p => ptrV p.1))
    (hc : ∀ W, Below w.heap.size w W → ∀ p ∈ xs, Calls Try.prog 103 #[.pointer (some ⟨p.1, 0, none⟩), .pointer (some ⟨cb, 0, none⟩)] W fun e w' => e = .returned (.bool (f p)) ∧ Below W.heap.size W w') :
    Calls Try.prog 102 #[.slice ao xs.length cap, .func (.func 103) #[] #[.pointer (some ⟨cb, 0, none⟩)]] w fun e w' => e = .returned (.bool (xs.any f)) ∧ Below w.heap.size w w' := by
  have c1 := indexPort xs f ao cap cb hl hr hc
  go_enter Try.func102, Try.ntmps102
  go_wp2_with (go_at_call 114; refine c1.mono ?_; rintro e w1 ⟨⟨r, rfl, hr1⟩, hb1⟩; have Hr : Hid (decide (0 ≤ r) = xs.any f) := hr1; clear hr1)
  go_ret
  exact ⟨by rw [← Hr.out]; rfl, hb1⟩

set_option maxRecDepth 100000 in
set_option maxHeartbeats 400000 in
theorem indexNear (xs : List (Nat × LiesV)) (f : Nat × LiesV → Bool) (ao : Option Addr) (cap cb : Nat) (hl : xs.length ≤ 100000) (hr : w.ownsRow 0 117 1 (.slice ao xs.length cap) xs.length (xs.map fun p => ptrV p.1))
    (hc : ∀ W, Below w.heap.size w W → ∀ p ∈ xs, Calls Try.prog 105 #[.pointer (some ⟨p.1, 0, none⟩), .pointer (some ⟨cb, 0, none⟩)] W fun e w' => e = .returned (.bool (f p)) ∧ Below W.heap.size W w') :
    Calls Try.prog 114 #[.slice ao xs.length cap, .func (.func 105) #[] #[.pointer (some ⟨cb, 0, none⟩)]] w fun e w' => (∃ r : Int, e = .returned (.int .i64 r) ∧ decide (0 ≤ r) = xs.any f) ∧ Below w.heap.size w w' := by
  go_enter Try.func114, Try.ntmps114
  go_wp2
  go_loopw [8] (fun i wr => ∃ k : Nat, k ≤ xs.length ∧ i = .int .i64 k ∧ Below w.heap.size w wr ∧ (xs.take k).any f = false) (fun i _ => xs.length - (intOf i).toNat)
  case atStart => exact ⟨0, Nat.zero_le _, rfl, Below.refl _ _, rfl⟩
  case round =>
    obtain ⟨k, hk, rfl, hbw, hno⟩ := hrel
    have Hno : Hid ((xs.take k).any f = false) := hno
    clear hno
    by_cases hlt : k < xs.length
    · obtain ⟨gb, rfl, hg, hcl⟩ := own_at hr (by omega)
      have hcell : wr.cell? ⟨gb, k, none⟩ = some (.pointer (some ⟨xs[k].1, 0, none⟩)) := by
        rw [hbw.cell (p := ⟨gb, k, none⟩) hg, hcl k hlt]
        simp [ptrV, hlt]
      have Htk : Hid ((xs.take (k + 1)).any f = ((xs.take k).any f || f xs[k])) := by
        show _ = _
        rw [List.take_succ_eq_append_getElem hlt, List.any_append]
        simp
      have c1 := hc wr hbw xs[k] (List.getElem_mem hlt)
      clear hcl
      cases hE : f xs[k]
      · have HE : Hid (f xs[k] = false) := hE
        rw [hE] at c1
        clear hE
        go_wp2_with (go_at_call 105; refine c1.mono ?_; rintro e w2 ⟨rfl, hb2⟩)
        go_roundw
        case rel => exact ⟨k + 1, by omega, by go_num, below_trans hbw hb2, by rw [Htk.out, Hno.out, HE.out]; rfl⟩
        case measure => simp [intOf]; omega
      · have HE : Hid (xs.any f = true) := List.any_eq_true.2 ⟨xs[k], List.getElem_mem hlt, hE⟩
        rw [hE] at c1
        clear hE
        go_wp2_with (go_at_call 105; refine c1.mono ?_; rintro e w2 ⟨rfl, hb2⟩)
        go_ret
        exact ⟨⟨k, rfl, by rw [HE.out]; simp⟩, below_trans hbw hb2⟩
    · have h0 := Hno.out
      rw [List.take_of_length_le (by omega)] at h0
      have H0 : Hid (xs.any f = false) := h0
      clear h0
      go_wp2
      go_ret
      exact ⟨⟨_, rfl, by rw [H0.out]; rfl⟩, hbw⟩

set_option maxRecDepth 100000 in
set_option maxHeartbeats 400000 in
theorem containsNear (xs : List (Nat × LiesV)) (f : Nat × LiesV → Bool) (ao : Option Addr) (cap cb : Nat) (hl : xs.length ≤ 100000) (hr : w.ownsRow 0 117 1 (.slice ao xs.length cap) xs.length (xs.map fun p => ptrV p.1))
    (hc : ∀ W, Below w.heap.size w W → ∀ p ∈ xs, Calls Try.prog 105 #[.pointer (some ⟨p.1, 0, none⟩), .pointer (some ⟨cb, 0, none⟩)] W fun e w' => e = .returned (.bool (f p)) ∧ Below W.heap.size W w') :
    Calls Try.prog 102 #[.slice ao xs.length cap, .func (.func 105) #[] #[.pointer (some ⟨cb, 0, none⟩)]] w fun e w' => e = .returned (.bool (xs.any f)) ∧ Below w.heap.size w w' := by
  have c1 := indexNear xs f ao cap cb hl hr hc
  go_enter Try.func102, Try.ntmps102
  go_wp2_with (go_at_call 114; refine c1.mono ?_; rintro e w1 ⟨⟨r, rfl, hr1⟩, hb1⟩; have Hr : Hid (decide (0 ≤ r) = xs.any f) := hr1; clear hr1)
  go_ret
  exact ⟨by rw [← Hr.out]; rfl, hb1⟩

set_option maxRecDepth 100000 in
set_option maxHeartbeats 400000 in
theorem indexApart (xs : List (Nat × LiesV)) (f : Nat × LiesV → Bool) (ao : Option Addr) (cap cb : Nat) (hl : xs.length ≤ 100000) (hr : w.ownsRow 0 117 1 (.slice ao xs.length cap) xs.length (xs.map fun p => ptrV p.1))
    (hc : ∀ W, Below w.heap.size w W → ∀ p ∈ xs, Calls Try.prog 106 #[.pointer (some ⟨p.1, 0, none⟩), .pointer (some ⟨cb, 0, none⟩)] W fun e w' => e = .returned (.bool (f p)) ∧ Below W.heap.size W w') :
    Calls Try.prog 114 #[.slice ao xs.length cap, .func (.func 106) #[] #[.pointer (some ⟨cb, 0, none⟩)]] w fun e w' => (∃ r : Int, e = .returned (.int .i64 r) ∧ decide (0 ≤ r) = xs.any f) ∧ Below w.heap.size w w' := by
  go_enter Try.func114, Try.ntmps114
  go_wp2
  go_loopw [8] (fun i wr => ∃ k : Nat, k ≤ xs.length ∧ i = .int .i64 k ∧ Below w.heap.size w wr ∧ (xs.take k).any f = false) (fun i _ => xs.length - (intOf i).toNat)
  case atStart => exact ⟨0, Nat.zero_le _, rfl, Below.refl _ _, rfl⟩
  case round =>
    obtain ⟨k, hk, rfl, hbw, hno⟩ := hrel
    have Hno : Hid ((xs.take k).any f = false) := hno
    clear hno
    by_cases hlt : k < xs.length
    · obtain ⟨gb, rfl, hg, hcl⟩ := own_at hr (by omega)
      have hcell : wr.cell? ⟨gb, k, none⟩ = some (.pointer (some ⟨xs[k].1, 0, none⟩)) := by
        rw [hbw.cell (p := ⟨gb, k, none⟩) hg, hcl k hlt]
        simp [ptrV, hlt]
      have Htk : Hid ((xs.take (k + 1)).any f = ((xs.take k).any f || f xs[k])) := by
        show _ = _
        rw [List.take_succ_eq_append_getElem hlt, List.any_append]
        simp
      have c1 := hc wr hbw xs[k] (List.getElem_mem hlt)
      clear hcl
      cases hE : f xs[k]
      · have HE : Hid (f xs[k] = false) := hE
        rw [hE] at c1
        clear hE
        go_wp2_with (go_at_call 106; refine c1.mono ?_; rintro e w2 ⟨rfl, hb2⟩)
        go_roundw
        case rel => exact ⟨k + 1, by omega, by go_num, below_trans hbw hb2, by rw [Htk.out, Hno.out, HE.out]; rfl⟩
        case measure => simp [intOf]; omega
      · have HE : Hid (xs.any f = true) := List.any_eq_true.2 ⟨xs[k], List.getElem_mem hlt, hE⟩
        rw [hE] at c1
        clear hE
        go_wp2_with (go_at_call 106; refine c1.mono ?_; rintro e w2 ⟨rfl, hb2⟩)
        go_ret
        exact ⟨⟨k, rfl, by rw [HE.out]; simp⟩, below_trans hbw hb2⟩
    · have h0 := Hno.out
      rw [List.take_of_length_le (by omega)] at h0
      have H0 : Hid (xs.any f = false) := h0
      clear h0
      go_wp2
      go_ret
      exact ⟨⟨_, rfl, by rw [H0.out]; rfl⟩, hbw⟩

set_option maxRecDepth 100000 in
set_option maxHeartbeats 400000 in
theorem containsApart (xs : List (Nat × LiesV)) (f : Nat × LiesV → Bool) (ao : Option Addr) (cap cb : Nat) (hl : xs.length ≤ 100000) (hr : w.ownsRow 0 117 1 (.slice ao xs.length cap) xs.length (xs.map fun p => ptrV p.1))
    (hc : ∀ W, Below w.heap.size w W → ∀ p ∈ xs, Calls Try.prog 106 #[.pointer (some ⟨p.1, 0, none⟩), .pointer (some ⟨cb, 0, none⟩)] W fun e w' => e = .returned (.bool (f p)) ∧ Below W.heap.size W w') :
    Calls Try.prog 102 #[.slice ao xs.length cap, .func (.func 106) #[] #[.pointer (some ⟨cb, 0, none⟩)]] w fun e w' => e = .returned (.bool (xs.any f)) ∧ Below w.heap.size w w' := by
  have c1 := indexApart xs f ao cap cb hl hr hc
  go_enter Try.func102, Try.ntmps102
  go_wp2_with (go_at_call 114; refine c1.mono ?_; rintro e w1 ⟨⟨r, rfl, hr1⟩, hb1⟩; have Hr : Hid (decide (0 ≤ r) = xs.any f) := hr1; clear hr1)
  go_ret
  exact ⟨by rw [← Hr.out]; rfl, hb1⟩

set_option maxRecDepth 100000 in
set_option maxHeartbeats 400000 in
theorem hasPort_any (xs : List (Nat × LiesV)) (port : Int) (ao : Option Addr) (cap : Nat) (hl : xs.length ≤ 100000) (hr : w.ownsRow 0 117 1 (.slice ao xs.length cap) xs.length (xs.map fun p => ptrV p.1)) (hp : ∀ p ∈ xs, PodAt F w p.1 p.2) :
    Calls Try.prog 87 #[.slice ao xs.length cap, .int .i64 port] w fun e w' => e = .returned (.bool (!(port == 0) && xs.any fun p => p.2.port == port)) ∧ Below w.heap.size w w' := by
  have hW0 : Below w.heap.size w (w.alloc (.cells #[.int .i64 port] 3)) := below_alloc _ _
  have hbx : (w.alloc (.cells #[.int .i64 port] 3)).heap[w.heap.size]? = some (.cells #[.int .i64 port] 3 (0, 0)) := block_alloc_new _ _
  have c1 := containsPort (w := w.alloc (.cells #[.int .i64 port] 3)) xs (fun p => p.2.port == port) ao cap w.heap.size hl (hr.alloc _) fun W hb p hpx => cPort_any ((hp p hpx).below (below_trans hW0 hb)) w.heap.size port (by rw [hb.cell (p := ⟨w.heap.size, 0, none⟩) (by simp), cell_of_block hbx]; rfl)
  have hmf : ∀ (fn : Fn) (first cap : Array Value) (w : World), (Instr.makeFunc fn first cap).run Try.prog w = .ok (.func fn first cap) w := fun _ _ _ _ => rfl
  by_cases h0 : port = 0
  · have HE : Hid ((!(port == 0) && xs.any fun p => p.2.port == port) = false) := by show (_ && _) = false; simp [h0]
    clear c1
    subst h0
    go_enter Try.func87, Try.ntmps87
    go_wp2
    go_ret
    exact ⟨by rw [HE.out]; rfl, hW0⟩
  · have HE : Hid ((!(port == 0) && xs.any fun p => p.2.port == port) = xs.any fun p => p.2.port == port) := by show (_ && _) = _; simp [h0]
    have h0' : (port == 0) = false := by simpa using h0
    have h0'' : (port != 0) = true := by simpa using h0
    go_enter Try.func87, Try.ntmps87
    go_wp2_with (go_at_call 102; refine c1.mono ?_; rintro e w1 ⟨rfl, hb1⟩)
    go_ret
    exact ⟨by rw [HE.out]; rfl, below_trans hW0 hb1⟩

end

end Go.Proofs.Ytchddaafibjmgaa
