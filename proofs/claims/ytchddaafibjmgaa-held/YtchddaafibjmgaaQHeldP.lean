/-
  Held, without memory: a pod whose time is up goes as if it had been dropped then.
-/
import Derived.Test.YtchddaafibjmgaaQA23
namespace Go.Proofs.Ytchddaafibjmgaa
open Go.RowKit Go.Maps

/-- What happens in the first phase: no Schedule, no Confirm, no time. -/
def RawD.early (r : RawD) : RawD := if r.kindI < 3 ∨ 6 < r.kindI then { r with kind := 3 } else r

theorem early_ok {r : RawD} (h : r.ok) : r.early.ok := by
  unfold RawD.early
  split
  · exact ⟨by show i64 3; unfold i64; omega, h.name, h.node, h.needs, h.flags, h.links⟩
  · exact h

theorem early_kind (r : RawD) : 3 ≤ r.early.kindI ∧ r.early.kindI ≤ 6 := by
  unfold RawD.early
  split
  · show 3 ≤ pickI 3 9 ∧ pickI 3 9 ≤ 6
    decide
  · omega

/-- All are bound, and no time has gone by. -/
structure Abs.Calm (a : Abs) (h : Int) : Prop where
  hold : a.hold = h
  now : a.now = 0
  bound : ∀ p ∈ a.P, p.2.bound = true

theorem calm_step {a : Abs} {h : Int} (C : a.Calm h) (r : RawD) : (r.early.happen a).2.Calm h := by
  have hk := early_kind r
  unfold RawD.happen
  by_cases h3 : r.early.kindI = 3
  · rw [if_pos h3]
    unfold Abs.bind
    dsimp only
    split
    · refine ⟨C.hold, C.now, fun p hp => ?_⟩
      rcases mem_putL.1 hp with rfl | ⟨hp, _⟩
      · rfl
      · exact C.bound p hp
    · exact C
  rw [if_neg h3]
  by_cases h4 : r.early.kindI = 4
  · rw [if_pos h4]
    unfold Abs.put
    dsimp only
    split
    · exact ⟨C.hold, C.now, C.bound⟩
    · exact C
  rw [if_neg h4]
  by_cases h5 : r.early.kindI = 5
  · rw [if_pos h5]
    unfold Abs.dropN
    dsimp only
    split
    · exact ⟨C.hold, C.now, fun p hp => C.bound p (List.mem_filter.1 hp).1⟩
    · exact C
  rw [if_neg h5, if_pos (by omega)]
  unfold Abs.drop
  dsimp only
  split
  · exact ⟨C.hold, C.now, fun p hp => C.bound p (mem_delL.1 hp).1⟩
  · exact C

theorem calm_puts {a : Abs} {h : Int} (C : a.Calm h) (L : List RawD) : (putsA a L).Calm h := by
  unfold putsA
  induction L generalizing a with
  | nil => exact C
  | cons r s ih =>
    rw [List.foldl_cons]
    refine ih ?_
    unfold Abs.put
    split
    · exact ⟨C.hold, C.now, C.bound⟩
    · exact C

theorem calm_made (hold : Int) (L : List RawD) : (madeA hold L).Calm (1 + pickI hold 20) := calm_puts ⟨rfl, rfl, fun p hp => by simp [abs0] at hp⟩ L

/-- Nobody's time is up. -/
theorem tick_none {a : Abs} {n : Int} (he : a.tickErr n = 0) (h : ∀ p ∈ a.P, dueA a.hold (a.now + n) p.2 = false) : a.tick n = { a with now := a.now + n } := by
  unfold Abs.tick
  rw [if_pos he]
  have h1 : a.P.filter (fun p => !dueA a.hold (a.now + n) p.2) = a.P := List.filter_eq_self.2 fun p hp => by rw [h p hp]; rfl
  have h2 : a.P.filter (fun p => dueA a.hold (a.now + n) p.2) = [] := List.filter_eq_nil_iff.2 fun p hp => by rw [h p hp]; simp
  rw [h1, h2]
  rfl

/-- The Berth behind a Schedule that found a node, in calm times. -/
structure Abs.Holds (a : Abs) (h : Int) (b : Abs) (k : Bytes) (x : LiesV) : Prop where
  hold : b.hold = h
  now : b.now = 0
  sp : SortedL a.P
  none : getL a.P k = none
  bound : ∀ p ∈ a.P, p.2.bound = true
  P : b.P = putL a.P k x
  free : x.bound = false
  since : x.since = 0

theorem sched_holds {a : Abs} {h : Int} (C : a.Calm h) (hs : SortedL a.P) (s : ByteArray) (v : PodV) (he : (a.sched s v).1.err = 0) : a.Holds h (a.sched s v).2 (ky s) (v.lies (a.sched s v).1.node false 0) := by
  by_cases h0 : a.schedErr s v ≠ 0
  · unfold Abs.sched at he
    rw [if_pos h0] at he
    exact absurd he h0
  · have h0' : a.schedErr s v = 0 := by simpa using h0
    have hn := admits_none (schedErr_admits h0')
    have e : a.sched s v = ({ chooseA a.N a.P v with fresh := a.F.length }, ({ a with F := [] } : Abs).lay (ky s) (v.lies (chooseA a.N a.P v).node false a.now)) := by
      unfold Abs.sched at he ⊢
      rw [if_neg h0] at he ⊢
      dsimp only at he ⊢
      rw [if_pos he]
    rw [e]
    refine ⟨C.hold, C.now, hs, hn, C.bound, ?_, rfl, rfl⟩
    show putL a.P (ky s) (v.lies (chooseA a.N a.P v).node false a.now) = putL a.P (ky s) (v.lies (chooseA a.N a.P v).node false 0)
    rw [C.now]

section
variable {a b : Abs} {h : Int} {k : Bytes} {x : LiesV}

theorem Abs.Holds.get (H : a.Holds h b k x) : getL b.P k = some x := by rw [H.P]; exact getL_putL_same _ _ _

theorem Abs.Holds.mem (H : a.Holds h b k x) : ∀ p ∈ b.P, p = (k, x) ∨ p ∈ a.P := fun p hp => by
  rw [H.P] at hp
  rcases mem_putL.1 hp with rfl | ⟨hp, _⟩
  · exact .inl rfl
  · exact .inr hp

/-- One tick ahead of its end nobody goes. -/
theorem Abs.Holds.wait (H : a.Holds h b k x) (h1 : 1 ≤ h) (h2 : h ≤ 1000) : b.tickErr (h - 1) = 0 ∧ b.tick (h - 1) = { b with now := h - 1 } := by
  have he : b.tickErr (h - 1) = 0 := by
    unfold Abs.tickErr
    rw [H.now, if_neg (by omega)]
  refine ⟨he, ?_⟩
  rw [tick_none he fun p hp => ?_, H.now, Int.zero_add]
  unfold dueA
  rcases H.mem p hp with rfl | hp
  · rw [H.hold, H.now]
    dsimp only
    rw [H.since]
    simp
    intro _
    omega
  · rw [H.bound p hp]
    rfl

/-- .. then it goes as if it had been dropped. -/
theorem Abs.Holds.goes (H : a.Holds h b k x) (h1 : 1 ≤ h) (h2 : h ≤ 1000) (hf : SortedL b.F) : ({ b with now := h - 1 } : Abs).tickErr 1 = 0 ∧ (({ b with now := h - 1 } : Abs).drop k).tickErr 1 = 0 ∧ ({ b with now := h - 1 } : Abs).dropErr k = 0 ∧ ({ b with now := h - 1 } : Abs).tick 1 = (({ b with now := h - 1 } : Abs).drop k).tick 1 := by
  have hg : getL ({ b with now := h - 1 } : Abs).P k = some x := H.get
  have he : ({ b with now := h - 1 } : Abs).tickErr 1 = 0 := by
    unfold Abs.tickErr
    rw [if_neg (by dsimp only; omega)]
  have hd : ({ b with now := h - 1 } : Abs).drop k = { b with now := h - 1, P := a.P, F := putL b.F x.node () } := by
    unfold Abs.drop
    rw [hg]
    show Abs.mk _ _ _ (delL b.P k) _ _ = _
    rw [H.P, delL_putL_none H.sp H.none]
  have he' : (({ b with now := h - 1 } : Abs).drop k).tickErr 1 = 0 := by
    rw [hd]
    unfold Abs.tickErr
    rw [if_neg (by dsimp only; omega)]
  refine ⟨he, he', by unfold Abs.dropErr; rw [hg]; rfl, ?_⟩
  have hdue : ∀ p ∈ b.P, dueA b.hold (h - 1 + 1) p.2 = decide (p.1 = k) := fun p hp => by
    rcases H.mem p hp with rfl | hp'
    · unfold dueA
      dsimp only
      rw [H.free, H.since, H.hold]
      simp
    · have hk : p.1 ≠ k := fun e => by
        have := getL_none.1 H.none p hp'
        exact this e
      unfold dueA
      rw [H.bound p hp']
      simp [hk]
  rw [hd]
  rw [hd] at he'
  rw [tick_none he' fun p hp => by unfold dueA; rw [H.bound p hp]; rfl]
  unfold Abs.tick
  rw [if_pos he]
  have hP : b.P.filter (fun p => !dueA b.hold (h - 1 + 1) p.2) = a.P := by
    have e1 : b.P.filter (fun p => !dueA b.hold (h - 1 + 1) p.2) = b.P.filter fun p => !decide (p.1 = k) := List.filter_congr fun p hp => by rw [hdue p hp]
    rw [e1, H.P]
    have e2 : (putL a.P k x).filter (fun p => !decide (p.1 = k)) = delL (putL a.P k x) k := by
      unfold delL
      apply List.filter_congr
      intro p _
      by_cases e : p.1 = k <;> simp [e]
    rw [e2, delL_putL_none H.sp H.none]
  have hF : freshen b.F (b.P.filter fun p => dueA b.hold (h - 1 + 1) p.2) = putL b.F x.node () := by
    refine sortedL_ext (sorted_freshen _ hf) (sortedL_putL hf _ _) fun j => ?_
    rw [getL_freshen]
    have ha : (b.P.filter fun p => dueA b.hold (h - 1 + 1) p.2).any (fun p => p.2.node == j) = (x.node == j) := by
      rw [Bool.eq_iff_iff, List.any_eq_true]
      constructor
      · rintro ⟨p, hp, e⟩
        obtain ⟨hp1, hp2⟩ := List.mem_filter.1 hp
        rw [hdue p hp1] at hp2
        rcases H.mem p hp1 with rfl | hp'
        · exact e
        · exact absurd (by simpa using hp2) (getL_none.1 H.none p hp')
      · intro e
        exact ⟨(k, x), List.mem_filter.2 ⟨getL_mem H.get, by rw [hdue _ (getL_mem H.get)]; simp⟩, e⟩
    rw [ha]
    by_cases e : x.node = j
    · subst e
      rw [getL_putL_same]
      simp
    · have e' : (x.node == j) = false := by simpa using e
      rw [getL_putL_other _ _ (Ne.symm e), e']
      rfl
  show Abs.mk b.hold (h - 1 + 1) b.N (b.P.filter fun p => !dueA b.hold (h - 1 + 1) p.2) (freshen b.F (b.P.filter fun p => dueA b.hold (h - 1 + 1) p.2)) b.W = Abs.mk b.hold (h - 1 + 1) b.N a.P (putL b.F x.node ()) b.W
  rw [hP, hF]

/-- Confirmed it stays. -/
theorem Abs.Holds.stays (H : a.Holds h b k x) (h1 : 1 ≤ h) (h2 : h ≤ 1000) : ({ b with now := h - 1 } : Abs).confirmErr k = 0 ∧ (({ b with now := h - 1 } : Abs).confirm k).confirmErr k = 7 ∧ (({ b with now := h - 1 } : Abs).confirm k).tickErr 1 = 0 := by
  have hg : getL ({ b with now := h - 1 } : Abs).P k = some x := H.get
  refine ⟨?_, ?_, ?_⟩
  · unfold Abs.confirmErr
    rw [hg]
    show (if x.bound = true then 7 else 0) = (0 : Int)
    rw [H.free]
    rfl
  · have hg' : getL (({ b with now := h - 1 } : Abs).confirm k).P k = some { x with bound := true } := by
      show getL (b.P.map fun p => (p.1, if p.1 == k then { p.2 with bound := true } else p.2)) k = _
      rw [getL_map2 (fun (q : Bytes) (y : LiesV) => if q == k then { y with bound := true } else y) b.P k, H.get]
      simp
    unfold Abs.confirmErr
    rw [hg']
    rfl
  · unfold Abs.tickErr
    rw [if_neg (by show ¬ (_ ∨ _ ∨ 1099511627776 - (h - 1) < (1 : Int)); omega)]

end

/-- What becomes of a Berth by the first phase. -/
def earlyA (a : Abs) (S : List RawD) : Abs := S.foldl (fun a r => (r.early.happen a).2) a
theorem earlyA_succ (a : Abs) (S : List RawD) {k : Nat} (h : k < S.length) : earlyA a (S.take (k + 1)) = (S[k].early.happen (earlyA a (S.take k))).2 := by
  unfold earlyA
  rw [List.take_succ_eq_append_getElem h, List.foldl_append]
  rfl
theorem calm_early {a : Abs} {h : Int} (C : a.Calm h) (S : List RawD) : (earlyA a S).Calm h := by
  unfold earlyA
  induction S generalizing a with
  | nil => exact C
  | cons r s ih => exact ih (calm_step C r)

end Go.Proofs.Ytchddaafibjmgaa
