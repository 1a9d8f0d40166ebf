/-
  A pod that comes and goes leaves no trace but in what is fresh.
  What a call leaves beside a Berth: blocks, pods' lists.
-/
import Derived.Test.YtchddaafibjmgaaQK8
namespace Go.Proofs.Ytchddaafibjmgaa
open Go.RowKit Go.Maps

/-- All but what is fresh. -/
def Abs.core (a : Abs) : Abs := { a with F := [] }
/-- A reply but for what is fresh. -/
def Rep.core (r : Rep) : Rep := { r with fresh := 0 }

theorem core_eq {a b : Abs} (h : a.core = b.core) : a.hold = b.hold ∧ a.now = b.now ∧ a.N = b.N ∧ a.P = b.P ∧ a.W = b.W := by
  unfold Abs.core at h
  simp only [Abs.mk.injEq, true_and] at h
  exact h

theorem delL_putL_none {α : Type} {L : List (Bytes × α)} (hs : SortedL L) {k : Bytes} (h : getL L k = none) (v : α) : delL (putL L k v) k = L := by
  refine sortedL_ext (sortedL_delL (sortedL_putL hs k v) k) hs fun j => ?_
  by_cases e : j = k
  · subst e
    rw [getL_delL_same, h]
  · rw [getL_delL_other _ e, getL_putL_other _ _ e]

theorem admits_none {a : Abs} {k : Bytes} (h : a.admits k = 0) : getL a.P k = none := by
  unfold Abs.admits at h
  cases e : getL a.P k with
  | none => rfl
  | some x => rw [e] at h; simp at h

theorem schedErr_admits {a : Abs} {s : ByteArray} {v : PodV} (h : a.schedErr s v = 0) : a.admits (ky s) = 0 := by
  unfold Abs.schedErr at h
  split at h
  · rename_i h0; exact absurd h h0
  · exact h

/-- What is scheduled depends on all but what is fresh. -/
theorem sched_core {a b : Abs} (h : a.core = b.core) (s : ByteArray) (v : PodV) : (a.sched s v).1.core = (b.sched s v).1.core := by
  obtain ⟨_, _, h3, h4, _⟩ := core_eq h
  have he : a.schedErr s v = b.schedErr s v := by
    unfold Abs.schedErr Abs.admits
    rw [h4]
  unfold Abs.sched
  rw [he]
  split
  · rfl
  · show ({ chooseA a.N a.P v with fresh := a.F.length } : Rep).core = ({ chooseA b.N b.P v with fresh := b.F.length } : Rep).core
    rw [h3, h4]
    rfl

/-- A pod that was not scheduled leaves no trace. -/
theorem sched_none {a : Abs} (s : ByteArray) (v : PodV) (h : (a.sched s v).1.err ≠ 0) : (a.sched s v).2.core = a.core := by
  unfold Abs.sched at h ⊢
  split
  · rfl
  · rename_i h0
    rw [if_neg h0] at h
    dsimp only at h ⊢
    rw [if_neg h]
    rfl

/-- Nor one that was, and was dropped then. -/
theorem sched_drop {a : Abs} (hs : SortedL a.P) (s : ByteArray) (v : PodV) (h : (a.sched s v).1.err = 0) : ((a.sched s v).2.drop (ky s)).core = a.core ∧ (a.sched s v).2.dropErr (ky s) = 0 := by
  by_cases h0 : a.schedErr s v ≠ 0
  · unfold Abs.sched at h
    rw [if_pos h0] at h
    exact absurd h h0
  · have h0' : a.schedErr s v = 0 := by simpa using h0
    have hn := admits_none (schedErr_admits h0')
    have e : (a.sched s v).2 = ({ a with F := [] } : Abs).lay (ky s) (v.lies (chooseA a.N a.P v).node false a.now) := by
      unfold Abs.sched at h ⊢
      rw [if_neg h0] at h ⊢
      dsimp only at h ⊢
      rw [if_pos h]
    rw [e]
    have hg : getL (({ a with F := [] } : Abs).lay (ky s) (v.lies (chooseA a.N a.P v).node false a.now)).P (ky s) = some (v.lies (chooseA a.N a.P v).node false a.now) := getL_putL_same _ _ _
    refine ⟨?_, ?_⟩
    · unfold Abs.drop
      rw [hg]
      show Abs.mk a.hold a.now a.N (delL (putL a.P (ky s) (v.lies (chooseA a.N a.P v).node false a.now)) (ky s)) [] a.W = a.core
      rw [delL_putL_none hs hn]
      rfl
    · unfold Abs.dropErr
      rw [hg]
      rfl

/-- A pod tried, and taken away again. -/
def Abs.tried (a : Abs) (s : ByteArray) (v : PodV) : Abs := if (a.sched s v).1.err = 0 then (a.sched s v).2.drop (ky s) else (a.sched s v).2

theorem tried_core {a : Abs} (hs : SortedL a.P) (s : ByteArray) (v : PodV) : (a.tried s v).core = a.core := by
  unfold Abs.tried
  split
  · rename_i h; exact (sched_drop hs s v h).1
  · rename_i h; exact sched_none s v h

/-- States of two that are alike but for what is fresh. -/
theorem StAt.core {w w' : World} {a b : Abs} {a1 a2 : Option Addr} {c1 c2 : Nat} (h : a.core = b.core) (H : StAt w w' a a1 c1 a2 c2) : StAt w w' b a1 c1 a2 c2 := by
  obtain ⟨_, _, h3, h4, _⟩ := core_eq h
  obtain ⟨q1, q2, q3, q4⟩ := H
  rw [h3, h4] at q1
  rw [h4] at q2 q4
  rw [h3] at q3
  exact ⟨q1, q2, q3, q4⟩

theorem stV_core {a b : Abs} (h : a.core = b.core) (a1 : Option Addr) (c1 : Nat) (a2 : Option Addr) (c2 : Nat) : stV a a1 c1 a2 c2 = stV b a1 c1 a2 c2 := by
  obtain ⟨_, h2, h3, h4, h5⟩ := core_eq h
  unfold stV
  rw [h2, h3, h4, h5]

end Go.Proofs.Ytchddaafibjmgaa

namespace Go.Proofs.Ytchddaafibjmgaa
open Go.RowKit Go.Maps

section
variable {F F' : Nat → Prop} {w wx : World} {Y : Nat} {a : Abs}

theorem Left.blk (L : Left F w Y a F' wx) {b : Nat} {X : Obj} (h : w.heap[b]? = some X) (hn : ¬ F b) : wx.heap[b]? = some X := by rw [L.kept.block b ((Array.getElem?_eq_some_iff.1 h).1) hn]; exact h
theorem Left.off (L : Left F w Y a F' wx) {b : Nat} (hb : b < w.heap.size) (hn : ¬ F b) : ¬ F' b := fun h => by
  rcases L.less b h with h | h
  · exact hn h
  · omega
theorem podOk_kept {p : PodD} {G : Nat → Prop} (h : p.ok w) (hk : Kept G w wx) (hn : ∀ x ∈ p.lists, 0 < x.L.length → ∀ q, x.a = some q → ¬ G q.block) : p.ok wx := by
  refine ⟨h.1, fun x hx => ⟨(h.2 x hx).1, (h.2 x hx).2.1, fun k hk' => ?_, (h.2 x hx).2.2.2⟩⟩
  obtain ⟨b, off, e, h1, h2⟩ := (h.2 x hx).2.2.1 k hk'
  have hl := World.block_lt_of_cell? w _ h1
  have hg := hn x hx (by omega) _ e
  exact ⟨b, off, e, by rw [← h1]; exact hk.cell (p := ⟨b, off + k * 2, none⟩) hl hg, by rw [← h2]; exact hk.cell (p := ⟨b, off + k * 2 + 1, none⟩) hl hg⟩
theorem podOk_lt {p : PodD} (h : p.ok w) {x : Lst} (hx : x ∈ p.lists) (hl : 0 < x.L.length) {q : Addr} (hq : x.a = some q) : q.block < w.heap.size := by
  obtain ⟨b, off, e, h1, _⟩ := (h.2 x hx).2.2.1 0 hl
  rw [hq] at e
  cases e
  exact World.block_lt_of_cell? w _ h1
/-- Its lists lie apart from a Berth. -/
def PodD.off (p : PodD) (F : Nat → Prop) : Prop := ∀ x ∈ p.lists, 0 < x.L.length → ∀ q, x.a = some q → ¬ F q.block
theorem Left.podOk (L : Left F w Y a F' wx) {p : PodD} (h : p.ok w) (hn : p.off F) : p.ok wx ∧ p.off F' := ⟨podOk_kept h L.kept hn, fun x hx hl q hq => L.off (podOk_lt h hx hl hq) (hn x hx hl q hq)⟩
theorem Left.low (L : Left F w Y a F' wx) {w0 : World} (hb : Below w0.heap.size w0 w) (hF : ∀ b, F b → w0.heap.size ≤ b) : Below w0.heap.size w0 wx := hb.trans (L.kept.below hb.size fun i hi h => by have := hF i h; omega)
theorem Left.lowF (L : Left F w Y a F' wx) {w0 : World} (hb : Below w0.heap.size w0 w) (hF : ∀ b, F b → w0.heap.size ≤ b) : ∀ b, F' b → w0.heap.size ≤ b := fun b h => by
  rcases L.less b h with h | h
  · exact hF b h
  · have := hb.size; omega

end

end Go.Proofs.Ytchddaafibjmgaa
