/-
  Plain facts for the walks: lists of labels as they lie in memory, their equality, and what it is to have every label among others.
-/
import Derived.Test.YtchddaafibjmgaaRows
import Derived.WalkKit
import Derived.WalkSpells
import Derived.WalkLawsBesides
import Derived.Deep.QuietTactic
import Derived.BigQuiet
import Derived.Laws.StructEq
namespace Go.Proofs.Ytchddaafibjmgaa
open Go.RowKit

/-- A label: its key and its value. -/
abbrev Lab : Type := ByteArray × ByteArray

/-- Two labels are the same. -/
def labEq (x y : Lab) : Bool := x.1.toList == y.1.toList && x.2.toList == y.2.toList

theorem labEq_comm (x y : Lab) : labEq x y = labEq y x := by
  unfold labEq
  rw [Bool.beq_comm (a := x.1.toList), Bool.beq_comm (a := x.2.toList)]

/-- x is among L. -/
def labHas (L : List Lab) (x : Lab) : Bool := L.any (labEq x)

/-- Each of l is among L. -/
def labFits (l L : List Lab) : Bool := l.all (labHas L)

/-- The k-th label. -/
def labAt (L : List Lab) (k : Nat) : Lab := (L[k]?).getD (ByteArray.empty, ByteArray.empty)

/-- A list of labels lies at an address, two cells a label. -/
def LabsAt (w : World) (a : Option Addr) (L : List Lab) : Prop :=
  ∀ k, k < L.length → ∃ b off, a = some ⟨b, off, none⟩ ∧ w.cell? ⟨b, off + k * 2, none⟩ = some (.string (labAt L k).1) ∧ w.cell? ⟨b, off + k * 2 + 1, none⟩ = some (.string (labAt L k).2)

theorem LabsAt.nil (w : World) (a : Option Addr) : LabsAt w a [] := fun k hk => absurd hk (by simp)

theorem LabsAt.head {w : World} {a : Option Addr} {L : List Lab} (h : LabsAt w a L) (h0 : 0 < L.length) :
    ∃ b off, a = some ⟨b, off, none⟩ ∧ ∀ k, k < L.length → w.cell? ⟨b, off + k * 2, none⟩ = some (.string (labAt L k).1) ∧ w.cell? ⟨b, off + k * 2 + 1, none⟩ = some (.string (labAt L k).2) := by
  obtain ⟨b, off, e, _⟩ := h 0 h0
  refine ⟨b, off, e, fun k hk => ?_⟩
  obtain ⟨b', off', e', h1⟩ := h k hk
  rw [e] at e'
  simp only [Option.some.injEq, Addr.mk.injEq, and_true] at e'
  obtain ⟨rfl, rfl⟩ := e'
  exact h1

theorem LabsAt.below {w w' : World} {a : Option Addr} {L : List Lab} (h : LabsAt w a L) (hb : Below w.heap.size w w') : LabsAt w' a L := by
  intro k hk
  obtain ⟨b, off, e, h1, h2⟩ := h k hk
  have hl := World.block_lt_of_cell? w _ h1
  refine ⟨b, off, e, ?_, ?_⟩
  · rw [← h1]; exact hb.cell hl
  · rw [← h2]; exact hb.cell hl

theorem LabsAt.low {w : World} {a : Option Addr} {L : List Lab} (h : LabsAt w a L) (h0 : 0 < L.length) (p : Addr) (e : a = some p) : p.block < w.heap.size := by
  obtain ⟨b, off, e', h1, _⟩ := h 0 h0
  rw [e] at e'
  simp only [Option.some.injEq] at e'
  subst e'
  exact World.block_lt_of_cell? w _ h1

theorem below_alloc (w : World) (o : Obj) : Below w.heap.size w (w.alloc o) := (Below.refl _ _).alloc (Nat.le_refl _) _

/-- Nothing old turns in two steps. -/
theorem below_trans {a b c : World} (h : Below a.heap.size a b) (k : Below b.heap.size b c) : Below a.heap.size a c := h.trans (k.mono h.size)

theorem labHas_take {L : List Lab} {x : Lab} {k : Nat} (hk : k < L.length) : labHas (L.take (k + 1)) x = (labHas (L.take k) x || labEq x (labAt L k)) := by
  unfold labHas labAt
  rw [List.take_succ_eq_append_getElem hk, List.any_append, List.getElem?_eq_getElem hk]
  simp only [List.any_cons, List.any_nil, Bool.or_false, Option.getD_some]

theorem labFits_take {l L : List Lab} {k : Nat} (hk : k < l.length) : labFits (l.take (k + 1)) L = (labFits (l.take k) L && labHas L (labAt l k)) := by
  unfold labFits labAt
  rw [List.take_succ_eq_append_getElem hk, List.all_append, List.getElem?_eq_getElem hk]
  simp only [List.all_cons, List.all_nil, Bool.and_true, Option.getD_some]

theorem labHas_of_at {L : List Lab} {x : Lab} {k : Nat} (hk : k < L.length) (h : labEq x (labAt L k) = true) : labHas L x = true := by
  unfold labHas
  rw [List.any_eq_true]
  refine ⟨labAt L k, ?_, h⟩
  unfold labAt
  rw [List.getElem?_eq_getElem hk]
  exact List.getElem_mem hk

theorem labFits_of_at {l L : List Lab} {k : Nat} (hk : k < l.length) (h : labHas L (labAt l k) = false) : labFits l L = false := by
  unfold labFits
  rw [List.all_eq_false]
  refine ⟨labAt l k, ?_, by simp [h]⟩
  unfold labAt
  rw [List.getElem?_eq_getElem hk]
  exact List.getElem_mem hk

/-- The two types of labels, compared by the program's own '=='. -/
theorem eql_api (a b c d : ByteArray) (w : World) : (binOp .eql 51 (.agg #[.string a, .string b]) (.agg #[.string c, .string d])).run Try.prog w = .ok (.bool (labEq (a, b) (c, d))) w := by
  have u9 := Try.underlying9
  have a9 := Try.isAgg9
  have z9 := Try.sizeOf9
  have hS : Try.prog.underlying 51 = some (.struct (Try.prog.fieldsOf 51)) := by kernel_rfl
  have hp : Try.prog.stoodInHeld 51 = false := by kernel_rfl
  rw [run_eql_struct, show (10000 : Nat) = 9999 + 1 from rfl, run_equalIn_agg w 9999 51 _ _ hS hp]
  simp only [Program.fieldsOf, Try.underlying51]
  go_simp
  unfold labEq
  by_cases h1 : a.toList = c.toList <;> by_cases h2 : b.toList = d.toList <;> simp [h1, h2]

theorem eql_ref (a b c d : ByteArray) (w : World) : (binOp .eql 92 (.agg #[.string a, .string b]) (.agg #[.string c, .string d])).run Try.prog w = .ok (.bool (labEq (a, b) (c, d))) w := by
  have u9 := Try.underlying9
  have a9 := Try.isAgg9
  have z9 := Try.sizeOf9
  have hS : Try.prog.underlying 92 = some (.struct (Try.prog.fieldsOf 92)) := by kernel_rfl
  have hp : Try.prog.stoodInHeld 92 = false := by kernel_rfl
  rw [run_eql_struct, show (10000 : Nat) = 9999 + 1 from rfl, run_equalIn_agg w 9999 92 _ _ hS hp]
  simp only [Program.fieldsOf, Try.underlying92]
  go_simp
  unfold labEq
  by_cases h1 : a.toList = c.toList <;> by_cases h2 : b.toList = d.toList <;> simp [h1, h2]

end Go.Proofs.Ytchddaafibjmgaa
