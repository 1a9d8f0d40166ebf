/-
  Lists of labels, pods and nodes that are read: what lies in memory for them.
-/
import Derived.Test.YtchddaafibjmgaaQCheckP
import Derived.ProofKit
import Derived.OpenShut
import Derived.SizedLaws
import Derived.Deep.SlicePairs
namespace Go.Proofs.Ytchddaafibjmgaa
open Go.ChangeShapes Go.WideShapes Go.ChangeAt Go.RowKit

theorem Try.own : ownKnob Try.prog.godebug = none := by kernel_rfl
theorem Try.laidOut : laidOutB Try.prog = true := by kernel_rfl
theorem Try.cellsR : Try.prog.cellsOf 92 = 2 := by kernel_rfl
theorem Try.cellsRL : Try.prog.cellsOf 23 = 1 := by kernel_rfl
theorem Try.cellsStr : Try.prog.cellsOf 9 = 1 := by kernel_rfl
theorem Try.cellsI : Try.prog.cellsOf 3 = 1 := by kernel_rfl
theorem Try.cellsA3 : Try.prog.cellsOf 22 = 3 := by kernel_rfl
theorem Try.cellsRP : Try.prog.cellsOf 25 = 10 := by kernel_rfl
theorem Try.cellsRN : Try.prog.cellsOf 27 = 6 := by kernel_rfl
theorem Try.bytesR : Try.prog.bytesOf 92 = 32 := by kernel_rfl

theorem list3 {α : Type} {l : List α} (h : l.length = 3) : ∃ c0 c1 c2, l = [c0, c1, c2] := by
  match l, h with
  | [c0, c1, c2], _ => exact ⟨c0, c1, c2, rfl⟩
theorem list4 {α : Type} {l : List α} (h : l.length = 4) : ∃ c0 c1 c2 c3, l = [c0, c1, c2, c3] := by
  match l, h with
  | [c0, c1, c2, c3], _ => exact ⟨c0, c1, c2, c3, rfl⟩
theorem list6 {α : Type} {l : List α} (h : l.length = 6) : ∃ c0 c1 c2 c3 c4 c5, l = [c0, c1, c2, c3, c4, c5] := by
  match l, h with
  | [c0, c1, c2, c3, c4, c5], _ => exact ⟨c0, c1, c2, c3, c4, c5, rfl⟩
theorem list8 {α : Type} {l : List α} (h : l.length = 8) : ∃ c0 c1 c2 c3 c4 c5 c6 c7, l = [c0, c1, c2, c3, c4, c5, c6, c7] := by
  match l, h with
  | [c0, c1, c2, c3, c4, c5, c6, c7], _ => exact ⟨c0, c1, c2, c3, c4, c5, c6, c7, rfl⟩
theorem list10 {α : Type} {l : List α} (h : l.length = 10) : ∃ c0 c1 c2 c3 c4 c5 c6 c7 c8 c9, l = [c0, c1, c2, c3, c4, c5, c6, c7, c8, c9] := by
  match l, h with
  | [c0, c1, c2, c3, c4, c5, c6, c7, c8, c9], _ => exact ⟨c0, c1, c2, c3, c4, c5, c6, c7, c8, c9, rfl⟩

/-- Nothing that is read is beyond the form's reach. -/
def Light {H : Type} (t : TypeId) (d : DataW H) : Prop := ∀ n ∈ d.weights Try.prog t, n ≤ reachBytes

section
variable {H : Type} {enc : TypeId × Value → H} {W : World} {base fuel : Nat} {spare : Nat → Bool} {held : Bool} {cs : List Value} {x : DataW H × List MemPlace}

/-- A slice of labels that is read. -/
theorem open_lst (h : DataW.trod enc Try.prog W base spare held fuel 23 cs = some x) (hw : Light 23 x.1) : ∃ l : Lst, cs = [l.val] ∧ l.ok W := by
  rcases Deep.open_slice_pairs Try.underlying23 Try.underlying92 Try.cellsR rfl rfl Try.cellsStr Try.cellsStr h with ⟨rfl, rfl⟩ | ⟨a, len, cap, m, n, V0, V1, D0, D1, P0, P1, rfl, _, hlc, _, hm, rfl, hx⟩
  · exact ⟨⟨none, [], 0⟩, rfl, by simp, by simp, LabsAt.nil _ _, fun x hx => by simp at hx⟩
  · have hlm : len ≤ m := by rw [hm]; split <;> omega
    have each : ∀ i, i < len → ∃ q : Lab, V0 i = .string q.1 ∧ V1 i = .string q.2 ∧ q.1.size ≤ 9223372036854775807 ∧ q.2.size ≤ 9223372036854775807 := fun i hi => by
      obtain ⟨_, _, h0, h1⟩ := hx i (by omega)
      obtain ⟨s, e, _, hs⟩ := DataW.trod_string Try.underlying9 h0
      obtain ⟨s', e', _, hs'⟩ := DataW.trod_string Try.underlying9 h1
      unfold maxLen at hs hs'
      exact ⟨(s, s'), by simpa using e, by simpa using e', by simp only; omega, by simp only; omega⟩
    obtain ⟨q, hq⟩ := Deep.choose_lt each
    have hlen : len ≤ 4398046511104 := by
      have := hw ((len + (m - len)) * 32) (by simp [DataW.weights, Try.underlying23, Try.bytesR])
      simp only [reachBytes] at this
      omega
    refine ⟨⟨some a, (List.range len).map q, cap⟩, by simp [Lst.val], by simpa using hlen, by simpa using hlc, ?_, ?_⟩
    · intro k hk
      have hk' : k < len := by simpa using hk
      obtain ⟨c0, c1, _, _⟩ := hx k (by omega)
      have hz : 0 < len := by omega
      obtain ⟨z0, _, _, _⟩ := hx 0 (by omega)
      obtain ⟨b, off, spot⟩ := a
      have hspot : spot = none := by simpa [Addr.add] using World.cell?_spot z0
      subst hspot
      rw [add_plain] at c0 c1
      have hl : labAt ((List.range len).map q) k = q k := by simp [labAt, hk']
      rw [hl]
      exact ⟨b, off, rfl, by rw [c0, (hq k hk').1], by rw [← Nat.add_assoc] at c1; rw [c1, (hq k hk').2.1]⟩
    · intro y hy
      obtain ⟨k, hk, rfl⟩ := List.mem_map.1 hy
      exact (hq k (by simpa using hk)).2.2

theorem open_three (h : DataW.trod enc Try.prog W base spare held fuel 22 cs = some x) : ∃ a b c : Int, cs = [.int .i64 a, .int .i64 b, .int .i64 c] := by
  obtain ⟨xs, m, _, _, hl, hxl, hf⟩ := DataW.trod_array Try.underlying22 h
  rw [Try.cellsA3] at hl
  obtain ⟨c0, c1, c2, rfl⟩ := list3 hl
  obtain ⟨y0, y1, y2, rfl⟩ := list3 hxl
  clear hl hxl
  have g0 := hf 0 (by omega)
  have g1 := hf 1 (by omega)
  have g2 := hf 2 (by omega)
  simp [Try.cellsI] at g0 g1 g2
  obtain ⟨a, e0, _, _⟩ := DataW.trod_int Try.underlying3 g0
  obtain ⟨b, e1, _, _⟩ := DataW.trod_int Try.underlying3 g1
  obtain ⟨c, e2, _, _⟩ := DataW.trod_int Try.underlying3 g2
  simp at e0 e1 e2
  exact ⟨a, b, c, by rw [e0, e1, e2]⟩

/-- A node that is read. -/
theorem open_node (h : DataW.trod enc Try.prog W base spare held fuel 27 cs = some x) (hw : Light 27 x.1) : ∃ n : NodeD, cs = n.cells.toList ∧ n.ok W := by
  obtain ⟨xs, m, _, rfl, hl, hxl, hf⟩ := DataW.trod_struct Try.underlying27 h
  rw [Try.cellsRN] at hl
  obtain ⟨c0, c1, c2, c3, c4, c5, rfl⟩ := list6 hl
  obtain ⟨y0, y1, y2, y3, rfl⟩ := list4 hxl
  clear hl hxl
  have g0 := hf 0 _ rfl
  have g1 := hf 1 _ rfl
  have g2 := hf 2 _ rfl
  have g3 := hf 3 _ rfl
  simp [Try.cellsStr, Try.cellsA3, Try.cellsRL] at g0 g1 g2 g3
  have w2 : Light 23 y2.1 := fun n hn => hw n (by simp [DataW.weights, Try.underlying27, DataW.weightsEach, hn])
  have w3 : Light 23 y3.1 := fun n hn => hw n (by simp [DataW.weights, Try.underlying27, DataW.weightsEach, hn])
  obtain ⟨s, e0, _, hs⟩ := DataW.trod_string Try.underlying9 g0
  obtain ⟨a, b, c, e1⟩ := open_three g1
  obtain ⟨l1, e2, o1⟩ := open_lst g2 w2
  obtain ⟨l2, e3, o2⟩ := open_lst g3 w3
  simp at e0 e1 e2 e3
  unfold maxLen at hs
  refine ⟨⟨s, a, b, c, l1, l2⟩, by simp [NodeD.cells, e0, e1, e2, e3], by simp only; omega, fun x hx => ?_⟩
  simp only [NodeD.lists, List.mem_cons, List.not_mem_nil, or_false] at hx
  rcases hx with rfl | rfl
  · exact o1
  · exact o2

/-- A pod that is read. -/
theorem open_pod (h : DataW.trod enc Try.prog W base spare held fuel 25 cs = some x) (hw : Light 25 x.1) : ∃ p : PodD, cs = p.cells.toList ∧ p.ok W := by
  obtain ⟨xs, m, _, rfl, hl, hxl, hf⟩ := DataW.trod_struct Try.underlying25 h
  rw [Try.cellsRP] at hl
  obtain ⟨c0, c1, c2, c3, c4, c5, c6, c7, c8, c9, rfl⟩ := list10 hl
  obtain ⟨y0, y1, y2, y3, y4, y5, y6, y7, rfl⟩ := list8 hxl
  clear hl hxl
  have g0 := hf 0 _ rfl
  have g1 := hf 1 _ rfl
  have g2 := hf 2 _ rfl
  have g3 := hf 3 _ rfl
  have g4 := hf 4 _ rfl
  have g5 := hf 5 _ rfl
  have g6 := hf 6 _ rfl
  have g7 := hf 7 _ rfl
  simp [Try.cellsStr, Try.cellsA3, Try.cellsRL, Try.cellsI] at g0 g1 g2 g3 g4 g5 g6 g7
  have w3 : Light 23 y3.1 := fun n hn => hw n (by simp [DataW.weights, Try.underlying25, DataW.weightsEach, hn])
  have w4 : Light 23 y4.1 := fun n hn => hw n (by simp [DataW.weights, Try.underlying25, DataW.weightsEach, hn])
  have w5 : Light 23 y5.1 := fun n hn => hw n (by simp [DataW.weights, Try.underlying25, DataW.weightsEach, hn])
  have w6 : Light 23 y6.1 := fun n hn => hw n (by simp [DataW.weights, Try.underlying25, DataW.weightsEach, hn])
  have w7 : Light 23 y7.1 := fun n hn => hw n (by simp [DataW.weights, Try.underlying25, DataW.weightsEach, hn])
  obtain ⟨s, e0, _, hs⟩ := DataW.trod_string Try.underlying9 g0
  obtain ⟨a, b, c, e1⟩ := open_three g1
  obtain ⟨pt, e2, _, _⟩ := DataW.trod_int Try.underlying3 g2
  obtain ⟨l3, e3, o3⟩ := open_lst g3 w3
  obtain ⟨l4, e4, o4⟩ := open_lst g4 w4
  obtain ⟨l5, e5, o5⟩ := open_lst g5 w5
  obtain ⟨l6, e6, o6⟩ := open_lst g6 w6
  obtain ⟨l7, e7, o7⟩ := open_lst g7 w7
  simp at e0 e1 e2 e3 e4 e5 e6 e7
  unfold maxLen at hs
  refine ⟨⟨s, a, b, c, pt, l3, l4, l5, l6, l7⟩, by simp [PodD.cells, e0, e1, e2, e3, e4, e5, e6, e7], by simp only; omega, fun x hx => ?_⟩
  simp only [PodD.lists, List.mem_cons, List.not_mem_nil, or_false] at hx
  rcases hx with rfl | rfl | rfl | rfl | rfl
  · exact o3
  · exact o4
  · exact o5
  · exact o6
  · exact o7

end
end Go.Proofs.Ytchddaafibjmgaa
