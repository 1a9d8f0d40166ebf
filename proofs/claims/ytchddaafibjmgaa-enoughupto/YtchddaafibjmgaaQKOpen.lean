/-
  Lists of raw numbers that are read: what lies in memory for them.
-/
import Derived.Test.YtchddaafibjmgaaQA22
import Derived.ProofKit
import Derived.OpenShut
import Derived.SizedLaws
import Derived.Deep.Slices
import Derived.Deep.SlicePairs
namespace Go.Proofs.Ytchddaafibjmgaa
open Go.ChangeShapes Go.WideShapes Go.ChangeAt Go.RowKit

theorem Try.own : ownKnob Try.prog.godebug = none := by kernel_rfl
theorem Try.laidOut : laidOutB Try.prog = true := by kernel_rfl
theorem Try.cellsRW : Try.prog.cellsOf 62 = 6 := by kernel_rfl
theorem Try.cellsI : Try.prog.cellsOf 3 = 1 := by kernel_rfl
theorem Try.bytesRW : Try.prog.bytesOf 62 = 48 := by kernel_rfl

theorem list6K {α : Type} {l : List α} (h : l.length = 6) : ∃ c0 c1 c2 c3 c4 c5, l = [c0, c1, c2, c3, c4, c5] := by
  match l, h with
  | [c0, c1, c2, c3, c4, c5], _ => exact ⟨c0, c1, c2, c3, c4, c5, rfl⟩

theorem wf_i64 {n : Int} (h : (Lit.int .i64 n).wf = true) : i64 n := by
  have h1 : IntKind.min .i64 = -9223372036854775808 := by decide
  have h2 : IntKind.max .i64 = 9223372036854775807 := by decide
  simp [Lit.wf, h1, h2] at h
  exact h

def LightK {H : Type} (t : TypeId) (d : DataW H) : Prop := ∀ n ∈ d.weights Try.prog t, n ≤ reachBytes

section
variable {H : Type} {enc : TypeId × Value → H} {W : World} {base fuel : Nat} {spare : Nat → Bool} {held : Bool} {cs : List Value} {x : DataW H × List MemPlace}

theorem open_raw (h : DataW.trod enc Try.prog W base spare held fuel 62 cs = some x) : ∃ r : RawD, cs = r.cells.toList ∧ r.ok := by
  obtain ⟨xs, m, _, rfl, hl, hxl, hf⟩ := DataW.trod_struct Try.underlying62 h
  rw [Try.cellsRW] at hl
  obtain ⟨c0, c1, c2, c3, c4, c5, rfl⟩ := list6K hl
  obtain ⟨y0, y1, y2, y3, y4, y5, rfl⟩ := list6K hxl
  clear hl hxl
  have g0 := hf 0 _ rfl
  have g1 := hf 1 _ rfl
  have g2 := hf 2 _ rfl
  have g3 := hf 3 _ rfl
  have g4 := hf 4 _ rfl
  have g5 := hf 5 _ rfl
  simp [Try.cellsI] at g0 g1 g2 g3 g4 g5
  obtain ⟨n0, e0, _, b0⟩ := DataW.trod_int Try.underlying3 g0
  obtain ⟨n1, e1, _, b1⟩ := DataW.trod_int Try.underlying3 g1
  obtain ⟨n2, e2, _, b2⟩ := DataW.trod_int Try.underlying3 g2
  obtain ⟨n3, e3, _, b3⟩ := DataW.trod_int Try.underlying3 g3
  obtain ⟨n4, e4, _, b4⟩ := DataW.trod_int Try.underlying3 g4
  obtain ⟨n5, e5, _, b5⟩ := DataW.trod_int Try.underlying3 g5
  simp at e0 e1 e2 e3 e4 e5
  exact ⟨⟨n0, n1, n2, n3, n4, n5⟩, by rw [e0, e1, e2, e3, e4, e5]; rfl, wf_i64 b0, wf_i64 b1, wf_i64 b2, wf_i64 b3, wf_i64 b4, wf_i64 b5⟩

/-- A list of raw numbers that is read. -/
theorem open_raws (h : DataW.trod enc Try.prog W base spare held fuel 54 cs = some x) (hw : LightK 54 x.1) : ∃ a cap L, cs = [.slice a L.length cap] ∧ L.length ≤ 4398046511104 ∧ RawsAt W a L := by
  rcases Deep.open_slice Try.underlying54 h with ⟨rfl, rfl⟩ | ⟨a, len, cap, m, n, D, Pl, rfl, hb, hlc, hcm, hm, rfl, hx⟩
  · exact ⟨none, 0, [], rfl, by simp, fun k hk => by simp at hk⟩
  · have hlm : len ≤ m := by rw [hm]; split <;> omega
    have hlen : len ≤ 4398046511104 := by
      have := hw ((len + (m - len)) * 48) (by simp [DataW.weights, Try.underlying54, Try.bytesRW])
      simp only [reachBytes] at this
      omega
    have each : ∀ i, i < len → ∃ r : RawD, (∀ j v, r.cells.toList[j]? = some v → W.cell? ((a.add (i * 6)).add j) = some v) ∧ r.ok := fun i hi => by
      obtain ⟨cs', h1, h2⟩ := hx i (by omega)
      obtain ⟨r, rfl, hok⟩ := open_raw h2
      rw [Try.cellsRW] at h1
      obtain ⟨_, _, hcell⟩ := World.cells?_some h1
      exact ⟨r, fun j v hj => by rw [hcell j (by have := (List.getElem?_eq_some_iff.1 hj).1; simpa [RawD.cells] using this)]; exact hj, hok⟩
    haveI : Inhabited RawD := ⟨⟨0, 0, 0, 0, 0, 0⟩⟩
    obtain ⟨q, hq⟩ := Deep.choose_lt each
    refine ⟨some a, cap, (List.range len).map q, by simp, by simpa using hlen, fun k hk => ?_⟩
    have hk' : k < len := by simpa using hk
    have e : ((List.range len).map q)[k] = q k := by simp
    rw [e]
    obtain ⟨hc, hok⟩ := hq k hk'
    have c0 := hc 0 _ rfl
    have c1 := hc 1 _ rfl
    have c2 := hc 2 _ rfl
    have c3 := hc 3 _ rfl
    have c4 := hc 4 _ rfl
    have c5 := hc 5 _ rfl
    have z0 := (hq 0 (by omega)).1 0 _ rfl
    obtain ⟨b, off, spot⟩ := a
    have hspot : spot = none := by simpa [Addr.add] using World.cell?_spot z0
    subst hspot
    rw [add_plain, add_plain] at c0 c1 c2 c3 c4 c5
    exact ⟨b, off, rfl, World.block_lt_of_cell? W _ c0, hok, c0, c1, c2, c3, c4, c5⟩

end

end Go.Proofs.Ytchddaafibjmgaa
