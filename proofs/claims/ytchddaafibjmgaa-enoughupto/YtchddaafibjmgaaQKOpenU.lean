/-
  Lists of raw numbers that are read, of small bulk.
-/
import Derived.Test.YtchddaafibjmgaaQKOpen
import Derived.Test.YtchddaafibjmgaaRows
namespace Go.Proofs.Ytchddaafibjmgaa
open Go.ChangeShapes Go.WideShapes Go.ChangeAt Go.RowKit

theorem bulk_one {H : Type} (d : DataW H) : 1 ≤ Rows.uptoBulk d := by
  cases d with
  | lit l => cases l <;> simp [Rows.uptoBulk]
  | nil => simp [Rows.uptoBulk]
  | ptr d => simp [Rows.uptoBulk]
  | slice elems spare => simp [Rows.uptoBulk]
  | agg parts => simp [Rows.uptoBulk]
  | iface t d => simp [Rows.uptoBulk]
  | map entries => simp [Rows.uptoBulk]
  | held h => simp [Rows.uptoBulk]

theorem bulk_length {H : Type} (l : List (DataW H)) : l.length ≤ Rows.uptoBulkAll l := by
  induction l with
  | nil => simp [Rows.uptoBulkAll]
  | cons x r ih =>
    have := bulk_one x
    simp only [Rows.uptoBulkAll, List.length_cons]
    omega

section
variable {H : Type} {enc : TypeId × Value → H} {W : World} {base fuel : Nat} {spare : Nat → Bool} {held : Bool} {cs : List Value} {x : DataW H × List MemPlace}

/-- A list of raw numbers that is read. -/
theorem open_rawsU (h : DataW.trod enc Try.prog W base spare held fuel 54 cs = some x) (hw : Rows.uptoBulk x.1 ≤ 1048576) : ∃ a cap L, cs = [.slice a L.length cap] ∧ L.length ≤ 1048576 ∧ RawsAt W a L := by
  rcases Deep.open_slice Try.underlying54 h with ⟨rfl, rfl⟩ | ⟨a, len, cap, m, n, D, Pl, rfl, hb, hlc, hcm, hm, rfl, hx⟩
  · exact ⟨none, 0, [], rfl, by simp, fun k hk => by simp at hk⟩
  · have hlm : len ≤ m := by rw [hm]; split <;> omega
    have hlen : len ≤ 1048576 := by
      simp only [Rows.uptoBulk] at hw
      have h1 := bulk_length ((List.range len).map D)
      simp at h1
      omega
    have each : ∀ i, i < len → ∃ r : RawD, (∀ j v, r.cells.toList[j]? = some v → W.cell? ((a.add (i * 6)).add j) = some v) ∧ r.ok := fun i hi => by
      obtain ⟨cs', h1, h2⟩ := hx i (by omega)
      obtain ⟨r, rfl, hok⟩ := open_raw h2
      rw [Try.cellsRW] at h1
      obtain ⟨_, _, hcell⟩ := World.cells?_some h1
      exact ⟨r, fun j v hj => by rw [hcell j (by have := (List.getElem?_eq_some_iff.1 hj).1; simpa [RawD.cells] using this)]; exact hj, hok⟩
    haveI : Inhabited RawD := ⟨⟨0, 0, 0, 0, 0, 0⟩⟩
    obtain ⟨q, hq⟩ := Deep.choose_lt each
    refine ⟨some a, cap, (List.range len).map q, by simp, by simpa using hlen, fun k hk => ?_⟩
    have hk' : k < len := by simpa using hk
    have e : ((List.range len).map q)[k] = q k := by simp
    rw [e]
    obtain ⟨hc, hok⟩ := hq k hk'
    have c0 := hc 0 _ rfl
    have c1 := hc 1 _ rfl
    have c2 := hc 2 _ rfl
    have c3 := hc 3 _ rfl
    have c4 := hc 4 _ rfl
    have c5 := hc 5 _ rfl
    have z0 := (hq 0 (by omega)).1 0 _ rfl
    obtain ⟨b, off, spot⟩ := a
    have hspot : spot = none := by simpa [Addr.add] using World.cell?_spot z0
    subst hspot
    rw [add_plain, add_plain] at c0 c1 c2 c3 c4 c5
    exact ⟨b, off, rfl, World.block_lt_of_cell? W _ c0, hok, c0, c1, c2, c3, c4, c5⟩

end

end Go.Proofs.Ytchddaafibjmgaa
