/-
  Lists of numbers that are read: what lies in memory for them.
-/
import Derived.Test.YtchddaafibjmgaaQKOpen
import Derived.Test.YtchddaafibjmgaaQA25
namespace Go.Proofs.Ytchddaafibjmgaa
open Go.ChangeShapes Go.WideShapes Go.ChangeAt Go.RowKit

theorem Try.bytesI : Try.prog.bytesOf 3 = 8 := by kernel_rfl

section
variable {H : Type} {enc : TypeId × Value → H} {W : World} {base fuel : Nat} {spare : Nat → Bool} {held : Bool} {cs : List Value} {x : DataW H × List MemPlace}

/-- A list of numbers that is read. -/
theorem open_ints (h : DataW.trod enc Try.prog W base spare held fuel 85 cs = some x) (hw : LightK 85 x.1) : ∃ a cap L, cs = [.slice a L.length cap] ∧ L.length ≤ 1000000000000000000 ∧ IntsAt W a L := by
  rcases Deep.open_slice Try.underlying85 h with ⟨rfl, rfl⟩ | ⟨a, len, cap, m, n, D, Pl, rfl, hb, hlc, hcm, hm, rfl, hx⟩
  · exact ⟨none, 0, [], rfl, by simp, fun k hk => by simp at hk⟩
  · have hlm : len ≤ m := by rw [hm]; split <;> omega
    have hlen : len ≤ 1000000000000000000 := by
      have := hw ((len + (m - len)) * 8) (by simp [DataW.weights, Try.underlying85, Try.bytesI])
      simp only [reachBytes] at this
      omega
    have each : ∀ i, i < len → ∃ r : Int, (∀ j v, [Value.int .i64 r][j]? = some v → W.cell? ((a.add (i * 1)).add j) = some v) ∧ i64 r := fun i hi => by
      obtain ⟨cs', h1, h2⟩ := hx i (by omega)
      obtain ⟨r, e, _, hok⟩ := DataW.trod_int Try.underlying3 h2
      subst e
      rw [Try.cellsI] at h1
      obtain ⟨_, _, hcell⟩ := World.cells?_some h1
      exact ⟨r, fun j v hj => by rw [hcell j (by have := (List.getElem?_eq_some_iff.1 hj).1; simpa using this)]; exact hj, wf_i64 hok⟩
    obtain ⟨q, hq⟩ := Deep.choose_lt each
    refine ⟨some a, cap, (List.range len).map q, by simp, by simpa using hlen, fun k hk => ?_⟩
    have hk' : k < len := by simpa using hk
    have e : ((List.range len).map q)[k] = q k := by simp
    rw [e]
    obtain ⟨hc, hok⟩ := hq k hk'
    have c0 := hc 0 _ rfl
    have z0 := (hq 0 (by omega)).1 0 _ rfl
    obtain ⟨b, off, spot⟩ := a
    have hspot : spot = none := by simpa [Addr.add] using World.cell?_spot z0
    subst hspot
    rw [add_plain, add_plain] at c0
    exact ⟨b, off, rfl, World.block_lt_of_cell? W _ c0, hok, by simpa using c0⟩

end

end Go.Proofs.Ytchddaafibjmgaa
