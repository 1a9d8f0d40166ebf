/-
  The law Labels, walked: for all lists of labels it returns true.
-/
import Derived.Test.YtchddaafibjmgaaFits
import Derived.Test.YtchddaafibjmgaaLentE
namespace Go.Proofs.Ytchddaafibjmgaa
open Go.RowKit

theorem fits_apart : labFits [(⟨#[97]⟩, ⟨#[98]⟩)] [(⟨#[97]⟩, ⟨#[99]⟩)] = false := by
  simp [labFits, labHas, labEq, ByteArray.toList_eq]

theorem fits_two (w : World) :
    Calls Try.prog 18 #[.slice (some ⟨w.heap.size, 0, none⟩) 1 1, .slice (some ⟨w.heap.size + 1, 0, none⟩) 1 1]
      ((w.alloc (.cells #[.string ⟨#[97]⟩, .string ⟨#[98]⟩] 51)).alloc (.cells #[.string ⟨#[97]⟩, .string ⟨#[99]⟩] 51)) fun e w' => e = .returned (.bool false) ∧ Below w.heap.size w w' := by
  have hb : Below w.heap.size w ((w.alloc (.cells #[.string ⟨#[97]⟩, .string ⟨#[98]⟩] 51)).alloc (.cells #[.string ⟨#[97]⟩, .string ⟨#[99]⟩] 51)) := below_trans (below_alloc _ _) (below_alloc _ _)
  refine (fits_any [(⟨#[97]⟩, ⟨#[98]⟩)] [(⟨#[97]⟩, ⟨#[99]⟩)] (some ⟨w.heap.size, 0, none⟩) (some ⟨w.heap.size + 1, 0, none⟩) 1 1 _ (by simp) (by simp) ?_ ?_).mono ?_
  · intro k hk
    obtain rfl : k = 0 := by simpa using hk
    have hb1 : ((w.alloc (.cells #[.string ⟨#[97]⟩, .string ⟨#[98]⟩] 51)).alloc (.cells #[.string ⟨#[97]⟩, .string ⟨#[99]⟩] 51)).heap[w.heap.size]? = some (.cells #[.string ⟨#[97]⟩, .string ⟨#[98]⟩] 51 (0, 0)) := by
      rw [Below.heap_alloc _ _ _ (by simp)]; exact block_alloc_new _ _
    exact ⟨_, _, rfl, by rw [cell_of_block hb1]; rfl, by rw [cell_of_block hb1]; rfl⟩
  · intro k hk
    obtain rfl : k = 0 := by simpa using hk
    have hb1 : ((w.alloc (.cells #[.string ⟨#[97]⟩, .string ⟨#[98]⟩] 51)).alloc (.cells #[.string ⟨#[97]⟩, .string ⟨#[99]⟩] 51)).heap[w.heap.size + 1]? = some (.cells #[.string ⟨#[97]⟩, .string ⟨#[99]⟩] 51 (0, 0)) := by
      have := block_alloc_new (w.alloc (.cells #[.string ⟨#[97]⟩, .string ⟨#[98]⟩] 51)) (.cells #[.string ⟨#[97]⟩, .string ⟨#[99]⟩] 51)
      simpa using this
    exact ⟨_, _, rfl, by rw [cell_of_block hb1]; rfl, by rw [cell_of_block hb1]; rfl⟩
  · rintro e w' ⟨rfl, h⟩
    exact ⟨by rw [fits_apart], below_trans hb h⟩

set_option maxRecDepth 100000 in
set_option maxHeartbeats 400000 in
theorem labels_any (l L : List Lab) (a a' : Option Addr) (cap cap' : Nat) (w : World) (hl : l.length ≤ 4398046511104) (hL : L.length ≤ 4398046511104) (h : LabsAt w a l) (h' : LabsAt w a' L) :
    Calls Try.prog 4 #[.slice a l.length cap, .slice a' L.length cap'] w fun e w' => e = .returned (.bool true) ∧ Below w.heap.size w w' := by
  have f0 : ∀ w, Calls Try.prog 18 #[.slice none 0 0, .slice none 0 0] w fun e w' => e = .returned (.bool true) ∧ Below w.heap.size w w' := fun w => fits_any [] [] none none 0 0 w (by simp) (by simp) (LabsAt.nil _ _) (LabsAt.nil _ _)
  go_enter Try.func4, Try.ntmps4
  go_wp2_with fail
  refine (f0 _).mono ?_
  rintro e w1 ⟨rfl, hb1⟩
  clear f0
  go_wp2_with fail
  refine (fits_two w1).mono ?_
  rintro e w2 ⟨rfl, hb2⟩
  have hz : w.heap.size ≤ w2.heap.size := Nat.le_trans hb1.size hb2.size
  have hW : Below w.heap.size w (w2.alloc (.cells #[.slice none 0 0, .slice none 0 0] 38)) := below_trans (below_trans hb1 hb2) (below_alloc _ _)
  have hE := LentE.init hz
  have hlow : 0 < l.length → ∀ p, a = some p → p.block < w.heap.size := h.low
  have hlow' : 0 < L.length → ∀ p, a' = some p → p.block < w.heap.size := h'.low
  go_wp2_with fail
  refine (lendE_any w.heap.size l a cap w2.heap.size [] _ hl (h.below hW) hE (by simp) hlow).mono ?_
  rintro e w3 ⟨o1, c1, its1, rfl, ho1, hE1, hB1, hn1, _⟩
  clear hE
  have hW1 := hW.trans hB1
  go_wp2_with fail
  refine (lendE_any w.heap.size L a' cap' w2.heap.size its1 _ hL (h'.below hW1) hE1 (by simp at hn1; omega) hlow').mono ?_
  rintro e w4 ⟨o2, c2, its2, rfl, ho2, hE2, hB2, hn2, hs2⟩
  have hW2 := hW1.trans hB2
  clear hE1 hW1 hB2 hB1 hW
  go_wp2_with fail
  refine (fits_any l L o1 o2 c1 c2 w4 hl hL (hE2.labs (ho1.mono hs2)) (hE2.labs ho2)).mono ?_
  rintro e w5 ⟨rfl, hb5⟩
  have hE5 := hE2.below hb5
  have hW5 := hW2.trans (hb5.mono hW2.size)
  clear hE2 hW2 hb5
  go_wp2_with fail
  refine (stillE_any w.heap.size w2.heap.size its2 w5 hE5 (by simp at hn1; omega)).mono ?_
  rintro e w6 ⟨rfl, hE6, hb6⟩
  have hW6 := hW5.trans hb6
  clear hE5 hW5 hb6
  go_wp2_with fail
  refine (rfits_any l L a a' cap cap' w6 hl hL (h.below hW6) (h'.below hW6)).mono ?_
  rintro e w7 ⟨rfl, n, rfl⟩
  go_wp2
  go_ret
  exact ⟨by simp, below_drewN hW6 _⟩

end Go.Proofs.Ytchddaafibjmgaa
