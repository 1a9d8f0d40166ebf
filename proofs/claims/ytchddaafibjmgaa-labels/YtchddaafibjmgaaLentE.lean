/-
  lend and still where all that is lent lies from block B on, and all that it leads to below B.
-/
import Derived.Test.YtchddaafibjmgaaStill
namespace Go.Proofs.Ytchddaafibjmgaa
open Go.RowKit

/-- What is lent lies from B on. -/
def LentE (B : Nat) (w : World) (X : Nat) (its : List Item) : Prop := ∃ v1 v2, Lent w X v1 v2 its ∧ B ≤ w.heap.size ∧ (∀ k, lentFoot X v1 v2 its k → B ≤ k) ∧ ∀ it ∈ its, ∀ p, it.a = some p → p.block < B

theorem LentE.init {B : Nat} {w : World} (hB : B ≤ w.heap.size) : LentE B (w.alloc (.cells #[.slice none 0 0, .slice none 0 0] 38)) w.heap.size [] := by
  refine ⟨.slice none 0 0, .slice none 0 0, ⟨block_alloc_new _ _, World.ownsRow_nil _ _ _ _, World.ownsRow_nil _ _ _ _, by simp, by simp, by simp, by simp, by simp [Value.ownBlock], by simp [Value.ownBlock], by simp [Value.ownBlock], by simp, by simp⟩, by simp; omega, ?_, by simp⟩
  rintro k ((rfl | h | h) | ⟨it, hi, _⟩)
  · exact hB
  · simp [Value.ownBlock] at h
  · simp [Value.ownBlock] at h
  · simp at hi

theorem LentE.below {B : Nat} {w w' : World} {X : Nat} {its : List Item} (h : LentE B w X its) (hb : Below w.heap.size w w') : LentE B w' X its := by
  obtain ⟨v1, v2, H, hB, hf, hw⟩ := h
  exact ⟨v1, v2, H.kept (Kept.of_below (F := noBlock) hb) (fun _ _ => id) (fun _ _ _ _ => id), Nat.le_trans hB hb.size, hf, hw⟩

theorem LentE.drewN {B : Nat} {w : World} {X : Nat} {its : List Item} (h : LentE B w X its) (n : Nat) : LentE B (w.drewN n) X its := h.below (below_drewN (Below.refl _ _) _)

theorem LentE.labs {B : Nat} {w : World} {X : Nat} {its : List Item} {a : Option Addr} {L : List Lab} (h : LentE B w X its) (ho : Out its a L) : LabsAt w a L := by
  obtain ⟨v1, v2, H, _⟩ := h
  exact ho.labs H

theorem lendE_any (B : Nat) (L : List Lab) (a : Option Addr) (cap X : Nat) (its : List Item) (w : World) (hl : L.length ≤ 4398046511104) (h : LabsAt w a L) (H : LentE B w X its) (hits : its.length ≤ 1000)
    (hap : 0 < L.length → ∀ p, a = some p → p.block < B) :
    Calls Try.prog 19 #[.pointer (some ⟨X, 0, none⟩), .slice a L.length cap] w fun e w' => ∃ a' c' its', e = .returned (.slice a' L.length c') ∧ Out its' a' L ∧ LentE B w' X its' ∧ Below B w w' ∧
      its'.length ≤ its.length + 1 ∧ ∀ it ∈ its, it ∈ its' := by
  obtain ⟨v1, v2, H, hB, hf, hw⟩ := H
  refine (lend_any L a cap X v1 v2 its w hl h H hits (fun h0 p e hF => ?_)).mono ?_
  · have := hf _ hF
    have := hap h0 p e
    omega
  · rintro e w' ⟨a', c', v1', v2', its', rfl, ho, _, H', K, hbf, hlen, hsub, hnew⟩
    have hlow : Below B w w' := K.below hB (fun i hi hF => by have := hf i (.inl hF); omega)
    refine ⟨a', c', its', rfl, ho, ⟨v1', v2', H', Nat.le_trans hB hlow.size, ?_, ?_⟩, hlow, hlen, hsub⟩
    · rintro k (hk | ⟨it, hi, rfl⟩)
      · exact (hbf k hk).elim (fun g => hf k (.inl g)) (fun g => by omega)
      · exact (hnew it hi).elim (fun g => hf _ (.inr ⟨it, g, rfl⟩)) (fun g => by omega)
    · intro it hi p e
      rcases hnew it hi with g | g
      · exact hw it g p e
      · exact hap g.1 p (g.2.1 ▸ e)

theorem stillE_any (B : Nat) (X : Nat) (its : List Item) (w : World) (H : LentE B w X its) (hits : its.length ≤ 100000) :
    Calls Try.prog 14 #[.pointer (some ⟨X, 0, none⟩)] w fun e w' => e = .returned (.bool true) ∧ LentE B w' X [] ∧ Below B w w' := by
  obtain ⟨v1, v2, H, hB, hf, hw⟩ := H
  refine (still_any X v1 v2 its w H hits).mono ?_
  rintro e w' ⟨rfl, H', K⟩
  have hlow : Below B w w' := K.below hB (fun i hi hF => by have := hf i hF; omega)
  refine ⟨rfl, ⟨_, _, H', Nat.le_trans hB hlow.size, ?_, by simp⟩, hlow⟩
  rintro k ((rfl | h | h) | ⟨it, hi, _⟩)
  · exact hf _ (.inl (.inl rfl))
  · simp [Value.ownBlock] at h
  · simp [Value.ownBlock] at h
  · simp at hi

end Go.Proofs.Ytchddaafibjmgaa
