/-
  lend and still, where what is lent lies in the blocks P and leads to blocks C that nobody writes; said from a world W0 on.
-/
import Derived.Test.YtchddaafibjmgaaQStill
import Derived.Test.YtchddaafibjmgaaQA1b
namespace Go.Proofs.Ytchddaafibjmgaa
open Go.RowKit

/-- What is lent lies in P and leads to C. -/
def LentG (C P : Nat → Prop) (w : World) (X : Nat) (its : List Item) : Prop :=
  ∃ v1 v2, Lent w X v1 v2 its ∧ (∀ k, lentFoot X v1 v2 its k → P k) ∧ ∀ it ∈ its, ∀ p, it.a = some p → C p.block

theorem LentG.mono {C P Q : Nat → Prop} {w : World} {X : Nat} {its : List Item} (h : LentG C P w X its) (hq : ∀ k, P k → Q k) : LentG C Q w X its := by
  obtain ⟨v1, v2, H, hf, hw⟩ := h
  exact ⟨v1, v2, H, fun k hk => hq k (hf k hk), hw⟩

theorem LentG.kept {C P F : Nat → Prop} {w w' : World} {X : Nat} {its : List Item} (h : LentG C P w X its) (hk : Kept F w w') (hP : ∀ k, P k → ¬ F k) (hC : ∀ k, C k → ¬ F k) : LentG C P w' X its := by
  obtain ⟨v1, v2, H, hf, hw⟩ := h
  exact ⟨v1, v2, H.kept hk (fun b hb => hP b (hf b hb)) (fun it hi p e => hC _ (hw it hi p e)), hf, hw⟩

theorem LentG.labs {C P : Nat → Prop} {w : World} {X : Nat} {its : List Item} {a : Option Addr} {L : List Lab} (h : LentG C P w X its) (ho : Out its a L) : LabsAt w a L := by
  obtain ⟨v1, v2, H, _⟩ := h
  exact ho.labs H

/-- From W0 on only P has turned, and what is lent lies in P and in what came since. -/
structure LentI (C P : Nat → Prop) (W0 w : World) (X : Nat) (its : List Item) : Prop where
  lent : LentG C (grow P W0 w) w X its
  kept : Kept P W0 w
  cp : ∀ k, C k → ¬ P k
  cb : ∀ k, C k → k < W0.heap.size

theorem LentI.refl {C P : Nat → Prop} {w : World} {X : Nat} {its : List Item} (h : LentG C P w X its) (cp : ∀ k, C k → ¬ P k) (cb : ∀ k, C k → k < w.heap.size) : LentI C P w w X its :=
  ⟨h.mono fun _ hk => .inl hk, Kept.refl _ _, cp, cb⟩

theorem LentI.drew {C P : Nat → Prop} {W0 w : World} {X : Nat} {its : List Item} (h : LentI C P W0 w X its) : LentI C P W0 w.drew X its := by
  obtain ⟨⟨v1, v2, Hl, hf, hw⟩, hk, cp, cb⟩ := h
  exact ⟨⟨v1, v2, Hl.kept ((Kept.refl noBlock _).drew) (fun _ _ => id) (fun _ _ _ _ => id), hf, hw⟩, hk.drew, cp, cb⟩

/-- The cells and marks of a block that is not of P are as they were. -/
theorem LentI.still {C P : Nat → Prop} {W0 w : World} {X : Nat} {its : List Item} (h : LentI C P W0 w X its) {b : Nat} (hb : b < W0.heap.size) (hP : ¬ P b) :
    (∀ o, w.cell? ⟨b, o, none⟩ = W0.cell? ⟨b, o, none⟩) ∧ (∀ o, w.frozen? ⟨b, o, none⟩ = W0.frozen? ⟨b, o, none⟩) :=
  ⟨fun o => h.kept.cell (p := ⟨b, o, none⟩) hb hP, fun o => h.kept.frozen (p := ⟨b, o, none⟩) hb hP⟩

/-- The list can be read, and lies in C. -/
def Lst.inC (C : Nat → Prop) (x : Lst) : Prop := 0 < x.L.length → ∀ p, x.a = some p → C p.block

/-- A list that was handed over for x. -/
def Lst.outOf (its : List Item) (x y : Lst) : Prop := y.L = x.L ∧ y.L.length ≤ y.cap ∧ Out its y.a y.L

theorem Lst.outOf.mono {its its' : List Item} {x y : Lst} (h : x.outOf its y) (hs : ∀ it ∈ its, it ∈ its') : x.outOf its' y := ⟨h.1, h.2.1, h.2.2.mono hs⟩

theorem lendI_any (C P : Nat → Prop) (W0 w : World) (X : Nat) (its : List Item) (x : Lst) (H : LentI C P W0 w X its) (hx : x.ok W0) (hC : x.inC C) (hits : its.length ≤ 1000) :
    Calls Try.prog 19 #[.pointer (some ⟨X, 0, none⟩), .slice x.a x.L.length x.cap] w fun e w' => ∃ a' c' its', e = .returned (.slice a' x.L.length c') ∧ x.outOf its' ⟨a', x.L, c'⟩ ∧ LentI C P W0 w' X its' ∧
      its'.length ≤ its.length + 1 ∧ ∀ it ∈ its, it ∈ its' := by
  obtain ⟨⟨v1, v2, Hl, hf, hw⟩, hk, cp, cb⟩ := H
  obtain ⟨o1, o2, o3, o4⟩ := hx
  have hCP : ∀ k, C k → ¬ grow P W0 w k := fun k hc hg => hg.elim (cp k hc) (fun g => by have := cb k hc; omega)
  have hlab : LabsAt w x.a x.L := by
    by_cases h0 : 0 < x.L.length
    · exact o3.stays hk (fun p e hP => cp _ (hC h0 p e) hP)
    · intro k hk'; omega
  refine (lend_any x.L x.a x.cap X v1 v2 its w o1 hlab Hl hits (fun h0 p e hF => hCP _ (hC h0 p e) (hf _ hF))).mono ?_
  rintro e w' ⟨a', c', v1', v2', its', rfl, ho, hc, H', K, hbf, hlen, hsub, hnew⟩
  refine ⟨a', c', its', rfl, ⟨rfl, hc, ho⟩, ⟨⟨v1', v2', H', ?_, ?_⟩, ?_, cp, cb⟩, hlen, hsub⟩
  · intro k hk'
    have hlt := H'.footLt hk'
    rcases hk' with hk' | ⟨it, hi, rfl⟩
    · rcases hbf k hk' with g | g
      · exact (hf k (.inl g)).elim .inl (fun q => .inr ⟨q.1, hlt⟩)
      · exact .inr ⟨Nat.le_trans hk.size g, hlt⟩
    · rcases hnew it hi with g | g
      · exact (hf _ (.inr ⟨it, g, rfl⟩)).elim .inl (fun q => .inr ⟨q.1, hlt⟩)
      · exact .inr ⟨Nat.le_trans hk.size g.2.2, hlt⟩
  · intro it hi p e
    rcases hnew it hi with g | g
    · exact hw it g p e
    · exact hC g.1 p (g.2.1 ▸ e)
  · exact hk.trans K (fun i hi hF => (hf i (.inl hF)).elim id (fun g => by omega))

theorem stillG_any (C P : Nat → Prop) (w : World) (X : Nat) (its : List Item) (H : LentG C P w X its) (hits : its.length ≤ 100000) :
    Calls Try.prog 14 #[.pointer (some ⟨X, 0, none⟩)] w fun e w' => e = .returned (.bool true) ∧ LentG C P w' X [] ∧ Kept P w w' := by
  obtain ⟨v1, v2, H, hf, hw⟩ := H
  refine (still_any X v1 v2 its w H hits).mono ?_
  rintro e w' ⟨rfl, H', K⟩
  refine ⟨rfl, ⟨_, _, H', ?_, by simp⟩, K.mono fun i _ hF => hf i hF⟩
  rintro k ((rfl | h | h) | ⟨it, hi, _⟩)
  · exact hf _ (.inl (.inl rfl))
  · simp [Value.ownBlock] at h
  · simp [Value.ownBlock] at h
  · simp at hi

theorem LentG.init {C : Nat → Prop} {P : Nat → Prop} {w : World} (hP : P w.heap.size) : LentG C P (w.alloc (.cells #[.slice none 0 0, .slice none 0 0] 38)) w.heap.size [] := by
  refine ⟨.slice none 0 0, .slice none 0 0, ⟨block_alloc_new _ _, World.ownsRow_nil _ _ _ _, World.ownsRow_nil _ _ _ _, by simp, by simp, by simp, by simp, by simp [Value.ownBlock], by simp [Value.ownBlock], by simp [Value.ownBlock], by simp, by simp⟩, ?_, by simp⟩
  rintro k ((rfl | h | h) | ⟨it, hi, _⟩)
  · exact hP
  · simp [Value.ownBlock] at h
  · simp [Value.ownBlock] at h
  · simp at hi

end Go.Proofs.Ytchddaafibjmgaa
