/-
  lend, walked: a list of labels is lent in new memory, with marks in its spare room, and both it and what stood in it are kept in the receiver.
-/
import Derived.Test.YtchddaafibjmgaaQA1
namespace Go.Proofs.Ytchddaafibjmgaa
open Go.RowKit

def spareB : ByteArray := ⟨#[115, 112, 97, 114, 101]⟩
/-- What stands in the spare room. -/
def spareLab : Lab := (spareB, ByteArray.empty)
/-- What lies in a list that is lent. -/
def lentLabs (L : List Lab) : List Lab := L ++ List.replicate 8 spareLab
/-- .. when k of them are written. -/
def fillLabs (L : List Lab) (k : Nat) : List Lab := (lentLabs L).take k ++ List.replicate (L.length + 8 - k) (ByteArray.empty, ByteArray.empty)

theorem lentLabs_length (L : List Lab) : (lentLabs L).length = L.length + 8 := by simp [lentLabs]
theorem fillLabs_length (L : List Lab) (k : Nat) (h : k ≤ L.length + 8) : (fillLabs L k).length = L.length + 8 := by
  simp only [fillLabs, List.length_append, List.length_take, lentLabs_length, List.length_replicate]; omega
theorem fillLabs_full (L : List Lab) : fillLabs L (L.length + 8) = lentLabs L := by
  simp [fillLabs, List.take_of_length_le, lentLabs_length]
theorem fillLabs_succ (L : List Lab) (k : Nat) (h : k < L.length + 8) : (fillLabs L k).set k (labAt (lentLabs L) k) = fillLabs L (k + 1) := by
  have hk : k < (lentLabs L).length := by rw [lentLabs_length]; exact h
  unfold fillLabs labAt
  rw [List.getElem?_eq_getElem hk, Option.getD_some, List.take_succ_eq_append_getElem hk, List.set_append_right _ _ (by simp [lentLabs_length]; omega), List.append_assoc]
  congr 1
  rw [List.length_take, Nat.min_eq_left (by omega), Nat.sub_self, show L.length + 8 - k = (L.length + 8 - (k + 1)) + 1 from by omega, List.replicate_succ]
  rfl
theorem lentLabs_low (L : List Lab) (k : Nat) (h : k < L.length) : labAt (lentLabs L) k = labAt L k := by
  simp [labAt, lentLabs, List.getElem?_append_left h]
theorem lentLabs_high (L : List Lab) (k : Nat) (h : L.length ≤ k) (h' : k < L.length + 8) : labAt (lentLabs L) k = spareLab := by
  unfold labAt lentLabs
  rw [List.getElem?_append_right h, List.getElem?_replicate, if_pos (by omega)]
  rfl

theorem Try.infoAL : (Try.prog.info? 31).map (fun i => (i.zero, i.size, i.bytes)) = some (some (.slice none 0 0), 1, 24) := by kernel_rfl
theorem Try.infoRL : (Try.prog.info? 23).map (fun i => (i.zero, i.size, i.bytes)) = some (some (.slice none 0 0), 1, 24) := by kernel_rfl

/-- One list that is lent: what stands in it, where that lies, and the block that was handed over. -/
structure Item where
  L : List Lab
  a : Option Addr
  cap : Nat
  blk : Nat

def Item.out (it : Item) : Value := .slice (some ⟨it.blk, 0, none⟩) (it.L.length + 8) (it.L.length + 8)
def Item.want (it : Item) : Value := .slice it.a it.L.length it.cap

/-- The blocks of the receiver. -/
def boxFoot (X : Nat) (v1 v2 : Value) (b : Nat) : Prop := b = X ∨ v1.ownBlock = some b ∨ v2.ownBlock = some b
/-- .. and of what is lent. -/
def lentFoot (X : Nat) (v1 v2 : Value) (its : List Item) (b : Nat) : Prop := boxFoot X v1 v2 b ∨ ∃ it ∈ its, it.blk = b

/-- What is lent, as it lies in memory. -/
structure Lent (w : World) (X : Nat) (v1 v2 : Value) (its : List Item) : Prop where
  box : w.heap[X]? = some (.cells #[v1, v2] 38 (0, 0))
  r1 : w.ownsRow 0 31 1 v1 its.length (its.map Item.out)
  r2 : w.ownsRow 0 23 1 v2 its.length (its.map Item.want)
  out : ∀ it ∈ its, w.heap[it.blk]? = some (.cells (labCells (lentLabs it.L)).toArray 51 (0, 0))
  len : ∀ it ∈ its, 0 < it.L.length ∧ it.L.length ≤ 4398046511104
  want : ∀ it ∈ its, LabsAt w it.a it.L
  apart : ∀ it ∈ its, ∀ p, it.a = some p → ¬ lentFoot X v1 v2 its p.block
  ne1 : v1.ownBlock ≠ some X
  ne2 : v2.ownBlock ≠ some X
  ne12 : ∀ k, v2.ownBlock = some k → v1.ownBlock ≠ some k
  neI : ∀ it ∈ its, ¬ boxFoot X v1 v2 it.blk
  nodup : (its.map (·.blk)).Nodup

theorem LabsAt.stays {F : Nat → Prop} {w w' : World} {a : Option Addr} {L : List Lab} (h : LabsAt w a L) (hk : Kept F w w') (hF : ∀ p, a = some p → ¬ F p.block) : LabsAt w' a L := by
  intro k hlt
  obtain ⟨b, off, e, h1, h2⟩ := h k hlt
  have hl := World.block_lt_of_cell? w _ h1
  refine ⟨b, off, e, ?_, ?_⟩
  · rw [← h1]; exact hk.cell hl (hF ⟨b, off, none⟩ e)
  · rw [← h2]; exact hk.cell hl (hF ⟨b, off, none⟩ e)

theorem Lent.footLt {w : World} {X : Nat} {v1 v2 : Value} {its : List Item} (H : Lent w X v1 v2 its) {b : Nat} (h : lentFoot X v1 v2 its b) : b < w.heap.size := by
  rcases h with (rfl | h | h) | ⟨it, hi, rfl⟩
  · exact lt_of_block H.box
  · exact (H.r1.lt b h).2
  · exact (H.r2.lt b h).2
  · exact lt_of_block (H.out it hi)

/-- What does not touch its blocks, nor what it leads to, leaves it. -/
theorem Lent.kept {F : Nat → Prop} {w w' : World} {X : Nat} {v1 v2 : Value} {its : List Item} (H : Lent w X v1 v2 its) (hk : Kept F w w') (hF : ∀ b, lentFoot X v1 v2 its b → ¬ F b)
    (hW : ∀ it ∈ its, ∀ p, it.a = some p → ¬ F p.block) : Lent w' X v1 v2 its := by
  refine ⟨?_, hk.ownsRow H.r1 fun k h => hF k (.inl (.inr (.inl h))), hk.ownsRow H.r2 fun k h => hF k (.inl (.inr (.inr h))), fun it hi => ?_, H.len, fun it hi => (H.want it hi).stays hk (hW it hi), H.apart, H.ne1, H.ne2, H.ne12, H.neI, H.nodup⟩
  · rw [hk.block X (lt_of_block H.box) (hF X (.inl (.inl rfl)))]; exact H.box
  · rw [hk.block _ (lt_of_block (H.out it hi)) (hF _ (.inr ⟨it, hi, rfl⟩))]; exact H.out it hi

theorem store_lab {w : World} {S : Nat} {M : List Lab} {e : TypeId} (h : w.heap[S]? = some (.cells (labCells M).toArray e (0, 0))) (k : Nat) (x : Lab) :
    ((w.setCell ⟨S, k * 2, none⟩ (.string x.1)).setCell ⟨S, k * 2 + 1, none⟩ (.string x.2)).heap[S]? = some (.cells (labCells (M.set k x)).toArray e (0, 0)) := by
  rw [block_setCell (block_setCell h _) _, labCells_set]
  simp

/-- Behind the first append. -/
theorem step_two {w wr w2 : World} {X : Nat} {v1 v2 : Value} {its : List Item} {o : Obj} (H : Lent w X v1 v2 its) (hbw : Below w.heap.size w wr) (hg : (wr.alloc o).grownBy w2 v1.ownBlock) :
    w2.cell? ⟨X, 0, none⟩ = some v1 ∧ w2.cell? ⟨X, 1, none⟩ = some v2 ∧ w2.frozen? ⟨X, 0, none⟩ = false ∧ w2.frozen? ⟨X, 1, none⟩ = false ∧
      ∀ v1', (w2.setCell ⟨X, 0, none⟩ v1').ownsRow 0 23 1 v2 its.length (its.map Item.want) := by
  have hX := lt_of_block H.box
  have K : Kept (fun b => v1.ownBlock = some b) w w2 := ((Kept.of_below hbw).alloc o).grown hg (fun k hk _ => hk)
  have hb : w2.heap[X]? = some (.cells #[v1, v2] 38 (0, 0)) := by rw [K.block X hX H.ne1]; exact H.box
  refine ⟨by rw [cell_of_block hb]; rfl, by rw [cell_of_block hb]; rfl, frozen_of_block hb, frozen_of_block hb, fun v1' => ?_⟩
  have K' : Kept (fun b => v1.ownBlock = some b ∨ b = X) w (w2.setCell ⟨X, 0, none⟩ v1') := (K.mono (G := fun b => v1.ownBlock = some b ∨ b = X) (fun _ _ h => Or.inl h)).setCell (p := ⟨X, 0, none⟩) (fun _ => Or.inr rfl) v1'
  exact K'.ownsRow H.r2 (fun k hk hF => hF.elim (H.ne12 k hk) (fun e => H.ne2 (e ▸ hk)))

/-- Behind the second. -/
theorem step_three {w wr w2 w3 : World} {X : Nat} {v1 v2 v1' : Value} {its : List Item} {o o' : Obj} (H : Lent w X v1 v2 its) (hbw : Below w.heap.size w wr) (hg : (wr.alloc o).grownBy w2 v1.ownBlock)
    (hg2 : ((w2.setCell ⟨X, 0, none⟩ v1').alloc o').grownBy w3 v2.ownBlock) : w3.heap[X]? = some (.cells #[v1', v2] 38 (0, 0)) ∧ Kept (boxFoot X v1 v2) w w3 := by
  have hX := lt_of_block H.box
  have K : Kept (fun b => v1.ownBlock = some b) w w2 := ((Kept.of_below hbw).alloc o).grown hg (fun k hk _ => hk)
  have hb : w2.heap[X]? = some (.cells #[v1, v2] 38 (0, 0)) := by rw [K.block X hX H.ne1]; exact H.box
  have hX2 := lt_of_block hb
  constructor
  · rw [hg2.block X (by simp [World.setCell]; omega) (fun e => H.ne2 e.symm), Below.heap_alloc _ _ _ (by simp [World.setCell]; omega), block_setCell hb]
    rfl
  · exact ((((K.mono (G := boxFoot X v1 v2) fun b _ h => .inr (.inl h)).setCell (p := ⟨X, 0, none⟩) (fun _ => .inl rfl) v1').alloc o').grown hg2 fun k hk _ => .inr (.inr hk))

/-- The end: what is lent then. -/
theorem lend_close {L : List Lab} {a : Option Addr} {cap X : Nat} {w wr w2 w3 : World} {v1 v2 v1' v2' : Value} {its : List Item} {o o' : Obj} (H : Lent w X v1 v2 its) (hbw : Below w.heap.size w wr)
    (hB : wr.heap[w.heap.size]? = some (.cells (labCells (lentLabs L)).toArray 51 (0, 0))) (hl : L.length ≤ 4398046511104) (h0 : 0 < L.length) (h : LabsAt w a L) (hap : ∀ p, a = some p → ¬ lentFoot X v1 v2 its p.block)
    (hg : (wr.alloc o).grownBy w2 v1.ownBlock) (hg2 : ((w2.setCell ⟨X, 0, none⟩ v1').alloc o').grownBy w3 v2.ownBlock)
    (ho1 : w2.ownsRow 0 31 1 v1' (its.length + 1) (its.map Item.out ++ [.slice (some ⟨w.heap.size, 0, none⟩) (L.length + 8) (L.length + 8)]))
    (ho2 : w3.ownsRow 0 23 1 v2' (its.length + 1) (its.map Item.want ++ [.slice a L.length cap]))
    (hf1 : v1'.ownBlock = v1.ownBlock ∨ ∀ k, v1'.ownBlock = some k → (wr.alloc o).heap.size ≤ k) (hf2 : v2'.ownBlock = v2.ownBlock ∨ ∀ k, v2'.ownBlock = some k → ((w2.setCell ⟨X, 0, none⟩ v1').alloc o').heap.size ≤ k) :
    Lent (w3.setCell ⟨X, 1, none⟩ v2') X v1' v2' (its ++ [⟨L, a, cap, w.heap.size⟩]) ∧ Kept (boxFoot X v1 v2) w (w3.setCell ⟨X, 1, none⟩ v2') ∧ ∀ k, boxFoot X v1' v2' k → boxFoot X v1 v2 k ∨ w.heap.size ≤ k := by
  obtain ⟨s0, s1⟩ := step_three H hbw hg hg2
  have hX := lt_of_block H.box
  have hS := lt_of_block hB
  have z1 : wr.heap.size < w2.heap.size := by have := hg.size; simp at this; omega
  have z2 : w2.heap.size < w3.heap.size := by have := hg2.size; simp at this; omega
  -- the blocks of the new rows: the old ones, or new ones
  have b1 : ∀ k, v1'.ownBlock = some k → v1.ownBlock = some k ∨ wr.heap.size < k := fun k hk => hf1.elim (fun e => .inl (e ▸ hk)) (fun f => .inr (by have := f k hk; simp at this; omega))
  have b2 : ∀ k, v2'.ownBlock = some k → v2.ownBlock = some k ∨ w2.heap.size < k := fun k hk => hf2.elim (fun e => .inl (e ▸ hk)) (fun f => .inr (by have := f k hk; simp at this; omega))
  have l1 : ∀ k, v1.ownBlock = some k → k < w.heap.size := fun k hk => (H.r1.lt k hk).2
  have l2 : ∀ k, v2.ownBlock = some k → k < w.heap.size := fun k hk => (H.r2.lt k hk).2
  have l1' : ∀ k, v1'.ownBlock = some k → k < w2.heap.size := fun k hk => (ho1.lt k hk).2
  have KW : Kept (boxFoot X v1 v2) w (w3.setCell ⟨X, 1, none⟩ v2') := s1.setCell (p := ⟨X, 1, none⟩) (fun _ => .inl rfl) v2'
  have Kr : Kept (boxFoot X v1 v2) wr (w3.setCell ⟨X, 1, none⟩ v2') :=
    (((((((Kept.refl _ wr).alloc o).grown hg fun k hk _ => .inr (.inl hk)).setCell (p := ⟨X, 0, none⟩) (fun _ => .inl rfl) v1').alloc o').grown hg2 fun k hk _ => .inr (.inr hk)).setCell (p := ⟨X, 1, none⟩) (fun _ => .inl rfl) v2')
  have K2 : Kept (fun b => b = X ∨ v2.ownBlock = some b) w2 (w3.setCell ⟨X, 1, none⟩ v2') :=
    (((((Kept.refl _ w2).setCell (p := ⟨X, 0, none⟩) (fun _ => .inl rfl) v1').alloc o').grown hg2 fun k hk _ => .inr hk).setCell (p := ⟨X, 1, none⟩) (fun _ => .inl rfl) v2')
  have K3 : Kept (fun b => b = X) w3 (w3.setCell ⟨X, 1, none⟩ v2') := (Kept.refl (fun b => b = X) w3).setCell (p := ⟨X, 1, none⟩) (fun _ => rfl) v2'
  have bf : ∀ k, boxFoot X v1' v2' k → boxFoot X v1 v2 k ∨ wr.heap.size < k := by
    rintro k (rfl | hk | hk)
    · exact .inl (.inl rfl)
    · exact (b1 k hk).elim (fun e => .inl (.inr (.inl e))) .inr
    · exact (b2 k hk).elim (fun e => .inl (.inr (.inr e))) (fun e => .inr (by omega))
  have blt : ∀ k, boxFoot X v1 v2 k → k < w.heap.size := fun k hk => H.footLt (.inl hk)
  have alt : ∀ p, a = some p → p.block < w.heap.size := by
    intro p e
    obtain ⟨b, off, e', h1, _⟩ := h 0 h0
    rw [e] at e'
    simp only [Option.some.injEq] at e'
    subst e'
    exact World.block_lt_of_cell? w _ h1
  have ilt : ∀ it ∈ its, ∀ p, it.a = some p → p.block < w.heap.size := by
    intro it hi p e
    obtain ⟨b, off, e', h1, _⟩ := H.want it hi 0 (H.len it hi).1
    rw [e] at e'
    simp only [Option.some.injEq] at e'
    subst e'
    exact World.block_lt_of_cell? w _ h1
  refine ⟨⟨?_, ?_, ?_, ?_, ?_, ?_, ?_, ?_, ?_, ?_, ?_, ?_⟩, KW, fun k hk => (bf k hk).elim .inl (fun e => .inr (by omega))⟩
  · rw [block_setCell s0]; rfl
  · have := K2.ownsRow ho1 (fun k hk hF => ?_)
    · simpa [Item.out] using this
    · rcases hF with rfl | hF
      · exact (b1 _ hk).elim H.ne1 (fun e => by omega)
      · exact (b1 _ hk).elim (H.ne12 _ hF) (fun e => by have := l2 _ hF; omega)
  · have := K3.ownsRow ho2 (fun k hk hF => ?_)
    · simpa [Item.want] using this
    · subst hF
      exact (b2 _ hk).elim H.ne2 (fun e => by omega)
  · intro it hi
    rcases List.mem_append.1 hi with hi | hi
    · rw [KW.block _ (lt_of_block (H.out it hi)) (H.neI it hi)]; exact H.out it hi
    · simp only [List.mem_singleton] at hi
      subst hi
      rw [Kr.block _ hS (fun hF => by have := blt _ hF; omega)]; exact hB
  · intro it hi
    rcases List.mem_append.1 hi with hi | hi
    · exact H.len it hi
    · simp only [List.mem_singleton] at hi
      subst hi
      exact ⟨h0, hl⟩
  · intro it hi
    rcases List.mem_append.1 hi with hi | hi
    · exact (H.want it hi).stays KW (fun p e hF => H.apart it hi p e (.inl hF))
    · simp only [List.mem_singleton] at hi
      subst hi
      exact h.stays KW (fun p e hF => hap p e (.inl hF))
  · intro it hi p e hF
    have hp : p.block < w.heap.size ∧ ¬ lentFoot X v1 v2 its p.block := by
      rcases List.mem_append.1 hi with hi | hi
      · exact ⟨ilt it hi p e, H.apart it hi p e⟩
      · simp only [List.mem_singleton] at hi
        subst hi
        exact ⟨alt p e, hap p e⟩
    rcases hF with hF | ⟨it', hi', e'⟩
    · exact (bf _ hF).elim (fun g => hp.2 (.inl g)) (fun g => by omega)
    · rcases List.mem_append.1 hi' with hi' | hi'
      · exact hp.2 (.inr ⟨it', hi', e'⟩)
      · simp only [List.mem_singleton] at hi'
        subst hi'
        simp only at e'
        omega
  · exact fun e => (b1 _ e).elim H.ne1 (fun g => by omega)
  · exact fun e => (b2 _ e).elim H.ne2 (fun g => by omega)
  · intro k e2 e1
    rcases b2 k e2 with g | g
    · exact (b1 k e1).elim (H.ne12 k g) (fun g' => by have := l2 k g; omega)
    · have := l1' k e1; omega
  · intro it hi hF
    have hi' : it.blk ≤ w.heap.size ∧ ¬ boxFoot X v1 v2 it.blk := by
      rcases List.mem_append.1 hi with hi | hi
      · exact ⟨Nat.le_of_lt (lt_of_block (H.out it hi)), H.neI it hi⟩
      · simp only [List.mem_singleton] at hi
        subst hi
        exact ⟨Nat.le_refl _, fun g => by have := blt _ g; simp only at this; omega⟩
    exact (bf _ hF).elim hi'.2 (fun g => by omega)
  · rw [List.map_append, List.nodup_append]
    refine ⟨H.nodup, by simp, fun x hx y hy e => ?_⟩
    obtain ⟨it, hi, rfl⟩ := List.mem_map.1 hx
    simp only [List.map_cons, List.map_nil, List.mem_singleton] at hy
    have := lt_of_block (H.out it hi)
    omega

theorem round_in {wr : World} {S : Nat} {L : List Lab} {k : Nat} {e : TypeId} (h : wr.heap[S]? = some (.cells (labCells (fillLabs L k)).toArray e (0, 0))) (hin : k < L.length) :
    ((((wr.setCell ⟨S, k * 2, none⟩ (.string ⟨#[115, 112, 97, 114, 101]⟩)).setCell ⟨S, k * 2 + 1, none⟩ (.string ⟨#[]⟩)).setCell ⟨S, k * 2, none⟩ (.string (labAt L k).1)).setCell ⟨S, k * 2 + 1, none⟩ (.string (labAt L k).2)).drew.heap[S]? =
      some (.cells (labCells (fillLabs L (k + 1))).toArray e (0, 0)) := by
  have e2 := store_lab (store_lab h k spareLab) k (labAt L k)
  rw [List.set_set] at e2
  refine Eq.trans e2 ?_
  rw [← lentLabs_low L k hin, fillLabs_succ L k (by omega)]

theorem round_out {wr : World} {S : Nat} {L : List Lab} {k : Nat} {e : TypeId} (h : wr.heap[S]? = some (.cells (labCells (fillLabs L k)).toArray e (0, 0))) (hin : ¬ k < L.length) (hlt : k < L.length + 8) :
    ((wr.setCell ⟨S, k * 2, none⟩ (.string ⟨#[115, 112, 97, 114, 101]⟩)).setCell ⟨S, k * 2 + 1, none⟩ (.string ⟨#[]⟩)).heap[S]? = some (.cells (labCells (fillLabs L (k + 1))).toArray e (0, 0)) := by
  have e2 := store_lab h k spareLab
  refine Eq.trans e2 ?_
  rw [← lentLabs_high L k (by omega) hlt, fillLabs_succ L k hlt]

set_option maxRecDepth 100000 in
set_option maxHeartbeats 400000 in
theorem lend_some (L : List Lab) (a : Option Addr) (cap X : Nat) (v1 v2 : Value) (its : List Item) (w : World) (hl : L.length ≤ 4398046511104) (h0 : 0 < L.length) (h : LabsAt w a L) (H : Lent w X v1 v2 its) (hits : its.length ≤ 1000)
    (hap : ∀ p, a = some p → ¬ lentFoot X v1 v2 its p.block) :
    Calls Try.prog 19 #[.pointer (some ⟨X, 0, none⟩), .slice a L.length cap] w fun e w' => ∃ v1' v2' B, e = .returned (.slice (some ⟨B, 0, none⟩) L.length (L.length + 8)) ∧ w.heap.size ≤ B ∧
      Lent w' X v1' v2' (its ++ [⟨L, a, cap, B⟩]) ∧ Kept (boxFoot X v1 v2) w w' ∧ ∀ k, boxFoot X v1' v2' k → boxFoot X v1 v2 k ∨ w.heap.size ≤ k := by
  obtain ⟨i0, hi, hz0, hz1, hz2⟩ := info_parts Try.infoLab
  go_enter Try.func19, Try.ntmps19
  go_wp2_with (at_make; refine wpList_make_row _ rfl _ _ 31 rfl 51 i0 _ 2 Try.underlying31 hi hz0 hz1 _ _ _ _ (L.length + 8) rfl rfl (by omega) (by omega) (by rw [hz2]; omega) (by unfold maxLen; omega) ?_; intro w1 hn1 hb1)
  clear hi hz0 hz1 hz2
  go_loopw [6] (fun i wr => ∃ k : Nat, k ≤ L.length + 8 ∧ i = .int .i64 k ∧ Below w.heap.size w wr ∧ wr.heap[w.heap.size]? = some (.cells (labCells (fillLabs L k)).toArray 51 (0, 0))) (fun i _ => L.length + 8 - (intOf i).toNat)
  case atStart => exact ⟨0, Nat.zero_le _, rfl, hb1, by rw [hn1]; congr 2; exact made_labs _⟩
  case round =>
    obtain ⟨k, hk, rfl, hbw, hB⟩ := hrel
    by_cases hlt : k < L.length + 8
    · obtain ⟨hc1, hc2⟩ := labCells_get (fillLabs L k) k (by rw [fillLabs_length L k hk]; exact hlt)
      have hs1 : wr.cell? ⟨w.heap.size, k * 2, none⟩ = some (.string (labAt (fillLabs L k) k).1) := by rw [cell_of_block hB]; simpa using hc1
      have hs2 : wr.cell? ⟨w.heap.size, k * 2 + 1, none⟩ = some (.string (labAt (fillLabs L k) k).2) := by rw [cell_of_block hB]; simpa using hc2
      have hf1 : wr.frozen? ⟨w.heap.size, k * 2, none⟩ = false := frozen_of_block hB
      have hf2 : wr.frozen? ⟨w.heap.size, k * 2 + 1, none⟩ = false := frozen_of_block hB
      clear hc1 hc2
      have HB : Hid (wr.heap[w.heap.size]? = some (.cells (labCells (fillLabs L k)).toArray 51 (0, 0))) := hB
      clear hB
      by_cases hin : k < L.length
      · obtain ⟨b, off, rfl, hc⟩ := h.head (by omega)
        obtain ⟨hc1, hc2⟩ := hc k hin
        have hbl : b < w.heap.size := World.block_lt_of_cell? w _ hc1
        have hd1 : wr.cell? ⟨b, off + k * 2, none⟩ = some (.string (labAt L k).1) := by rw [← hc1]; exact hbw.cell hbl
        have hd2 : wr.cell? ⟨b, off + k * 2 + 1, none⟩ = some (.string (labAt L k).2) := by rw [← hc2]; exact hbw.cell hbl
        clear hc hc1 hc2
        go_wp2
        go_region
        go_wp2
        go_roundw
        case rel =>
          refine ⟨k + 1, by omega, by go_num, ?_, round_in HB.out hin⟩
          exact ((((hbw.setCell (Nat.le_refl _) _).setCell (Nat.le_refl _) _).setCell (Nat.le_refl _) _).setCell (Nat.le_refl _) _).drew
        case measure => simp [intOf]; omega
      · go_wp2
        go_roundw
        case rel =>
          refine ⟨k + 1, by omega, by go_num, ?_, round_out HB.out hin hlt⟩
          exact (hbw.setCell (Nat.le_refl _) _).setCell (Nat.le_refl _) _
        case measure => simp [intOf]; omega
    · obtain rfl : k = L.length + 8 := by omega
      rw [fillLabs_full] at hB
      have hX : X < w.heap.size := lt_of_block H.box
      have hbox : wr.heap[X]? = some (.cells #[v1, v2] 38 (0, 0)) := by rw [hbw.block X hX]; exact H.box
      have hx0 : wr.cell? ⟨X, 0, none⟩ = some v1 := by rw [cell_of_block hbox]; rfl
      have hx1 : wr.cell? ⟨X, 1, none⟩ = some v2 := by rw [cell_of_block hbox]; rfl
      have hfx0 : wr.frozen? ⟨X, 0, none⟩ = false := frozen_of_block hbox
      have hr1 : wr.ownsRow 0 31 1 v1 its.length (its.map Item.out) := (Kept.of_below (F := noBlock) hbw).ownsRow H.r1 (fun _ _ => id)
      have HB : Hid (wr.heap[w.heap.size]? = some (.cells (labCells (lentLabs L)).toArray 51 (0, 0))) := hB
      have hX' : X < wr.heap.size := lt_of_block hbox
      obtain ⟨i1, hi1, hz10, hz11, hz12⟩ := info_parts Try.infoAL
      obtain ⟨i2, hi2, hz20, hz21, hz22⟩ := info_parts Try.infoRL
      clear hB hbox
      go_wp2_with (first
        | (at_builtin; refine wpList_append_row _ rfl (.tmp 46) (.tmp 48) 35 rfl 31 i1 _ 1 24 Try.underlying35 hi1 hz10 hz11 hz12 rfl (by decide) v1 its.length _ rfl (by exact hr1.alloc _) ⟨wr.heap.size, 0, none⟩ 1 1 [.slice (some ⟨w.heap.size, 0, none⟩) (L.length + 8) (L.length + 8)] rfl rfl (by exact cell_one_new _ _ _) (by intro u hu; simp at hu; subst hu; rfl) (by unfold maxLen; omega) (by omega) ?_; intro ao1 cp1 w2 ho1 hg1 hf1; obtain ⟨q0, q1, q2, q3, q4⟩ := step_two (w := w) (wr := wr) H hbw hg1)
        | (at_builtin; refine wpList_append_row _ rfl (.tmp 56) (.tmp 58) 36 rfl 23 i2 _ 1 24 Try.underlying36 hi2 hz20 hz21 hz22 rfl (by decide) v2 its.length _ rfl (by exact (q4 _).alloc _) ⟨w2.heap.size, 0, none⟩ 1 1 [.slice a L.length cap] rfl rfl (by exact cell_one_new' _ _ _ _ (size_setCell _ _ _).symm) (by intro u hu; simp at hu; subst hu; rfl) (by unfold maxLen; omega) (by omega) ?_; intro ao2 cp2 w3 ho2 hg2 hf2; obtain ⟨s0, s1⟩ := step_three (w := w) (wr := wr) H hbw hg1 hg2; have t1 := cell_of_block (i := 1) s0; have t2 := frozen_of_block (i := 1) s0; clear s0 s1 q0 q1 q2 q3))
      go_ret
      exact ⟨_, _, w.heap.size, rfl, Nat.le_refl _, lend_close H hbw HB.out hl h0 h hap hg1 hg2 ho1 ho2 hf1 hf2⟩

/-- A slice that was handed over. -/
def Out (its : List Item) (a : Option Addr) (L : List Lab) : Prop := L = [] ∨ ∃ it ∈ its, it.L = L ∧ a = some ⟨it.blk, 0, none⟩

theorem Out.labs {w : World} {X : Nat} {v1 v2 : Value} {its : List Item} {a : Option Addr} {L : List Lab} (h : Out its a L) (H : Lent w X v1 v2 its) : LabsAt w a L := by
  rcases h with rfl | ⟨it, hi, rfl, rfl⟩
  · exact LabsAt.nil _ _
  · intro k hk
    have hb := H.out it hi
    obtain ⟨g1, g2⟩ := labCells_get (lentLabs it.L) k (by rw [lentLabs_length]; omega)
    rw [lentLabs_low _ _ hk] at g1 g2
    refine ⟨it.blk, 0, rfl, ?_, ?_⟩
    · rw [cell_of_block hb]; simpa using g1
    · rw [cell_of_block hb]; simpa using g2

theorem Out.mono {its its' : List Item} {a : Option Addr} {L : List Lab} (h : Out its a L) (hs : ∀ it ∈ its, it ∈ its') : Out its' a L :=
  h.elim .inl (fun ⟨it, hi, r⟩ => .inr ⟨it, hs it hi, r⟩)

set_option maxRecDepth 100000 in
set_option maxHeartbeats 400000 in
theorem lend_none (a : Option Addr) (cap X : Nat) (w : World) :
    Calls Try.prog 19 #[.pointer (some ⟨X, 0, none⟩), .slice a 0 cap] w fun e w' => e = .returned (.slice none 0 0) ∧ w' = w := by
  go_enter Try.func19, Try.ntmps19
  go_wp2
  go_ret
  exact ⟨rfl, rfl⟩

/-- lend: whatever the list. -/
theorem lend_any (L : List Lab) (a : Option Addr) (cap X : Nat) (v1 v2 : Value) (its : List Item) (w : World) (hl : L.length ≤ 4398046511104) (h : LabsAt w a L) (H : Lent w X v1 v2 its) (hits : its.length ≤ 1000)
    (hap : 0 < L.length → ∀ p, a = some p → ¬ lentFoot X v1 v2 its p.block) :
    Calls Try.prog 19 #[.pointer (some ⟨X, 0, none⟩), .slice a L.length cap] w fun e w' => ∃ a' c' v1' v2' its', e = .returned (.slice a' L.length c') ∧ Out its' a' L ∧ L.length ≤ c' ∧ Lent w' X v1' v2' its' ∧
      Kept (boxFoot X v1 v2) w w' ∧ (∀ k, boxFoot X v1' v2' k → boxFoot X v1 v2 k ∨ w.heap.size ≤ k) ∧ its'.length ≤ its.length + 1 ∧ (∀ it ∈ its, it ∈ its') ∧ (∀ it ∈ its', it ∈ its ∨ (0 < L.length ∧ it.a = a ∧ w.heap.size ≤ it.blk)) := by
  cases L with
  | nil =>
    refine (lend_none a cap X w).mono ?_
    rintro e w' ⟨rfl, rfl⟩
    exact ⟨none, 0, v1, v2, its, rfl, .inl rfl, by simp, H, Kept.refl _ _, fun k hk => .inl hk, by omega, fun it hi => hi, fun it hi => .inl hi⟩
  | cons x L =>
    refine (lend_some (x :: L) a cap X v1 v2 its w hl (by simp) h H hits (hap (by simp))).mono ?_
    rintro e w' ⟨v1', v2', B, rfl, hB, H', K, hf⟩
    refine ⟨_, _, v1', v2', _, rfl, .inr ⟨⟨x :: L, a, cap, B⟩, by simp, rfl, rfl⟩, by omega, H', K, hf, by simp, fun it hi => by simp [hi], fun it hi => ?_⟩
    rcases List.mem_append.1 hi with hi | hi
    · exact .inl hi
    · simp only [List.mem_singleton] at hi
      subst hi
      exact .inr ⟨by simp, rfl, hB⟩

end Go.Proofs.Ytchddaafibjmgaa
