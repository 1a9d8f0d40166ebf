/-
  One Berth, and rows beside it.
-/
import Derived.Test.YtchddaafibjmgaaQK8
import Derived.Test.YtchddaafibjmgaaQEnoughP
namespace Go.Proofs.Ytchddaafibjmgaa
open Go.RowKit Go.Maps

/-- A Berth, laid since w. -/
structure Solo (w wr : World) (Y : Nat) (F : Nat → Prop) (a : Abs) : Prop where
  st : BSt F wr Y a
  lo : ∀ x, F x → w.heap.size ≤ x
  below : Below w.heap.size w wr

/-- A row beside it. -/
structure RowIn (F : Nat → Prop) (w wr : World) (e : TypeId) (s : Nat) (v : Value) (n : Nat) (xs : List Value) : Prop where
  row : wr.ownsRow 0 e s v n xs
  new : ∀ b, v.ownBlock = some b → w.heap.size ≤ b ∧ ¬ F b

section
variable {w wr w' : World} {Y : Nat} {F F' : Nat → Prop} {a a' : Abs} {e : TypeId} {s n : Nat} {v : Value} {xs : List Value}

theorem Solo.onward (D : Solo w wr Y F a) (hb : Below wr.heap.size wr w') : Solo w w' Y F a := ⟨D.st.below hb, D.lo, D.below.trans (hb.mono D.below.size)⟩

theorem Solo.step (D : Solo w wr Y F a) (L : Left F wr Y a' F' w') : Solo w w' Y F' a' := by
  refine ⟨L.st, fun x hx => ?_, D.below.trans (L.kept.below D.below.size fun i hi h => by have := D.lo i h; omega)⟩
  rcases L.less x hx with h | h
  · exact D.lo x h
  · have := D.below.size; omega

/-- What is turned beside it. -/
theorem Solo.beside (D : Solo w wr Y F a) {G : Nat → Prop} (hk : Kept G wr w') (hG : ∀ b, G b → w.heap.size ≤ b ∧ ¬ F b) : Solo w w' Y F a :=
  ⟨D.st.kept hk fun b hb g => (hG b g).2 hb, D.lo, D.below.trans (hk.below D.below.size fun i hi g => by have := (hG i g).1; omega)⟩

theorem RowIn.onward (R : RowIn F w wr e s v n xs) (hb : Below wr.heap.size wr w') : RowIn F w w' e s v n xs := ⟨(Kept.of_below (F := noBlock) hb).ownsRow R.row fun _ _ => id, R.new⟩

theorem RowIn.left (R : RowIn F w wr e s v n xs) (L : Left F wr Y a' F' w') : RowIn F' w w' e s v n xs := by
  refine ⟨L.kept.ownsRow R.row fun b hb h => (R.new b hb).2 h, fun b hb => ⟨(R.new b hb).1, fun h => ?_⟩⟩
  rcases L.less b h with h | h
  · exact (R.new b hb).2 h
  · have := (R.row.lt b hb).2; omega

theorem RowIn.beside (R : RowIn F w wr e s v n xs) {G : Nat → Prop} (hk : Kept G wr w') (hG : ∀ b, v.ownBlock = some b → ¬ G b) : RowIn F w w' e s v n xs := ⟨hk.ownsRow R.row hG, R.new⟩

end

/-! ### the rooms -/
def roomRow (x : RawD × Value × Value) : List Value := [.string x.1.nodeName, .int .i64 x.1.room.1, .int .i64 x.1.room.2.1, .int .i64 x.1.room.2.2, x.2.1, x.2.2]

theorem infoAN : (Try.prog.info? 42).map (fun i => (i.zero, i.size, i.bytes)) = some (some (.agg #[.string ⟨#[]⟩, .int .i64 0, .int .i64 0, .int .i64 0, .slice none 0 0, .slice none 0 0]), 6, 88) := by kernel_rfl

theorem six_at (w : World) (a b c d e f : Value) (t : TypeId) : ∀ (j : Nat) u, [a, b, c, d, e, f][j]? = some u → (w.alloc (.cells #[a, b, c, d, e, f] t)).cell? ((⟨w.heap.size, 0, none⟩ : Addr).add j) = some u := by
  intro j u hu
  have ha : (⟨w.heap.size, 0, none⟩ : Addr).add j = ⟨w.heap.size, j, none⟩ := by
    unfold Addr.add
    split
    · rename_i h; rw [h]
    · simp
  rw [ha, cell_of_block (block_alloc_new w _), ← hu]
  simp

/-- A row that a call appends to, beside a Berth. -/
theorem RowIn.grown {F : Nat → Prop} {w wr w' : World} {e : TypeId} {s n m : Nat} {v v' : Value} {xs ys : List Value} (R : RowIn F w wr e s v n xs) (hlt : ∀ b, F b → b < wr.heap.size) (hs : w.heap.size ≤ wr.heap.size) (r : w'.ownsRow 0 e s v' (n + m) ys) (f : v'.ownBlock = v.ownBlock ∨ ∀ k, v'.ownBlock = some k → wr.heap.size ≤ k) : RowIn F w w' e s v' (n + m) ys := by
  refine ⟨r, fun b hb => ?_⟩
  rcases f with f | f
  · exact R.new b (by rw [← f]; exact hb)
  · have := f b hb
    exact ⟨by omega, fun h => by have := hlt b h; omega⟩

end Go.Proofs.Ytchddaafibjmgaa
