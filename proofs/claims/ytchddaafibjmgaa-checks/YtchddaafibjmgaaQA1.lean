/-
  Plain facts for the walks: lists of labels as they lie in memory, their equality, and what it is to have every label among others.
  General facts on worlds: what a call leaves as it was but for some blocks ('Kept'), a block's content behind stores, and append onto a row of the call's own whose block is known.
  The cells of a list of labels.
-/
import Derived.Test.YtchddaafibjmgaaRows
import Derived.WalkKit
import Derived.WalkSpells
import Derived.WalkLawsBesides
import Derived.Deep.QuietTactic
import Derived.BigQuiet
import Derived.Laws.StructEq
namespace Go.Proofs.Ytchddaafibjmgaa
open Go.RowKit

/-- A label: its key and its value. -/
abbrev Lab : Type := ByteArray × ByteArray

/-- Two labels are the same. -/
def labEq (x y : Lab) : Bool := x.1.toList == y.1.toList && x.2.toList == y.2.toList

theorem labEq_comm (x y : Lab) : labEq x y = labEq y x := by
  unfold labEq
  rw [Bool.beq_comm (a := x.1.toList), Bool.beq_comm (a := x.2.toList)]

/-- x is among L. -/
def labHas (L : List Lab) (x : Lab) : Bool := L.any (labEq x)

/-- Each of l is among L. -/
def labFits (l L : List Lab) : Bool := l.all (labHas L)

/-- The k-th label. -/
def labAt (L : List Lab) (k : Nat) : Lab := (L[k]?).getD (ByteArray.empty, ByteArray.empty)

/-- A list of labels lies at an address, two cells a label. -/
def LabsAt (w : World) (a : Option Addr) (L : List Lab) : Prop :=
  ∀ k, k < L.length → ∃ b off, a = some ⟨b, off, none⟩ ∧ w.cell? ⟨b, off + k * 2, none⟩ = some (.string (labAt L k).1) ∧ w.cell? ⟨b, off + k * 2 + 1, none⟩ = some (.string (labAt L k).2)

theorem LabsAt.nil (w : World) (a : Option Addr) : LabsAt w a [] := fun k hk => absurd hk (by simp)

theorem LabsAt.head {w : World} {a : Option Addr} {L : List Lab} (h : LabsAt w a L) (h0 : 0 < L.length) :
    ∃ b off, a = some ⟨b, off, none⟩ ∧ ∀ k, k < L.length → w.cell? ⟨b, off + k * 2, none⟩ = some (.string (labAt L k).1) ∧ w.cell? ⟨b, off + k * 2 + 1, none⟩ = some (.string (labAt L k).2) := by
  obtain ⟨b, off, e, _⟩ := h 0 h0
  refine ⟨b, off, e, fun k hk => ?_⟩
  obtain ⟨b', off', e', h1⟩ := h k hk
  rw [e] at e'
  simp only [Option.some.injEq, Addr.mk.injEq, and_true] at e'
  obtain ⟨rfl, rfl⟩ := e'
  exact h1

theorem LabsAt.below {w w' : World} {a : Option Addr} {L : List Lab} (h : LabsAt w a L) (hb : Below w.heap.size w w') : LabsAt w' a L := by
  intro k hk
  obtain ⟨b, off, e, h1, h2⟩ := h k hk
  have hl := World.block_lt_of_cell? w _ h1
  refine ⟨b, off, e, ?_, ?_⟩
  · rw [← h1]; exact hb.cell hl
  · rw [← h2]; exact hb.cell hl

theorem LabsAt.low {w : World} {a : Option Addr} {L : List Lab} (h : LabsAt w a L) (h0 : 0 < L.length) (p : Addr) (e : a = some p) : p.block < w.heap.size := by
  obtain ⟨b, off, e', h1, _⟩ := h 0 h0
  rw [e] at e'
  simp only [Option.some.injEq] at e'
  subst e'
  exact World.block_lt_of_cell? w _ h1

theorem below_alloc (w : World) (o : Obj) : Below w.heap.size w (w.alloc o) := (Below.refl _ _).alloc (Nat.le_refl _) _

/-- Nothing old turns in two steps. -/
theorem below_trans {a b c : World} (h : Below a.heap.size a b) (k : Below b.heap.size b c) : Below a.heap.size a c := h.trans (k.mono h.size)

theorem labHas_take {L : List Lab} {x : Lab} {k : Nat} (hk : k < L.length) : labHas (L.take (k + 1)) x = (labHas (L.take k) x || labEq x (labAt L k)) := by
  unfold labHas labAt
  rw [List.take_succ_eq_append_getElem hk, List.any_append, List.getElem?_eq_getElem hk]
  simp only [List.any_cons, List.any_nil, Bool.or_false, Option.getD_some]

theorem labFits_take {l L : List Lab} {k : Nat} (hk : k < l.length) : labFits (l.take (k + 1)) L = (labFits (l.take k) L && labHas L (labAt l k)) := by
  unfold labFits labAt
  rw [List.take_succ_eq_append_getElem hk, List.all_append, List.getElem?_eq_getElem hk]
  simp only [List.all_cons, List.all_nil, Bool.and_true, Option.getD_some]

theorem labHas_of_at {L : List Lab} {x : Lab} {k : Nat} (hk : k < L.length) (h : labEq x (labAt L k) = true) : labHas L x = true := by
  unfold labHas
  rw [List.any_eq_true]
  refine ⟨labAt L k, ?_, h⟩
  unfold labAt
  rw [List.getElem?_eq_getElem hk]
  exact List.getElem_mem hk

theorem labFits_of_at {l L : List Lab} {k : Nat} (hk : k < l.length) (h : labHas L (labAt l k) = false) : labFits l L = false := by
  unfold labFits
  rw [List.all_eq_false]
  refine ⟨labAt l k, ?_, by simp [h]⟩
  unfold labAt
  rw [List.getElem?_eq_getElem hk]
  exact List.getElem_mem hk

/-- The two types of labels, compared by the program's own '=='. -/
theorem eql_api (a b c d : ByteArray) (w : World) : (binOp .eql 51 (.agg #[.string a, .string b]) (.agg #[.string c, .string d])).run Try.prog w = .ok (.bool (labEq (a, b) (c, d))) w := by
  have u9 := Try.underlying9
  have a9 := Try.isAgg9
  have z9 := Try.sizeOf9
  have hS : Try.prog.underlying 51 = some (.struct (Try.prog.fieldsOf 51)) := by kernel_rfl
  have hp : Try.prog.stoodInHeld 51 = false := by kernel_rfl
  rw [run_eql_struct, show (10000 : Nat) = 9999 + 1 from rfl, run_equalIn_agg w 9999 51 _ _ hS hp]
  simp only [Program.fieldsOf, Try.underlying51]
  go_simp
  unfold labEq
  by_cases h1 : a.toList = c.toList <;> by_cases h2 : b.toList = d.toList <;> simp [h1, h2]

theorem eql_ref (a b c d : ByteArray) (w : World) : (binOp .eql 92 (.agg #[.string a, .string b]) (.agg #[.string c, .string d])).run Try.prog w = .ok (.bool (labEq (a, b) (c, d))) w := by
  have u9 := Try.underlying9
  have a9 := Try.isAgg9
  have z9 := Try.sizeOf9
  have hS : Try.prog.underlying 92 = some (.struct (Try.prog.fieldsOf 92)) := by kernel_rfl
  have hp : Try.prog.stoodInHeld 92 = false := by kernel_rfl
  rw [run_eql_struct, show (10000 : Nat) = 9999 + 1 from rfl, run_equalIn_agg w 9999 92 _ _ hS hp]
  simp only [Program.fieldsOf, Try.underlying92]
  go_simp
  unfold labEq
  by_cases h1 : a.toList = c.toList <;> by_cases h2 : b.toList = d.toList <;> simp [h1, h2]

end Go.Proofs.Ytchddaafibjmgaa

namespace Go.Proofs.Ytchddaafibjmgaa
open Go.RowKit

/-- Behind w lies w': of the blocks that were there only those of F may have turned. -/
structure Kept (F : Nat → Prop) (w w' : World) : Prop where
  os : w'.os = w.os
  tape : w'.tape = w.tape
  output : w'.output = w.output
  size : w.heap.size ≤ w'.heap.size
  block : ∀ k, k < w.heap.size → ¬ F k → w'.heap[k]? = w.heap[k]?

/-- P, and the blocks that came between w and w'. -/
def grow (P : Nat → Prop) (w w' : World) : Nat → Prop := fun k => P k ∨ (w.heap.size ≤ k ∧ k < w'.heap.size)

def noBlock : Nat → Prop := fun _ => False

theorem Kept.refl (F : Nat → Prop) (w : World) : Kept F w w := ⟨rfl, rfl, rfl, Nat.le_refl _, fun _ _ _ => rfl⟩

theorem Kept.trans {F G : Nat → Prop} {a b c : World} (h : Kept F a b) (k : Kept G b c) (hG : ∀ i, i < a.heap.size → G i → F i) : Kept F a c :=
  ⟨k.os.trans h.os, k.tape.trans h.tape, k.output.trans h.output, Nat.le_trans h.size k.size, fun i hi hF => (k.block i (Nat.lt_of_lt_of_le hi h.size) (fun g => hF (hG i hi g))).trans (h.block i hi hF)⟩

theorem Kept.mono {F G : Nat → Prop} {a b : World} (h : Kept F a b) (hG : ∀ i, i < a.heap.size → F i → G i) : Kept G a b :=
  ⟨h.os, h.tape, h.output, h.size, fun i hi hg => h.block i hi (fun f => hg (hG i hi f))⟩

theorem Kept.of_below {F : Nat → Prop} {a b : World} (h : Below a.heap.size a b) : Kept F a b := ⟨h.os, h.tape, h.output, h.size, fun i hi _ => h.block i hi⟩

theorem Kept.below {F : Nat → Prop} {B : Nat} {a b : World} (h : Kept F a b) (hB : B ≤ a.heap.size) (hF : ∀ i, i < B → ¬ F i) : Below B a b :=
  ⟨h.os, h.tape, h.output, h.size, fun i hi => h.block i (Nat.lt_of_lt_of_le hi hB) (hF i hi)⟩

theorem Kept.alloc {F : Nat → Prop} {a w : World} (h : Kept F a w) (o : Obj) : Kept F a (w.alloc o) :=
  ⟨h.os, h.tape, h.output, Nat.le_trans h.size (by simp), fun k hk hF => (Below.heap_alloc _ _ _ (Nat.lt_of_lt_of_le hk h.size)).trans (h.block k hk hF)⟩

theorem Kept.drew {F : Nat → Prop} {a w : World} (h : Kept F a w) : Kept F a w.drew := ⟨h.os, h.tape, h.output, h.size, h.block⟩

theorem Kept.drewN {F : Nat → Prop} {a w : World} (h : Kept F a w) (n : Nat) : Kept F a (w.drewN n) := ⟨h.os, h.tape, h.output, h.size, h.block⟩

theorem Kept.setCell {F : Nat → Prop} {a w : World} (h : Kept F a w) {p : Addr} (hp : p.block < a.heap.size → F p.block) (u : Value) : Kept F a (w.setCell p u) :=
  ⟨h.os, h.tape, h.output, by simpa [World.setCell] using h.size, fun k hk hF => (Below.heap_setCell w p u k (fun e => hF (by rw [e]; exact hp (by rw [← e]; exact hk)))).trans (h.block k hk hF)⟩

theorem Kept.grown {F : Nat → Prop} {a w w' : World} {row : Option Nat} (h : Kept F a w) (hg : w.grownBy w' row) (hr : ∀ k, row = some k → k < a.heap.size → F k) : Kept F a w' :=
  ⟨hg.os.trans h.os, hg.tape.trans h.tape, hg.output.trans h.output, Nat.le_trans h.size hg.size,
    fun k hk hF => (hg.block k (Nat.lt_of_lt_of_le hk h.size) (fun e => hF (hr k e.symm hk))).trans (h.block k hk hF)⟩

theorem Kept.cell {F : Nat → Prop} {w w' : World} (h : Kept F w w') {p : Addr} (hp : p.block < w.heap.size) (hF : ¬ F p.block) : w'.cell? p = w.cell? p := World.cell?_of_block (w := w) (h.block p.block hp hF)

theorem Kept.frozen {F : Nat → Prop} {w w' : World} (h : Kept F w w') {p : Addr} (hp : p.block < w.heap.size) (hF : ¬ F p.block) : w'.frozen? p = w.frozen? p := World.frozen?_of_block (w := w) (h.block p.block hp hF)

theorem Kept.ownsRow {F : Nat → Prop} {w w' : World} (h : Kept F w w') {base : Nat} {e : TypeId} {size : Nat} {v : Value} {n : Nat} {xs : List Value} (ho : w.ownsRow base e size v n xs) (hF : ∀ k, v.ownBlock = some k → ¬ F k) :
    w'.ownsRow base e size v n xs := by
  refine ⟨ho.1, ?_⟩
  rcases ho.2 with hn | ⟨g, cap, cur, rfl, hb, hgg, rest⟩
  · exact .inl hn
  · refine .inr ⟨g, cap, cur, rfl, hb, ?_, rest⟩
    rw [h.block g (Array.getElem?_eq_some_iff.1 hgg).1 (hF g rfl)]
    exact hgg

/-! ### A block's content -/

theorem lt_of_block {w : World} {b : Nat} {o : Obj} (h : w.heap[b]? = some o) : b < w.heap.size := (Array.getElem?_eq_some_iff.1 h).1

theorem cell_of_block {w : World} {b i : Nat} {c : Array Value} {e : TypeId} {fr : Nat × Nat} (h : w.heap[b]? = some (.cells c e fr)) : w.cell? ⟨b, i, none⟩ = c[i]? := by
  simp [World.cell?, h]

theorem frozen_of_block {w : World} {b i : Nat} {c : Array Value} {e : TypeId} (h : w.heap[b]? = some (.cells c e (0, 0))) : w.frozen? ⟨b, i, none⟩ = false := by
  simp [World.frozen?, h]

theorem block_setCell {w : World} {b i : Nat} {c : Array Value} {e : TypeId} {fr : Nat × Nat} (h : w.heap[b]? = some (.cells c e fr)) (v : Value) :
    (w.setCell ⟨b, i, none⟩ v).heap[b]? = some (.cells (c.setIfInBounds i v) e fr) := by
  simp [World.setCell, Array.getElem?_modify, h]

theorem block_setCell_other {w : World} {b b' i : Nat} (hne : b ≠ b') (v : Value) : (w.setCell ⟨b', i, none⟩ v).heap[b]? = w.heap[b]? :=
  Below.heap_setCell _ _ _ _ (by simpa using hne)

theorem block_alloc_new (w : World) (o : Obj) : (w.alloc o).heap[w.heap.size]? = some o := by
  show (w.heap.push o)[w.heap.size]? = _
  simp

theorem cell_one_new' (w : World) (x : Value) (t : TypeId) (n : Nat) (hn : n = w.heap.size) : ∀ j u, [x][j]? = some u → (w.alloc (.cells #[x] t)).cell? ((⟨n, 0, none⟩ : Addr).add j) = some u := by
  subst hn; exact cell_one_new w x t

theorem size_setCell (w : World) (a : Addr) (v : Value) : (w.setCell a v).heap.size = w.heap.size := by simp [World.setCell]

/-! ### append onto a row of the call's own: the same row, or a new one -/

section
variable {P : Program} (w : World)

theorem slice_of_own {w : World} {base : Nat} {e : TypeId} {size : Nat} {v : Value} {n : Nat} {xs : List Value} (h : w.ownsRow base e size v n xs) : ∃ ao cap, v = .slice ao n cap := by
  rcases h.2 with ⟨rfl, rfl⟩ | ⟨g, cap, cur, rfl, _⟩
  · exact ⟨none, 0, rfl⟩
  · exact ⟨_, _, rfl⟩

theorem own_at {w : World} {base : Nat} {e : TypeId} {ao : Option Addr} {m cap n : Nat} {xs : List Value} (h : w.ownsRow base e 1 (.slice ao m cap) n xs) (hn : 0 < n) :
    ∃ g, ao = some ⟨g, 0, none⟩ ∧ g < w.heap.size ∧ ∀ k, k < n → w.cell? ⟨g, k, none⟩ = xs[k]? := by
  rcases h.2 with ⟨_, rfl⟩ | ⟨g, cap', cur, hv, _, hgg, _, _, _, htk⟩
  · omega
  · simp only [Value.slice.injEq] at hv
    refine ⟨g, hv.1, lt_of_block hgg, fun k hk => ?_⟩
    rw [cell_of_block hgg, ← htk, List.getElem?_take, if_pos (by omega)]
    simp

theorem run_append_row (t ty e : TypeId) (i : TypeInfo) (z : Value) (size bytes : Nat) (ht : P.underlying t = some (.slice e)) (hi : P.info? e = some i) (hz : i.zero = some z)
    (hsize : i.size = size) (hby : i.bytes = bytes) (hzs : z.cells.size = size) (hsz : 0 < size)
    (v : Value) (n : Nat) (xs : List Value) (hown : w.ownsRow 0 e size v n xs)
    (a : Addr) (m c : Nat) (news : List Value) (hl : news.length = m * size) (hnews : ∀ j u, news[j]? = some u → w.cell? (a.add j) = some u) (h1 : ∀ u ∈ news, u.oneCell' = true)
    (h63 : n + m ≤ maxLen) (hbytes : (n + m) * bytes ≤ 140737488355328) :
    ∃ v' w', (Builtin.append_ #[t, t] ty #[v, .slice (some a) m c]).run P w = .ok v' w' ∧ w'.ownsRow 0 e size v' (n + m) (xs ++ news) ∧ w.grownBy w' v.ownBlock ∧
      (v'.ownBlock = v.ownBlock ∨ ∀ k, v'.ownBlock = some k → w.heap.size ≤ k) := by
  have weak : ∀ {b : Nat} {w : World} {v : Value} {n : Nat} {xs : List Value}, w.ownsRow b e size v n xs → w.ownsRow 0 e size v n xs := by
    intro b w v n xs h
    refine ⟨h.1, ?_⟩
    rcases h.2 with hn | ⟨g, cap, cur, rfl, _, r⟩
    · exact .inl hn
    · exact .inr ⟨g, cap, cur, rfl, Nat.zero_le _, r⟩
  have fresh : ∀ {w' : World} {v : Value} {n : Nat} {xs : List Value}, w'.ownsRow w.heap.size e size v n xs → ∀ k, v.ownBlock = some k → w.heap.size ≤ k := fun h k hk => (h.lt k hk).1
  rcases hown.2 with ⟨rfl, rfl⟩ | ⟨g, cap, cur, rfl, hbg, hg, hnc, hcm, hcs, htake⟩
  · have hx : xs = [] := List.eq_nil_of_length_eq_zero (by simpa using hown.1)
    subst hx
    obtain ⟨v', w', hr, r1, r2, _⟩ := run_append_own (P := P) w w.heap.size t ty e i z size bytes ht hi hz hsize hby hzs hsz _ 0 [] (World.ownsRow_nil w _ _ _) a m c news hl hnews h1 h63 hbytes (Nat.le_refl _)
    exact ⟨v', w', hr, weak r1, r2, .inr (fresh r1)⟩
  · by_cases hroom : n + m ≤ cap
    · obtain ⟨w', hr, r1, r2⟩ := run_append_fits (P := P) w 0 t ty e i size ht hi hsize g n cap xs hown a m c news hl hnews h1 hroom
      exact ⟨_, w', hr, r1, r2, .inl rfl⟩
    · have holds : ∀ j u, xs[j]? = some u → w.cell? ((⟨g, 0, none⟩ : Addr).add j) = some u := hown.cells (g := g) rfl
      obtain ⟨v', w', hr, r1, r2⟩ := run_append_arg_grows (P := P) w t ty e i z size bytes ht hi hz hsize hby hzs hsz ⟨g, 0, none⟩ n cap xs hown.1 holds a m c news hl hnews (by omega) h63 hbytes
      exact ⟨v', w', hr, weak r1, ⟨r2.os, r2.tape, r2.output, r2.size, fun k hk _ => r2.block k hk (by simp)⟩, .inr (fresh r1)⟩

theorem wpList_append_row {ops : Array Oper} {rest : List Oper} {o : Oper} {a : Act} {Q : Exit → Act → World → Prop} (hgd : o.guard = none) (s x : Operand) (t : TypeId)
    (ho : o.op = .call { callee := .builtin .append, args := #[s, x], argTypes := #[t, t] })
    (e : TypeId) (i : TypeInfo) (z : Value) (size bytes : Nat) (ht : P.underlying t = some (.slice e)) (hi : P.info? e = some i) (hz : i.zero = some z)
    (hsize : i.size = size) (hby : i.bytes = bytes) (hzs : z.cells.size = size) (hsz : 0 < size)
    (v : Value) (n : Nat) (xs : List Value) (hs : a.eval s = v) (hown : w.ownsRow 0 e size v n xs)
    (ad : Addr) (m c : Nat) (news : List Value) (hx : a.eval x = .slice (some ad) m c) (hl : news.length = m * size) (hnews : ∀ j u, news[j]? = some u → w.cell? (ad.add j) = some u) (h1 : ∀ u ∈ news, u.oneCell' = true)
    (h63 : n + m ≤ maxLen) (hbytes : (n + m) * bytes ≤ 140737488355328)
    (h : ∀ ao cap' w', w'.ownsRow 0 e size (.slice ao (n + m) cap') (n + m) (xs ++ news) → w.grownBy w' v.ownBlock →
      ((Value.slice ao (n + m) cap').ownBlock = v.ownBlock ∨ ∀ k, (Value.slice ao (n + m) cap').ownBlock = some k → w.heap.size ≤ k) → wpList P ops Q rest (a.put o.dst (.slice ao (n + m) cap')) w') : wpList P ops Q (o :: rest) a w := by
  refine wpList_plain hgd fun K hK' => ?_
  obtain ⟨v', w', hr, h2, h3, h4⟩ := run_append_row (P := P) w t o.type e i z size bytes ht hi hz hsize hby hzs hsz v n xs hown ad m c news hl hnews h1 h63 hbytes
  unfold Oper.wp
  simp [execOp, ho, resolve, invoke, builtin, hs, hx, hr, Result.andThen]
  obtain ⟨ao, cap', rfl⟩ := slice_of_own h2
  exact hK' _ _ (h ao cap' w' h2 h3 h4)

/-- 'make([]T, n)': the new row, whole. -/
theorem wpList_make_row {ops : Array Oper} {rest : List Oper} {o : Oper} {a : Act} {Q : Exit → Act → World → Prop}
    (hg : o.guard = none) (l c : Operand) (t : TypeId) (hop : o.op = Op.makeSlice t l c)
    (e : TypeId) (i : TypeInfo) (z : Value) (size : Nat) (h1 : P.underlying t = some (.slice e)) (h2 : P.info? e = some i) (h3 : i.zero = some z) (h4 : i.size = size)
    (kl kc : IntKind) (L C : Int) (n : Nat) (hl : a.eval l = .int kl L) (hc : a.eval c = .int kc C) (hL : L = (n : Int)) (hC : C = (n : Int)) (b2 : i.bytes * n ≤ 281474976710656) (b3 : n ≤ maxLen)
    (hK : ∀ w', w'.heap[w.heap.size]? = some (.cells (madeCells z.cells (n * size)) e (0, 0)) → Below w.heap.size w w' → wpList P ops Q rest (a.put o.dst (.slice (some ⟨w.heap.size, 0, none⟩) n n)) w') :
    wpList P ops Q (o :: rest) a w := by
  refine wpList_make_full w hg l c t hop w.heap.size e i z size h1 h2 h3 h4 kl kc L C n hl hc hL hC b2 b3 (Nat.le_refl _) fun w' r1 r2 => hK w' ?_ ⟨r2.os, r2.tape, r2.output, r2.size, fun k hk => r2.block k hk (by simp)⟩
  rcases r1.2 with ⟨hv, _⟩ | ⟨g, cap, cur, hv, _, hgg, _, _, hcs, htk⟩
  · simp at hv
  · simp only [Value.slice.injEq, Option.some.injEq, Addr.mk.injEq, and_true] at hv
    obtain ⟨rfl, _, rfl⟩ := hv
    rw [hgg]
    congr 2
    rw [List.take_of_length_le (by simp [hcs])] at htk
    exact Array.ext' htk

end

end Go.Proofs.Ytchddaafibjmgaa

namespace Go.Proofs.Ytchddaafibjmgaa
open Go.RowKit

/-- Labels as cells. -/
def labCells (L : List Lab) : List Value := L.flatMap fun x => [.string x.1, .string x.2]

theorem labCells_length (L : List Lab) : (labCells L).length = 2 * L.length := by
  unfold labCells
  induction L with
  | nil => rfl
  | cons x L ih => simp only [List.flatMap_cons, List.length_append, List.length_cons, List.length_nil, ih]; omega

theorem labCells_get (L : List Lab) (k : Nat) (h : k < L.length) : (labCells L)[k * 2]? = some (.string (labAt L k).1) ∧ (labCells L)[k * 2 + 1]? = some (.string (labAt L k).2) := by
  unfold labCells labAt
  induction L generalizing k with
  | nil => simp at h
  | cons x L ih =>
    cases k with
    | zero => simp
    | succ k =>
      have := ih k (by simpa using h)
      rw [show (k + 1) * 2 = k * 2 + 2 from by omega]
      simpa using this

theorem labCells_set (L : List Lab) (k : Nat) (x : Lab) : labCells (L.set k x) = ((labCells L).set (k * 2) (.string x.1)).set (k * 2 + 1) (.string x.2) := by
  unfold labCells
  induction L generalizing k with
  | nil => simp
  | cons y L ih =>
    cases k with
    | zero => simp
    | succ k =>
      rw [show (k + 1) * 2 = k * 2 + 2 from by omega]
      simpa using ih k

theorem made_labs (n : Nat) : madeCells #[.string ByteArray.empty, .string ByteArray.empty] (n * 2) = (labCells (List.replicate n (ByteArray.empty, ByteArray.empty))).toArray := by
  have e1 : labCells (List.replicate n (ByteArray.empty, ByteArray.empty)) = List.replicate (n * 2) (.string ByteArray.empty) := by
    induction n with
    | zero => rfl
    | succ n ih =>
      rw [show (n + 1) * 2 = n * 2 + 1 + 1 from by omega, List.replicate_succ, List.replicate_succ, List.replicate_succ, ← ih]
      rfl
  rw [e1]
  apply Array.ext
  · simp [size_madeCells]
  · intro i h1 h2
    have : i % 2 = 0 ∨ i % 2 = 1 := by omega
    rcases this with h | h <;> simp [madeCells, h]

theorem Try.infoLab : (Try.prog.info? 51).map (fun i => (i.zero, i.size, i.bytes)) = some (some (.agg #[.string ⟨#[]⟩, .string ⟨#[]⟩]), 2, 32) := by kernel_rfl

end Go.Proofs.Ytchddaafibjmgaa
