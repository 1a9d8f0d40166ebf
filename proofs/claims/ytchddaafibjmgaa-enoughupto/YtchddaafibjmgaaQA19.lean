/-
  Raw numbers, and what is picked out of them.
  The statements' nodes, made out of raw numbers.
-/
import Derived.Test.YtchddaafibjmgaaQK1
import Derived.Deep.WholeRow
import Derived.Deep.CutRange
import Derived.Deep.RegionLaw
namespace Go.Proofs.Ytchddaafibjmgaa
open Go.RowKit

/-- Raw numbers. -/
structure RawD where
  kind : Int
  name : Int
  node : Int
  needs : Int
  flags : Int
  links : Int

def RawD.cells (r : RawD) : Array Value := #[.int .i64 r.kind, .int .i64 r.name, .int .i64 r.node, .int .i64 r.needs, .int .i64 r.flags, .int .i64 r.links]
def i64 (n : Int) : Prop := -9223372036854775808 ≤ n ∧ n ≤ 9223372036854775807
structure RawD.ok (r : RawD) : Prop where
  kind : i64 r.kind
  name : i64 r.name
  node : i64 r.node
  needs : i64 r.needs
  flags : i64 r.flags
  links : i64 r.links

def RawD.nodeName (r : RawD) : ByteArray := nameS ⟨#[110]⟩ (pickI r.node 6)
def RawD.N (r : RawD) : Int := pickI r.needs 1099511627776
def RawD.F (r : RawD) : Int := pickI r.flags 1073741824
def RawD.K (r : RawD) : Int := pickI r.links 1073741824

/-- A struct that lies in a block of its own is the result. -/
theorem results_box {fn : Func} {q : Tmp} {ty : TypeId} (h : fn.results = #[.cell q ty]) {tmps : Array Value} {P : Program} {w : World} {ad : Addr} {v : Value} (ha : tmps.getD q undef = .pointer (some ad)) (hl : (loadVar ty ad).run P w = .ok v w) : (results fn tmps).run P w = .ok v w := by
  simp only [results, h]
  simp [asAddr, hl, ha, -Array.getD_eq_getD_getElem?]

end Go.Proofs.Ytchddaafibjmgaa

namespace Go.Proofs.Ytchddaafibjmgaa
open Go.RowKit

def RawD.nodeLabels (r : RawD) : List Lab := (if 0 < r.F % 3 then [(⟨#[122, 111, 110, 101]⟩, nameS ⟨#[122]⟩ (r.F % 3))] else []) ++ (if r.F / 3 % 3 = 0 then [(⟨#[100, 105, 115, 107]⟩, nameS ⟨#[100]⟩ (r.F / 9 % 2))] else [])
def RawD.nodeTaints (r : RawD) : List Lab := if r.F / 18 % 5 = 0 then [(⟨#[108, 111, 97, 100]⟩, ⟨#[104, 101, 97, 118, 121]⟩)] else []

/-- A node in a box, its lists from block B on. -/
structure NodeBox (B : Nat) (w : World) (xb : Nat) (s : ByteArray) (r0 r1 r2 : Int) (L T : List Lab) (lv tv : Value) : Prop where
  box : w.heap[xb]? = some (.cells #[.string s, .int .i64 r0, .int .i64 r1, .int .i64 r2, lv, tv] 42 (0, 0))
  labs : RowB B w lv L
  tnts : RowB B w tv T

theorem RowB.apart {B : Nat} {w : World} {v : Value} {L : List Lab} (h : RowB B w v L) {xb : Nat} {c : Array Value} {t : TypeId} (hx : w.heap[xb]? = some (.cells c t (0, 0))) (ht : t ≠ 51) : v.ownBlock ≠ some xb := fun e => by
  rcases h.row.2 with ⟨hv, _⟩ | ⟨g, cap', cur, hv, _, hgg, _⟩
  · rw [hv] at e; simp [Value.ownBlock] at e
  · rw [hv] at e
    simp [Value.ownBlock] at e
    subst e
    rw [hx] at hgg
    simp only [Option.some.injEq, Obj.cells.injEq] at hgg
    exact ht hgg.2.1

/-- One label more. -/
theorem NodeBox.appL {W w3 : World} {xb : Nat} {s : ByteArray} {r0 r1 r2 : Int} {L : List Lab} {lv tv : Value} (H : NodeBox (xb + 1) W xb s r0 r1 r2 L [] lv tv) (htv : tv = .slice none 0 0) (h3 : Below W.heap.size W w3) (x y : ByteArray) (hl : L.length ≤ 100) :
    ∃ ao cap w4, (Builtin.append_ #[31, 31] 31 #[lv, .slice (some ⟨w3.heap.size, 0, none⟩) 1 1]).run Try.prog (w3.alloc (.cells #[.string x, .string y] 51)) = .ok (.slice ao (L.length + 1) cap) w4 ∧ w4.frozen? ⟨xb, 4, none⟩ = false ∧ w4.cell? ⟨xb, 4, none⟩ = some lv ∧ NodeBox (xb + 1) (w4.setCell ⟨xb, 4, none⟩ (.slice ao (L.length + 1) cap)) xb s r0 r1 r2 (L ++ [(x, y)]) [] (.slice ao (L.length + 1) cap) tv ∧ Below xb W (w4.setCell ⟨xb, 4, none⟩ (.slice ao (L.length + 1) cap)) := by
  have hx := lt_of_block H.box
  have hz := h3.size
  have hb5 : Below W.heap.size W (w3.alloc (.cells #[.string x, .string y] 51)) := below_trans h3 (below_alloc _ _)
  have hbox5 : (w3.alloc (.cells #[.string x, .string y] 51)).heap[xb]? = some (.cells #[.string s, .int .i64 r0, .int .i64 r1, .int .i64 r2, lv, tv] 42 (0, 0)) := by rw [hb5.block xb hx]; exact H.box
  have hsz : xb + 1 ≤ (w3.alloc (.cells #[.string x, .string y] 51)).heap.size := by simp; omega
  have hnew : (w3.alloc (.cells #[.string x, .string y] 51)).heap[w3.heap.size]? = some (.cells (labCells [(x, y)]).toArray 51 (0, 0)) := block_alloc_new _ _
  obtain ⟨ao, cap, w4, e4, r4, b4⟩ := run_append_labs (H.labs.below hb5) hsz (c := 1) hnew (by simp; omega)
  have hbox4 : w4.heap[xb]? = some (.cells #[.string s, .int .i64 r0, .int .i64 r1, .int .i64 r2, lv, tv] 42 (0, 0)) := by rw [b4.block xb (by omega)]; exact hbox5
  have K : Kept (fun b => b = xb) w4 (w4.setCell ⟨xb, 4, none⟩ (.slice ao (L.length + 1) cap)) := (Kept.refl (fun b => b = xb) w4).setCell (p := ⟨xb, 4, none⟩) (fun _ => rfl) _
  refine ⟨ao, cap, w4, e4, frozen_of_block hbox4, by rw [cell_of_block hbox4]; rfl, ⟨?_, r4.kept K fun b hb e => by have := r4.new b hb; omega, by rw [htv]; exact RowB.nil _ _⟩, ?_⟩
  · rw [block_setCell hbox4]
    rfl
  · exact (hb5.mono (by omega)).trans ((b4.mono (by omega)).trans (K.below (by have := b4.size; omega) fun i hi e => by omega))

/-- One taint more. -/
theorem NodeBox.appT {W w3 : World} {xb : Nat} {s : ByteArray} {r0 r1 r2 : Int} {L : List Lab} {lv tv : Value} (H : NodeBox (xb + 1) W xb s r0 r1 r2 L [] lv tv) (htv : tv = .slice none 0 0) (h3 : Below W.heap.size W w3) (x y : ByteArray) :
    ∃ ao cap w4, (Builtin.append_ #[31, 31] 31 #[tv, .slice (some ⟨w3.heap.size, 0, none⟩) 1 1]).run Try.prog (w3.alloc (.cells #[.string x, .string y] 51)) = .ok (.slice ao 1 cap) w4 ∧ w4.frozen? ⟨xb, 5, none⟩ = false ∧ w4.cell? ⟨xb, 5, none⟩ = some tv ∧ NodeBox (xb + 1) (w4.setCell ⟨xb, 5, none⟩ (.slice ao 1 cap)) xb s r0 r1 r2 L [(x, y)] lv (.slice ao 1 cap) ∧ Below xb W (w4.setCell ⟨xb, 5, none⟩ (.slice ao 1 cap)) := by
  have hx := lt_of_block H.box
  have hz := h3.size
  have hb5 : Below W.heap.size W (w3.alloc (.cells #[.string x, .string y] 51)) := below_trans h3 (below_alloc _ _)
  have hbox5 : (w3.alloc (.cells #[.string x, .string y] 51)).heap[xb]? = some (.cells #[.string s, .int .i64 r0, .int .i64 r1, .int .i64 r2, lv, tv] 42 (0, 0)) := by rw [hb5.block xb hx]; exact H.box
  have hsz : xb + 1 ≤ (w3.alloc (.cells #[.string x, .string y] 51)).heap.size := by simp; omega
  have hnew : (w3.alloc (.cells #[.string x, .string y] 51)).heap[w3.heap.size]? = some (.cells (labCells [(x, y)]).toArray 51 (0, 0)) := block_alloc_new _ _
  obtain ⟨ao, cap, w4, e4, r4, b4⟩ := run_append_labs (v := tv) (L := []) (by rw [htv]; exact RowB.nil (w3.alloc (.cells #[.string x, .string y] 51)).heap.size _) (Nat.le_refl _) (c := 1) hnew (by simp)
  have hbox4 : w4.heap[xb]? = some (.cells #[.string s, .int .i64 r0, .int .i64 r1, .int .i64 r2, lv, tv] 42 (0, 0)) := by rw [b4.block xb (by omega)]; exact hbox5
  have K : Kept (fun b => b = xb) w4 (w4.setCell ⟨xb, 5, none⟩ (.slice ao 1 cap)) := (Kept.refl (fun b => b = xb) w4).setCell (p := ⟨xb, 5, none⟩) (fun _ => rfl) _
  have r4' : RowB (xb + 1) w4 (.slice ao 1 cap) [(x, y)] := ⟨r4.row, fun b hb => Nat.le_trans hsz (r4.new b hb)⟩
  have rl := (H.labs.below hb5).below b4
  refine ⟨ao, cap, w4, e4, frozen_of_block hbox4, by rw [cell_of_block hbox4]; rfl, ⟨?_, rl.kept K fun b hb e => by have := rl.new b hb; omega, r4'.kept K fun b hb e => by have := r4'.new b hb; omega⟩, ?_⟩
  · rw [block_setCell hbox4]
    rfl
  · exact (hb5.mono (by omega)).trans ((b4.mono (by omega)).trans (K.below (by have := b4.size; omega) fun i hi e => by omega))

theorem NodeBox.setT {W w4 : World} {xb : Nat} {s : ByteArray} {r0 r1 r2 : Int} {L T T' : List Lab} {lv tv v : Value} (H : NodeBox (xb + 1) W xb s r0 r1 r2 L T lv tv) (hW : Below W.heap.size W w4) {B : Nat} (r4 : RowB B w4 v T') (hB : W.heap.size ≤ B) :
    w4.frozen? ⟨xb, 5, none⟩ = false ∧ w4.cell? ⟨xb, 5, none⟩ = some tv ∧ NodeBox (xb + 1) (w4.setCell ⟨xb, 5, none⟩ v) xb s r0 r1 r2 L T' lv v ∧ Below xb W (w4.setCell ⟨xb, 5, none⟩ v) := by
  have hx := lt_of_block H.box
  have hbox4 : w4.heap[xb]? = some (.cells #[.string s, .int .i64 r0, .int .i64 r1, .int .i64 r2, lv, tv] 42 (0, 0)) := by rw [hW.block xb hx]; exact H.box
  have K : Kept (fun b => b = xb) w4 (w4.setCell ⟨xb, 5, none⟩ v) := (Kept.refl (fun b => b = xb) w4).setCell (p := ⟨xb, 5, none⟩) (fun _ => rfl) _
  have r4' : RowB (xb + 1) w4 v T' := ⟨r4.row, fun b hb => by have := r4.new b hb; omega⟩
  have rl := H.labs.below hW
  refine ⟨frozen_of_block hbox4, by rw [cell_of_block hbox4]; rfl, ⟨?_, rl.kept K fun b hb e => by have := rl.new b hb; omega, r4'.kept K fun b hb e => by have := r4'.new b hb; omega⟩, ?_⟩
  · rw [block_setCell hbox4]
    rfl
  · exact (hW.mono (by omega)).trans (K.below (by have := hW.size; omega) fun i hi e => by omega)

theorem NodeBox.drew {B : Nat} {W : World} {xb : Nat} {s : ByteArray} {r0 r1 r2 : Int} {L T : List Lab} {lv tv : Value} (H : NodeBox B W xb s r0 r1 r2 L T lv tv) : NodeBox B W.drew xb s r0 r1 r2 L T lv tv := ⟨H.box, H.labs.below (Below.refl _ _).drew, H.tnts.below (Below.refl _ _).drew⟩

theorem sizeAN : (Try.prog.info? 42).map (·.size) = some 6 := by kernel_rfl
theorem six_cells {w : World} {b : Nat} {t : TypeId} {y0 y1 y2 y3 y4 y5 : Value} (h : w.heap[b]? = some (.cells #[y0, y1, y2, y3, y4, y5] t (0, 0))) (x0 x1 x2 x3 x4 x5 : Value) :
    ((((((w.setCell ⟨b, 0, none⟩ x0).setCell ⟨b, 1, none⟩ x1).setCell ⟨b, 2, none⟩ x2).setCell ⟨b, 3, none⟩ x3).setCell ⟨b, 4, none⟩ x4).setCell ⟨b, 5, none⟩ x5).heap[b]? = some (.cells #[x0, x1, x2, x3, x4, x5] t (0, 0)) := by
  have h0 := block_setCell h (i := 0) x0
  have h1 := block_setCell h0 (i := 1) x1
  have h2 := block_setCell h1 (i := 2) x2
  have h3 := block_setCell h2 (i := 3) x3
  have h4 := block_setCell h3 (i := 4) x4
  have h5 := block_setCell h4 (i := 5) x5
  rw [h5]
  simp
theorem own_ptrK {w : World} {e : TypeId} {size : Nat} {ao : Option Addr} {m cap n : Nat} {xs : List Value} (h : w.ownsRow 0 e size (.slice ao m cap) n xs) {q : Addr} (hq : ao = some q) : (Value.slice ao m cap).ownBlock = some q.block := by
  rcases h.2 with ⟨hv, _⟩ | ⟨g, cap', cur, hv, _, hg, _⟩
  · rw [hq] at hv
    simp at hv
  · simp only [Value.slice.injEq] at hv
    rw [hq] at hv
    simp only [Option.some.injEq] at hv
    subst hq
    rw [hv.1]
    rfl
theorem labsAt_keptK {G : Nat → Prop} {w w' : World} {a : Option Addr} {L : List Lab} (h : LabsAt w a L) (hk : Kept G w w') (hG : ∀ q, a = some q → ¬ G q.block) : LabsAt w' a L := by
  intro k hk'
  obtain ⟨b, off, e, h1, h2⟩ := h k hk'
  have hl := World.block_lt_of_cell? w _ h1
  refine ⟨b, off, e, ?_, ?_⟩
  · rw [← h1]; exact hk.cell (p := ⟨b, off + k * 2, none⟩) hl (hG ⟨b, off, none⟩ e)
  · rw [← h2]; exact hk.cell (p := ⟨b, off + k * 2 + 1, none⟩) hl (hG ⟨b, off, none⟩ e)

set_option maxRecDepth 100000 in
set_option maxHeartbeats 4000000 in
theorem knode_any (r : RawD) (hr : r.ok) (w : World) : Calls Try.prog 27 #[.agg r.cells] w fun e w' => ∃ n : NodeD, e = .returned (.agg n.cells) ∧ n.ok w' ∧ n.name = r.nodeName ∧ n.r0 = r.N % 20 ∧ n.r1 = r.N / 20 % 30 ∧ n.r2 = r.N / 600 % 3 ∧ n.labels.L = r.nodeLabels ∧ n.taints.L = r.nodeTaints ∧ Below w.heap.size w w' := by
  have c1 := fun W => pick_any r.needs 1099511627776 W (by omega) (by omega) hr.needs.1 hr.needs.2
  have c2 := fun W => pick_any r.flags 1073741824 W (by omega) (by omega) hr.flags.1 hr.flags.2
  have c3 := fun W => pick_any r.node 6 W (by omega) (by omega) hr.node.1 hr.node.2
  have b1 := pickI_bound r.needs (n := 1099511627776) (by omega)
  have b2 := pickI_bound r.flags (n := 1073741824) (by omega)
  have b3 := pickI_bound r.node (n := 6) (by omega)
  have HN : Hid (r.N = pickI r.needs 1099511627776 ∧ r.F = pickI r.flags 1073741824 ∧ r.nodeName = nameS ⟨#[110]⟩ (pickI r.node 6)) := ⟨rfl, rfl, rfl⟩
  generalize pickI r.needs 1099511627776 = nn at *
  generalize pickI r.flags 1073741824 = ff at *
  generalize pickI r.node 6 = pn at *
  have c4 := fun W => kname_any ⟨#[110]⟩ pn W (by omega) (by decide)
  unfold RawD.cells
  go_enter Try.func27, Try.ntmps27
  go_upto_if 28 with (first
    | (go_at_call_of 28 (Value.int .i64 1099511627776); refine (c1 _).mono ?_; rintro e w1 ⟨rfl, rfl⟩)
    | (go_at_call_of 28 (Value.int .i64 1073741824); refine (c2 _).mono ?_; rintro e w1 ⟨rfl, rfl⟩)
    | (go_at_call_of 28 (Value.int .i64 6); refine (c3 _).mono ?_; rintro e w1 ⟨rfl, rfl⟩)
    | (go_at_call_of 46 (Value.string ⟨#[110]⟩); refine (c4 _).mono ?_; rintro e w1 ⟨rfl, hb1⟩))
  have hb1' : Below w.heap.size w w1 := (below_trans (below_alloc _ _) (below_alloc _ _)).trans (hb1.mono (by simp; omega))
  have z1 := hb1.size
  simp only [World.size_alloc] at z1
  have hbR : w1.heap[w.heap.size + 1]? = some (.cells #[.string ⟨#[]⟩, .int .i64 0, .int .i64 0, .int .i64 0, .slice none 0 0, .slice none 0 0] 42 (0, 0)) := by
    rw [hb1.block _ (by simp)]
    have := block_alloc_new (w.alloc (.cells #[.int .i64 r.kind, .int .i64 r.name, .int .i64 r.node, .int .i64 r.needs, .int .i64 r.flags, .int .i64 r.links] 62)) (.cells #[.string ⟨#[]⟩, .int .i64 0, .int .i64 0, .int .i64 0, .slice none 0 0, .slice none 0 0] 42)
    simpa using this
  obtain ⟨nil, hnil⟩ : ∃ v, v = Value.slice none 0 0 := ⟨_, rfl⟩
  have N0 : NodeBox (w1.heap.size + 1) (w1.alloc (.cells #[.string (nameS ⟨#[110]⟩ pn), .int .i64 (nn % 20), .int .i64 (nn / 20 % 30), .int .i64 (nn / 600 % 3), .slice none 0 0, .slice none 0 0] 42)) w1.heap.size (nameS ⟨#[110]⟩ pn) (nn % 20) (nn / 20 % 30) (nn / 600 % 3) [] [] (.slice none 0 0) (.slice none 0 0) := ⟨block_alloc_new _ _, RowB.nil _ _, RowB.nil _ _⟩
  have c5 := fun W => kname_any ⟨#[122]⟩ (ff % 3) W (by omega) (by decide)
  have c6 := fun W => kname_any ⟨#[100]⟩ (ff / 9 % 2) W (by omega) (by decide)
  have HS5 : Hid (∃ z d, z = nameS ⟨#[122]⟩ (ff % 3) ∧ d = nameS ⟨#[100]⟩ (ff / 9 % 2)) := ⟨_, _, rfl, rfl⟩
  obtain ⟨s5, s6, e5, e6⟩ := HS5.out
  rw [← e5] at c5
  rw [← e6] at c6
  have HE5 : Hid (s5 = nameS ⟨#[122]⟩ (ff % 3)) := e5
  have HE6 : Hid (s6 = nameS ⟨#[100]⟩ (ff / 9 % 2)) := e6
  clear e5 e6 HS5
  have Hnm : Hid ((nameS ⟨#[110]⟩ pn).size = 2) := nameS_size _ _
  have HQ : Hid (∃ q0 q1 q2, q0 = nn % 20 ∧ q1 = nn / 20 % 30 ∧ q2 = nn / 600 % 3) := ⟨_, _, _, rfl, rfl, rfl⟩
  obtain ⟨q0, q1, q2, h0, h1, h2⟩ := HQ.out
  clear HQ
  have HQ : Hid (q0 = nn % 20 ∧ q1 = nn / 20 % 30 ∧ q2 = nn / 600 % 3) := ⟨h0, h1, h2⟩
  generalize nameS ⟨#[110]⟩ pn = nm at *
  rw [← h0, ← h1, ← h2] at N0 ⊢
  clear h0 h1 h2
  rw [← hnil] at N0 hbR ⊢
  have Hnil : Hid (nil = Value.slice none 0 0) := hnil
  clear hnil
  go_cut [] from 6 (fun wx => ∃ lv, NodeBox (w1.heap.size + 1) wx w1.heap.size nm q0 q1 q2 (if 0 < ff % 3 then [(⟨#[122, 111, 110, 101]⟩, s5)] else []) [] lv nil ∧ Below w1.heap.size w1 wx)
  case first =>
    by_cases hc : 0 < ff % 3
    · have N1 := N0.drew
      have hfin : ∀ w', Below w1.heap.size (w1.alloc (.cells #[.string nm, .int .i64 q0, .int .i64 q1, .int .i64 q2, nil, nil] 42)).drew w' → Below w1.heap.size w1 w' := fun w' h => ((below_alloc w1 _).drew).trans h
      have c5' := c5 (w1.alloc (.cells #[.string nm, .int .i64 q0, .int .i64 q1, .int .i64 q2, nil, nil] 42)).drew
      rw [← Int.tmod_eq_emod_of_nonneg (by omega : 0 ≤ ff)] at c5'
      clear c1 c2 c3 c4 c6 c5 HN hbR
      go_wp2
      go_region_law (first
        | (have e4' := e4; refine step_append_run1 rfl _ _ 31 rfl _ _ rfl rfl (by exact e4) ?_)
        | (go_simp; go_at_call 46; refine c5'.mono ?_; rintro e w3 ⟨rfl, hb3⟩; obtain ⟨ao4, cap4, w4, e4, f4, v4, N4, b4⟩ := N1.appL Hnil.out hb3 ⟨#[122, 111, 110, 101]⟩ s5 (by simp); simp only [List.nil_append, List.length_nil, Nat.zero_add] at e4 N4 b4; have b4' := hfin _ b4; clear b4; have l3 : w3.cell? ⟨w1.heap.size, 4, none⟩ = some nil := (by rw [hb3.cell (p := ⟨w1.heap.size, 4, none⟩) (by simp), cell_of_block N1.box]; rfl); have l3' : (w3.alloc (.cells #[.string ⟨#[122, 111, 110, 101]⟩, .string s5] 51)).cell? ⟨w1.heap.size, 4, none⟩ = some nil := ((below_alloc w3 _).cell (p := ⟨w1.heap.size, 4, none⟩) (Nat.lt_of_lt_of_le (by simp) hb3.size)).trans l3))
      all_goals go_wp2_with fail
      all_goals go_meet
      all_goals rw [if_pos hc]
      all_goals exact ⟨_, N4, b4'⟩
    · go_wp2
      go_meet
      rw [if_neg (by omega)]
      exact ⟨_, N0, below_alloc _ _⟩
  case rest =>
    obtain ⟨lv, N1, hb2⟩ := hcut
    have x1 := lt_of_block N1.box
    obtain ⟨L1, hL1⟩ : ∃ L, L = (if 0 < ff % 3 then [((⟨#[122, 111, 110, 101]⟩, s5) : Lab)] else []) := ⟨_, rfl⟩
    have hl1 : L1.length ≤ 1 := by rw [hL1]; split <;> simp
    have HL1 : Hid (L1 = (if 0 < ff % 3 then [((⟨#[122, 111, 110, 101]⟩, s5) : Lab)] else [])) := hL1
    rw [← hL1] at N1
    clear hL1 N0
    have l1 : wc.cell? ⟨w1.heap.size, 4, none⟩ = some lv := by rw [cell_of_block N1.box]; rfl
    have t6 : ((IntKind.i64.wrap (ff.tdiv 9)).tmod 2) = ff / 9 % 2 := by
      rw [IntWalk.i64_quo ff 9 (by omega), Int.tmod_eq_emod_of_nonneg (by omega)]
    have t6' : (ff / 9).tmod 2 = ff / 9 % 2 := by rw [Int.tmod_eq_emod_of_nonneg (by omega)]
    have t6'' : (ff.tdiv 9).tmod 2 = ff / 9 % 2 := by rw [Int.tdiv_eq_ediv_of_nonneg (by omega), Int.tmod_eq_emod_of_nonneg (by omega)]
    have HT6 : Hid (((IntKind.i64.wrap (ff.tdiv 9)).tmod 2) = ff / 9 % 2 ∧ (ff / 9).tmod 2 = ff / 9 % 2 ∧ (ff.tdiv 9).tmod 2 = ff / 9 % 2) := ⟨t6, t6', t6''⟩
    clear t6 t6' t6''
    have c6' : ∀ z W, z = ff / 9 % 2 → _ := fun z W hz => (hz ▸ c6 W : Calls Try.prog 46 #[.string ⟨#[100]⟩, .int .i64 z] W fun e w' => e = .returned (.string s6) ∧ Below W.heap.size W w')
    go_upto_if 41 with fail
    go_cut [] from 6 (fun wx => ∃ lv, NodeBox (w1.heap.size + 1) wx w1.heap.size nm q0 q1 q2 (L1 ++ if ff / 3 % 3 = 0 then [(⟨#[100, 105, 115, 107]⟩, s6)] else []) [] lv nil ∧ Below w1.heap.size w1 wx)
    case first =>
      by_cases hc : ff / 3 % 3 = 0
      · have N1' := N1.drew
        have hfin : ∀ w', Below w1.heap.size wc.drew w' → Below w1.heap.size w1 w' := fun w' h => hb2.trans (((Below.refl w1.heap.size wc).drew).trans h)
        clear c1 c2 c3 c4 c6 c5 HN hbR
        go_wp2
        go_region_law (first
          | (have e4' := e4; refine step_append_run1 rfl _ _ 31 rfl _ _ rfl rfl (by exact e4) ?_)
          | (go_simp; go_at_call 46; refine (c6' _ _ (by first | exact HT6.out.1 | exact HT6.out.2.1 | exact HT6.out.2.2 | rfl)).mono ?_; rintro e w3 ⟨rfl, hb3⟩; obtain ⟨ao4, cap4, w4, e4, f4, v4, N4, b4⟩ := N1'.appL Hnil.out hb3 ⟨#[100, 105, 115, 107]⟩ s6 (by omega); have b4' := hfin _ b4; clear b4; have l3 : w3.cell? ⟨w1.heap.size, 4, none⟩ = some lv := (by rw [hb3.cell (p := ⟨w1.heap.size, 4, none⟩) (by exact x1)]; exact l1); have l3' : (w3.alloc (.cells #[.string ⟨#[100, 105, 115, 107]⟩, .string s6] 51)).cell? ⟨w1.heap.size, 4, none⟩ = some lv := ((below_alloc w3 _).cell (p := ⟨w1.heap.size, 4, none⟩) (Nat.lt_of_lt_of_le (by exact x1) hb3.size)).trans l3))
        all_goals go_wp2_with fail
        all_goals go_meet
        all_goals rw [if_pos hc]
        all_goals exact ⟨_, N4, b4'⟩
      · have hcb : (ff / 3 % 3 == 0) = false := by simpa using hc
        go_wp2
        go_meet
        rw [if_neg hc, List.append_nil]
        exact ⟨_, N1, hb2⟩
    case rest =>
      clear l1 x1 hb2 N1 c6' HT6
      obtain ⟨lv2, N1, hb2⟩ := hcut
      have x1 := lt_of_block N1.box
      obtain ⟨L2, hL2⟩ : ∃ L, L = (L1 ++ if ff / 3 % 3 = 0 then [((⟨#[100, 105, 115, 107]⟩, s6) : Lab)] else []) := ⟨_, rfl⟩
      have HL2 : Hid (L2 = (L1 ++ if ff / 3 % 3 = 0 then [((⟨#[100, 105, 115, 107]⟩, s6) : Lab)] else [])) := hL2
      rw [← hL2] at N1
      clear hL2
      have l1 : wc.cell? ⟨w1.heap.size, 5, none⟩ = some nil := by rw [cell_of_block N1.box]; rfl
      go_upto_if 55 with fail
      go_cut [] from 6 (fun wx => ∃ lv tv, NodeBox (w1.heap.size + 1) wx w1.heap.size nm q0 q1 q2 L2 (if ff / 18 % 5 = 0 then [(⟨#[108, 111, 97, 100]⟩, ⟨#[104, 101, 97, 118, 121]⟩)] else []) lv tv ∧ Below w1.heap.size w1 wx)
      case first =>
        by_cases hc : ff / 18 % 5 = 0
        · clear c1 c2 c3 c4 c6 c5 HN hbR
          have r0 : RowB (wc.alloc (.cells #[.string ⟨#[108, 111, 97, 100]⟩, .string ⟨#[104, 101, 97, 118, 121]⟩] 51)).heap.size (wc.alloc (.cells #[.string ⟨#[108, 111, 97, 100]⟩, .string ⟨#[104, 101, 97, 118, 121]⟩] 51)) nil [] := by rw [Hnil.out]; exact RowB.nil _ _
          have z0 : wc.heap.size < (wc.alloc (.cells #[.string ⟨#[108, 111, 97, 100]⟩, .string ⟨#[104, 101, 97, 118, 121]⟩] 51)).heap.size := by simp
          go_wp2_with (at_builtin; refine wpList_append_labs rfl (.tmp 57) (.tmp 59) rfl (L := []) (M := [(⟨#[108, 111, 97, 100]⟩, ⟨#[104, 101, 97, 118, 121]⟩)]) rfl r0 (Nat.le_refl _) rfl (block_alloc_new wc _) (by simp) ?_; intro ao4 cap4 w4 r4 hb4; obtain ⟨f4, v4, N4, b4⟩ := N1.setT (below_trans (below_alloc wc _) hb4) r4 (by omega); have b4' := hb2.trans b4; clear b4)
          all_goals go_meet
          all_goals rw [if_pos hc]
          all_goals exact ⟨_, _, N4, b4'⟩
        · have hcb : (ff / 18 % 5 == 0) = false := by simpa using hc
          go_wp2
          go_meet
          rw [if_neg hc]
          exact ⟨_, _, N1, hb2⟩
      case rest =>
        clear l1 x1 hb2 N1
        obtain ⟨lv3, tv3, N1, hb2⟩ := hcut
        obtain ⟨TT, hTT⟩ : ∃ T, T = (if ff / 18 % 5 = 0 then [((⟨#[108, 111, 97, 100]⟩, ⟨#[104, 101, 97, 118, 121]⟩) : Lab)] else []) := ⟨_, rfl⟩
        have HTT : Hid (TT = (if ff / 18 % 5 = 0 then [((⟨#[108, 111, 97, 100]⟩, ⟨#[104, 101, 97, 118, 121]⟩) : Lab)] else [])) := hTT
        rw [← hTT] at N1
        clear hTT
        have x1 := lt_of_block N1.box
        obtain ⟨la, lc, rfl⟩ := slice_of_own N1.labs.row
        obtain ⟨ta, tc, rfl⟩ := slice_of_own N1.tnts.row
        have hbR' := (hb2.block _ (by omega)).trans hbR
        have fR := fun o => frozen_of_block (i := o) hbR'
        have g0 : wc.cell? ⟨w.heap.size + 1, 0, none⟩ = some (.string ⟨#[]⟩) := by rw [cell_of_block hbR']; rfl
        have g1 : wc.cell? ⟨w.heap.size + 1, 1, none⟩ = some (.int .i64 0) := by rw [cell_of_block hbR']; rfl
        have g2 : wc.cell? ⟨w.heap.size + 1, 2, none⟩ = some (.int .i64 0) := by rw [cell_of_block hbR']; rfl
        have g3 : wc.cell? ⟨w.heap.size + 1, 3, none⟩ = some (.int .i64 0) := by rw [cell_of_block hbR']; rfl
        have g4 : wc.cell? ⟨w.heap.size + 1, 4, none⟩ = some nil := by rw [cell_of_block hbR']; rfl
        have g5 : wc.cell? ⟨w.heap.size + 1, 5, none⟩ = some nil := by rw [cell_of_block hbR']; rfl
        have b0 : wc.cell? ⟨w1.heap.size, 0, none⟩ = some (.string nm) := by rw [cell_of_block N1.box]; rfl
        have b1' : wc.cell? ⟨w1.heap.size, 1, none⟩ = some (.int .i64 q0) := by rw [cell_of_block N1.box]; rfl
        have b2' : wc.cell? ⟨w1.heap.size, 2, none⟩ = some (.int .i64 q1) := by rw [cell_of_block N1.box]; rfl
        have b3' : wc.cell? ⟨w1.heap.size, 3, none⟩ = some (.int .i64 q2) := by rw [cell_of_block N1.box]; rfl
        have b4' : wc.cell? ⟨w1.heap.size, 4, none⟩ = some (.slice la L2.length lc) := by rw [cell_of_block N1.box]; rfl
        have b5' : wc.cell? ⟨w1.heap.size, 5, none⟩ = some (.slice ta TT.length tc) := by rw [cell_of_block N1.box]; rfl
        have HN1 : Hid _ := N1
        have hne : ¬ w1.heap.size = w.heap.size + 1 := by omega
        clear N1 c1 c2 c3 c4 c5 c6
        go_wp2
        have hblk := six_cells hbR' (.string nm) (.int .i64 q0) (.int .i64 q1) (.int .i64 q2) (.slice la L2.length lc) (.slice ta TT.length tc)
        refine bodyPost_ret (v := .agg #[.string nm, .int .i64 q0, .int .i64 q1, .int .i64 q2, .slice la L2.length lc, .slice ta TT.length tc]) (results_box rfl rfl (run_loadVar_row _ _ _ _ _ _ _ hblk Try.underlying42 rfl sizeAN)) rfl ?_
        have K := (((((((Kept.refl (fun b => b = w.heap.size + 1) wc).setCell (p := ⟨w.heap.size + 1, 0, none⟩) (fun _ => rfl) (.string nm)).setCell (p := ⟨w.heap.size + 1, 1, none⟩) (fun _ => rfl) (.int .i64 q0)).setCell (p := ⟨w.heap.size + 1, 2, none⟩) (fun _ => rfl) (.int .i64 q1)).setCell (p := ⟨w.heap.size + 1, 3, none⟩) (fun _ => rfl) (.int .i64 q2)).setCell (p := ⟨w.heap.size + 1, 4, none⟩) (fun _ => rfl) (.slice la L2.length lc)).setCell (p := ⟨w.heap.size + 1, 5, none⟩) (fun _ => rfl) (.slice ta TT.length tc))
        have N1 := HN1.out
        obtain ⟨E1, E2, E3⟩ := HN.out
        have i1 : LabsOk L2 ∧ L2.length ≤ 2 := by
          rw [HL2.out, HL1.out]
          refine ⟨fun x hx => ?_, by rw [List.length_append]; split <;> split <;> simp⟩
          rcases List.mem_append.1 hx with h | h
          · split at h
            · simp only [List.mem_singleton] at h; subst h; dsimp only; rw [HE5.out, nameS_size]; decide
            · simp at h
          · split at h
            · simp only [List.mem_singleton] at h; subst h; dsimp only; rw [HE6.out, nameS_size]; decide
            · simp at h
        have i2 : LabsOk TT ∧ TT.length ≤ 2 := by
          rw [HTT.out]
          split
          · exact ⟨fun x hx => by simp only [List.mem_singleton] at hx; subst hx; decide, by simp⟩
          · exact ⟨fun x hx => by simp at hx, by simp⟩
        have r1 := N1.labs.labs
        have r2 := N1.tnts.labs
        have o1 : ∀ q, la = some q → ¬ q.block = w.heap.size + 1 := fun q hq e => by have := N1.labs.new q.block (own_ptrK N1.labs.row hq); omega
        have o2 : ∀ q, ta = some q → ¬ q.block = w.heap.size + 1 := fun q hq e => by have := N1.tnts.new q.block (own_ptrK N1.tnts.row hq); omega
        refine ⟨⟨nm, q0, q1, q2, ⟨la, L2, lc⟩, ⟨ta, TT, tc⟩⟩, rfl, ⟨?_, fun x hx => ?_⟩, E3.symm, ?_, ?_, ?_, ?_, ?_, ?_⟩
        · show nm.size ≤ _
          rw [Hnm.out]
          decide
        · simp only [NodeD.lists, List.mem_cons, List.not_mem_nil, or_false] at hx
          rcases hx with rfl | rfl
          · exact ⟨by have := i1.2; dsimp only; omega, r1.2, labsAt_keptK r1.1 K o1, i1.1⟩
          · exact ⟨by have := i2.2; dsimp only; omega, r2.2, labsAt_keptK r2.1 K o2, i2.1⟩
        · rw [E1]; exact HQ.out.1
        · rw [E1]; exact HQ.out.2.1
        · rw [E1]; exact HQ.out.2.2
        · unfold RawD.nodeLabels; rw [E2, ← HE5.out, ← HE6.out, ← HL1.out]; exact HL2.out
        · unfold RawD.nodeTaints; rw [E2]; exact HTT.out
        · have z3 := hb2.size
          exact hb1'.trans ((hb2.mono (by omega)).trans (K.below (by omega) fun i hi e => by omega))

end Go.Proofs.Ytchddaafibjmgaa
