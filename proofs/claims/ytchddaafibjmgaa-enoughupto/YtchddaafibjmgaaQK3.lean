/-
  The statements' pods, made out of raw numbers.
-/
import Derived.Test.YtchddaafibjmgaaQK1
import Derived.Test.YtchddaafibjmgaaQA19
import Derived.Deep.CutRange
namespace Go.Proofs.Ytchddaafibjmgaa
open Go.RowKit

/-- A list of labels that lies apart from a box. -/
def LV (B xb : Nat) (w : World) (v : Value) (L : List Lab) : Prop := ∃ a cap, v = .slice a L.length cap ∧ L.length ≤ cap ∧ LabsAt w a L ∧ ∀ q, a = some q → B ≤ q.block ∧ q.block ≠ xb

theorem LV.nil (B xb : Nat) (w : World) : LV B xb w (.slice none 0 0) [] := ⟨none, 0, rfl, Nat.le_refl _, LabsAt.nil _ _, fun q h => by cases h⟩

theorem labsAt_kept {G : Nat → Prop} {w w' : World} {a : Option Addr} {L : List Lab} (h : LabsAt w a L) (hk : Kept G w w') (hG : ∀ q, a = some q → ¬ G q.block) : LabsAt w' a L := by
  intro k hk'
  obtain ⟨b, off, e, h1, h2⟩ := h k hk'
  have hl := World.block_lt_of_cell? w _ h1
  refine ⟨b, off, e, ?_, ?_⟩
  · rw [← h1]; exact hk.cell (p := ⟨b, off + k * 2, none⟩) hl (hG ⟨b, off, none⟩ e)
  · rw [← h2]; exact hk.cell (p := ⟨b, off + k * 2 + 1, none⟩) hl (hG ⟨b, off, none⟩ e)

theorem LV.below {B xb : Nat} {w w' : World} {v : Value} {L : List Lab} (h : LV B xb w v L) (hb : Below w.heap.size w w') : LV B xb w' v L := by
  obtain ⟨a, cap, e, h1, h2, h3⟩ := h
  exact ⟨a, cap, e, h1, h2.below hb, h3⟩

theorem LV.set {B xb : Nat} {w : World} {v : Value} {L : List Lab} (h : LV B xb w v L) (i : Nat) (u : Value) : LV B xb (w.setCell ⟨xb, i, none⟩ u) v L := by
  obtain ⟨a, cap, e, h1, h2, h3⟩ := h
  exact ⟨a, cap, e, h1, labsAt_kept h2 ((Kept.refl (fun b => b = xb) w).setCell (p := ⟨xb, i, none⟩) (fun _ => rfl) u) (fun q hq => (h3 q hq).2), h3⟩

theorem own_ptr {w : World} {e : TypeId} {size : Nat} {ao : Option Addr} {m cap n : Nat} {xs : List Value} (h : w.ownsRow 0 e size (.slice ao m cap) n xs) {q : Addr} (hq : ao = some q) : (Value.slice ao m cap).ownBlock = some q.block ∧ ∃ cur, w.heap[q.block]? = some (.cells cur e (0, 0)) := by
  rcases h.2 with ⟨hv, _⟩ | ⟨g, cap', cur, hv, _, hg, _⟩
  · rw [hq] at hv
    simp at hv
  · simp only [Value.slice.injEq] at hv
    rw [hq] at hv
    simp only [Option.some.injEq] at hv
    subst hq
    rw [hv.1]
    exact ⟨rfl, cur, hg⟩

theorem LV.of_row {B xb B' : Nat} {w : World} {ao : Option Addr} {cap : Nat} {L : List Lab} (h : RowB B' w (.slice ao L.length cap) L) (hB : B ≤ B') (hx : xb < B') : LV B xb w (.slice ao L.length cap) L := by
  refine ⟨ao, cap, rfl, h.labs.2, h.labs.1, fun q hq => ?_⟩
  have := h.new q.block (own_ptr h.row hq).1
  omega

/-- Labels of a new block. -/
theorem LV.of_new {B xb nb : Nat} {w : World} {L : List Lab} (h : w.heap[nb]? = some (.cells (labCells L).toArray 51 (0, 0))) (hB : B ≤ nb) (hx : nb ≠ xb) : LV B xb w (.slice (some ⟨nb, 0, none⟩) L.length L.length) L := by
  refine ⟨_, _, rfl, Nat.le_refl _, fun k hk => ⟨nb, 0, rfl, ?_, ?_⟩, fun q hq => ?_⟩
  · rw [cell_of_block h, ← (labCells_get L k hk).1]
    simp
  · rw [cell_of_block h, ← (labCells_get L k hk).2]
    simp
  · cases hq
    exact ⟨hB, hx⟩

def podBox (s : ByteArray) (n0 n1 n2 pt : Int) (v0 v1 v2 v3 v4 : Value) : Array Value := #[.string s, .int .i64 n0, .int .i64 n1, .int .i64 n2, .int .i64 pt, v0, v1, v2, v3, v4]

/-- A pod in a box. -/
structure PodBox (B : Nat) (w : World) (xb : Nat) (s : ByteArray) (n0 n1 n2 pt : Int) (v0 v1 v2 v3 v4 : Value) (L0 L1 L2 L3 L4 : List Lab) : Prop where
  box : w.heap[xb]? = some (.cells (podBox s n0 n1 n2 pt v0 v1 v2 v3 v4) 33 (0, 0))
  l0 : LV B xb w v0 L0
  l1 : LV B xb w v1 L1
  l2 : LV B xb w v2 L2
  l3 : LV B xb w v3 L3
  l4 : LV B xb w v4 L4

section
variable {B : Nat} {W w : World} {xb : Nat} {s : ByteArray} {n0 n1 n2 pt : Int} {v0 v1 v2 v3 v4 : Value} {L0 L1 L2 L3 L4 : List Lab}

theorem PodBox.below (H : PodBox B W xb s n0 n1 n2 pt v0 v1 v2 v3 v4 L0 L1 L2 L3 L4) (hb : Below W.heap.size W w) : PodBox B w xb s n0 n1 n2 pt v0 v1 v2 v3 v4 L0 L1 L2 L3 L4 :=
  ⟨by rw [hb.block xb (lt_of_block H.box)]; exact H.box, H.l0.below hb, H.l1.below hb, H.l2.below hb, H.l3.below hb, H.l4.below hb⟩

theorem below_set (W : World) (xb i : Nat) (u : Value) (hx : xb < W.heap.size) : Below xb W (W.setCell ⟨xb, i, none⟩ u) := ((Kept.refl (fun b => b = xb) W).setCell (p := ⟨xb, i, none⟩) (fun _ => rfl) u).below (by omega) fun i hi e => by omega

theorem PodBox.setPort (H : PodBox B W xb s n0 n1 n2 pt v0 v1 v2 v3 v4 L0 L1 L2 L3 L4) (p : Int) : PodBox B (W.setCell ⟨xb, 4, none⟩ (.int .i64 p)) xb s n0 n1 n2 p v0 v1 v2 v3 v4 L0 L1 L2 L3 L4 :=
  ⟨by rw [block_setCell H.box]; rfl, H.l0.set _ _, H.l1.set _ _, H.l2.set _ _, H.l3.set _ _, H.l4.set _ _⟩
theorem PodBox.set1 (H : PodBox B W xb s n0 n1 n2 pt v0 v1 v2 v3 v4 L0 L1 L2 L3 L4) {u : Value} {L : List Lab} (h : LV B xb W u L) : PodBox B (W.setCell ⟨xb, 6, none⟩ u) xb s n0 n1 n2 pt v0 u v2 v3 v4 L0 L L2 L3 L4 :=
  ⟨by rw [block_setCell H.box]; rfl, H.l0.set _ _, h.set _ _, H.l2.set _ _, H.l3.set _ _, H.l4.set _ _⟩
theorem PodBox.set2 (H : PodBox B W xb s n0 n1 n2 pt v0 v1 v2 v3 v4 L0 L1 L2 L3 L4) {u : Value} {L : List Lab} (h : LV B xb W u L) : PodBox B (W.setCell ⟨xb, 7, none⟩ u) xb s n0 n1 n2 pt v0 v1 u v3 v4 L0 L1 L L3 L4 :=
  ⟨by rw [block_setCell H.box]; rfl, H.l0.set _ _, H.l1.set _ _, h.set _ _, H.l3.set _ _, H.l4.set _ _⟩
theorem PodBox.set3 (H : PodBox B W xb s n0 n1 n2 pt v0 v1 v2 v3 v4 L0 L1 L2 L3 L4) {u : Value} {L : List Lab} (h : LV B xb W u L) : PodBox B (W.setCell ⟨xb, 8, none⟩ u) xb s n0 n1 n2 pt v0 v1 v2 u v4 L0 L1 L2 L L4 :=
  ⟨by rw [block_setCell H.box]; rfl, H.l0.set _ _, H.l1.set _ _, H.l2.set _ _, h.set _ _, H.l4.set _ _⟩
theorem PodBox.set4 (H : PodBox B W xb s n0 n1 n2 pt v0 v1 v2 v3 v4 L0 L1 L2 L3 L4) {u : Value} {L : List Lab} (h : LV B xb W u L) : PodBox B (W.setCell ⟨xb, 9, none⟩ u) xb s n0 n1 n2 pt v0 v1 v2 v3 u L0 L1 L2 L3 L :=
  ⟨by rw [block_setCell H.box]; rfl, H.l0.set _ _, H.l1.set _ _, H.l2.set _ _, H.l3.set _ _, h.set _ _⟩

theorem LV.new {L : List Lab} (i : Nat) (hB : B ≤ W.heap.size) (hx : xb < W.heap.size) : LV B xb ((W.setCell ⟨xb, i, none⟩ (.slice (some ⟨W.heap.size, 0, none⟩) L.length L.length)).alloc (.cells (labCells L).toArray 51)) (.slice (some ⟨W.heap.size, 0, none⟩) L.length L.length) L := by
  refine LV.of_new ?_ hB (by omega)
  have := block_alloc_new (W.setCell ⟨xb, i, none⟩ (.slice (some ⟨W.heap.size, 0, none⟩) L.length L.length)) (.cells (labCells L).toArray 51)
  simpa using this
theorem below_new (W : World) (xb i : Nat) (u : Value) (o : Obj) (hx : xb < W.heap.size) : Below xb W ((W.setCell ⟨xb, i, none⟩ u).alloc o) := (below_set W xb i u hx).trans ((below_alloc _ _).mono (by simp; omega))
theorem PodBox.new1 (H : PodBox B W xb s n0 n1 n2 pt v0 v1 v2 v3 v4 L0 L1 L2 L3 L4) (L : List Lab) (hB : B ≤ W.heap.size) : PodBox B ((W.setCell ⟨xb, 6, none⟩ (.slice (some ⟨W.heap.size, 0, none⟩) L.length L.length)).alloc (.cells (labCells L).toArray 51)) xb s n0 n1 n2 pt v0 (.slice (some ⟨W.heap.size, 0, none⟩) L.length L.length) v2 v3 v4 L0 L L2 L3 L4 := by
  have hx := lt_of_block H.box
  have hb := below_alloc (W.setCell ⟨xb, 6, none⟩ (.slice (some ⟨W.heap.size, 0, none⟩) L.length L.length)) (.cells (labCells L).toArray 51)
  refine ⟨?_, (H.l0.set _ _).below hb, LV.new 6 hB hx, (H.l2.set _ _).below hb, (H.l3.set _ _).below hb, (H.l4.set _ _).below hb⟩
  rw [hb.block xb (by simpa using hx), block_setCell H.box]
  rfl
theorem PodBox.new2 (H : PodBox B W xb s n0 n1 n2 pt v0 v1 v2 v3 v4 L0 L1 L2 L3 L4) (L : List Lab) (hB : B ≤ W.heap.size) : PodBox B ((W.setCell ⟨xb, 7, none⟩ (.slice (some ⟨W.heap.size, 0, none⟩) L.length L.length)).alloc (.cells (labCells L).toArray 51)) xb s n0 n1 n2 pt v0 v1 (.slice (some ⟨W.heap.size, 0, none⟩) L.length L.length) v3 v4 L0 L1 L L3 L4 := by
  have hx := lt_of_block H.box
  have hb := below_alloc (W.setCell ⟨xb, 7, none⟩ (.slice (some ⟨W.heap.size, 0, none⟩) L.length L.length)) (.cells (labCells L).toArray 51)
  refine ⟨?_, (H.l0.set _ _).below hb, (H.l1.set _ _).below hb, LV.new 7 hB hx, (H.l3.set _ _).below hb, (H.l4.set _ _).below hb⟩
  rw [hb.block xb (by simpa using hx), block_setCell H.box]
  rfl

theorem PodBox.cells (H : PodBox B W xb s n0 n1 n2 pt v0 v1 v2 v3 v4 L0 L1 L2 L3 L4) : W.cell? ⟨xb, 0, none⟩ = some (.string s) ∧ W.cell? ⟨xb, 1, none⟩ = some (.int .i64 n0) ∧ W.cell? ⟨xb, 2, none⟩ = some (.int .i64 n1) ∧ W.cell? ⟨xb, 3, none⟩ = some (.int .i64 n2) ∧ W.cell? ⟨xb, 4, none⟩ = some (.int .i64 pt) ∧
    W.cell? ⟨xb, 5, none⟩ = some v0 ∧ W.cell? ⟨xb, 6, none⟩ = some v1 ∧ W.cell? ⟨xb, 7, none⟩ = some v2 ∧ W.cell? ⟨xb, 8, none⟩ = some v3 ∧ W.cell? ⟨xb, 9, none⟩ = some v4 ∧ ∀ o, W.frozen? ⟨xb, o, none⟩ = false := by
  refine ⟨?_, ?_, ?_, ?_, ?_, ?_, ?_, ?_, ?_, ?_, fun o => frozen_of_block H.box⟩ <;> (rw [cell_of_block H.box]; rfl)
end

theorem sizeAP : (Try.prog.info? 33).map (·.size) = some 10 := by kernel_rfl

theorem ten_cells {w : World} {b : Nat} {t : TypeId} {y0 y1 y2 y3 y4 y5 y6 y7 y8 y9 : Value} (h : w.heap[b]? = some (.cells #[y0, y1, y2, y3, y4, y5, y6, y7, y8, y9] t (0, 0))) (x0 x1 x2 x3 x4 x5 x6 x7 x8 x9 : Value) :
    ((((((((((w.setCell ⟨b, 0, none⟩ x0).setCell ⟨b, 1, none⟩ x1).setCell ⟨b, 2, none⟩ x2).setCell ⟨b, 3, none⟩ x3).setCell ⟨b, 4, none⟩ x4).setCell ⟨b, 5, none⟩ x5).setCell ⟨b, 6, none⟩ x6).setCell ⟨b, 7, none⟩ x7).setCell ⟨b, 8, none⟩ x8).setCell ⟨b, 9, none⟩ x9).heap[b]? = some (.cells #[x0, x1, x2, x3, x4, x5, x6, x7, x8, x9] t (0, 0)) := by
  have h0 := block_setCell h (i := 0) x0
  have h1 := block_setCell h0 (i := 1) x1
  have h2 := block_setCell h1 (i := 2) x2
  have h3 := block_setCell h2 (i := 3) x3
  have h4 := block_setCell h3 (i := 4) x4
  have h5 := block_setCell h4 (i := 5) x5
  have h6 := block_setCell h5 (i := 6) x6
  have h7 := block_setCell h6 (i := 7) x7
  have h8 := block_setCell h7 (i := 8) x8
  have h9 := block_setCell h8 (i := 9) x9
  rw [h9]
  simp

def RawD.podName (r : RawD) : ByteArray := nameS ⟨#[112]⟩ (pickI r.name 20)
def RawD.podSelect (r : RawD) : List Lab := if r.F / 12 % 5 = 0 then [(⟨#[100, 105, 115, 107]⟩, nameS ⟨#[100]⟩ (r.F / 60 % 2))] else []
def RawD.podBears (r : RawD) : List Lab := if 0 < r.F / 120 % 3 then [(⟨#[108, 111, 97, 100]⟩, ⟨#[104, 101, 97, 118, 121]⟩), (⟨#[109, 111, 114, 101]⟩, ⟨#[108, 105, 103, 104, 116]⟩)] else []
def RawD.podNear (r : RawD) : List Lab := if r.K / 16 % 4 = 0 then labsI (r.K / 64 % 16) else []
def RawD.podApart (r : RawD) : List Lab := if r.K / 1024 % 4 = 0 then labsI (r.K / 4096 % 16) else []
def RawD.podPort (r : RawD) : Int := if r.F % 4 = 0 then 1 + r.F / 4 % 3 else 0

theorem labsI_ok (n : Int) : LabsOk (labsI n) ∧ (labsI n).length ≤ 2 := by
  unfold labsI
  refine ⟨fun x hx => ?_, ?_⟩
  · rcases List.mem_append.1 hx with h | h
    · split at h
      · simp only [List.mem_singleton] at h
        subst h
        dsimp only
        rw [nameS_size]
        decide
      · simp at h
    · split at h
      · simp only [List.mem_singleton] at h
        subst h
        dsimp only
        rw [nameS_size]
        decide
      · simp at h
  · split <;> split <;> simp

set_option maxRecDepth 100000 in
set_option maxHeartbeats 20000000 in
theorem kpod_any (r : RawD) (hr : r.ok) (w : World) : Calls Try.prog 29 #[.agg r.cells] w fun e w' => ∃ p : PodD, e = .returned (.agg p.cells) ∧ p.ok w' ∧ p.name = r.podName ∧ p.n0 = r.N % 9 ∧ p.n1 = r.N / 9 % 9 ∧ p.n2 = r.N / 81 % 9 / 7 ∧ p.port = r.podPort ∧ p.labels.L = labsI (r.K % 16) ∧ p.select.L = r.podSelect ∧ p.bears.L = r.podBears ∧ p.near.L = r.podNear ∧ p.apart.L = r.podApart ∧ Below w.heap.size w w' := by
  have c1 := fun W => pick_any r.needs 1099511627776 W (by omega) (by omega) hr.needs.1 hr.needs.2
  have c2 := fun W => pick_any r.flags 1073741824 W (by omega) (by omega) hr.flags.1 hr.flags.2
  have c3 := fun W => pick_any r.links 1073741824 W (by omega) (by omega) hr.links.1 hr.links.2
  have c4 := fun W => pick_any r.name 20 W (by omega) (by omega) hr.name.1 hr.name.2
  have b1 := pickI_bound r.needs (n := 1099511627776) (by omega)
  have b2 := pickI_bound r.flags (n := 1073741824) (by omega)
  have b3 := pickI_bound r.links (n := 1073741824) (by omega)
  have b4 := pickI_bound r.name (n := 20) (by omega)
  have HN : Hid (r.N = pickI r.needs 1099511627776 ∧ r.F = pickI r.flags 1073741824 ∧ r.K = pickI r.links 1073741824 ∧ r.podName = nameS ⟨#[112]⟩ (pickI r.name 20)) := ⟨rfl, rfl, rfl, rfl⟩
  generalize pickI r.needs 1099511627776 = nn at *
  generalize pickI r.flags 1073741824 = ff at *
  generalize pickI r.links 1073741824 = kk at *
  generalize pickI r.name 20 = pn at *
  have c5 := fun W => kname_any ⟨#[112]⟩ pn W (by omega) (by decide)
  have c6 := fun W => klabels_any (kk % 16) W (by omega) (by omega)
  have c7 := fun W => kname_any ⟨#[100]⟩ (ff / 60 % 2) W (by omega) (by decide)
  have c8 := fun W => klabels_any (kk / 64 % 16) W (by omega) (by omega)
  have c9 := fun W => klabels_any (kk / 4096 % 16) W (by omega) (by omega)
  unfold RawD.cells
  go_enter Try.func29, Try.ntmps29
  go_upto_if 36 with (first
    | (go_at_call_of 28 (Value.int .i64 r.needs); refine (c1 _).mono ?_; rintro e w1 ⟨rfl, rfl⟩)
    | (go_at_call_of 28 (Value.int .i64 r.flags); refine (c2 _).mono ?_; rintro e w1 ⟨rfl, rfl⟩)
    | (go_at_call_of 28 (Value.int .i64 r.links); refine (c3 _).mono ?_; rintro e w1 ⟨rfl, rfl⟩)
    | (go_at_call_of 28 (Value.int .i64 20); refine (c4 _).mono ?_; rintro e w1 ⟨rfl, rfl⟩)
    | (go_at_call_of 46 (Value.string ⟨#[112]⟩); refine (c5 _).mono ?_; rintro e w1 ⟨rfl, hb1⟩)
    | (go_at_call 50; refine (c6 _).mono ?_; rintro e w2 ⟨ao, cap, rfl, r2, hb2⟩))
  have z1 := hb1.size
  simp only [World.size_alloc] at z1
  have z2 := hb2.size
  have hb12 : Below w.heap.size w w2 := (below_trans (below_alloc _ _) (below_alloc _ _)).trans ((hb1.mono (by simp; omega)).trans (hb2.mono (by omega)))
  have hbR : w2.heap[w.heap.size + 1]? = some (.cells #[.string ⟨#[]⟩, .int .i64 0, .int .i64 0, .int .i64 0, .int .i64 0, .slice none 0 0, .slice none 0 0, .slice none 0 0, .slice none 0 0, .slice none 0 0] 33 (0, 0)) := by
    rw [hb2.block _ (by omega), hb1.block _ (by simp)]
    have := block_alloc_new (w.alloc (.cells #[.int .i64 r.kind, .int .i64 r.name, .int .i64 r.node, .int .i64 r.needs, .int .i64 r.flags, .int .i64 r.links] 62)) (.cells #[.string ⟨#[]⟩, .int .i64 0, .int .i64 0, .int .i64 0, .int .i64 0, .slice none 0 0, .slice none 0 0, .slice none 0 0, .slice none 0 0, .slice none 0 0] 33)
    simpa using this
  have hL0 : LV (w.heap.size + 2) w2.heap.size w2 (.slice ao (labsI (kk % 16)).length cap) (labsI (kk % 16)) := by
    refine ⟨ao, cap, rfl, r2.labs.2, r2.labs.1, fun q hq => ?_⟩
    obtain ⟨h1, cur, h2⟩ := own_ptr r2.row hq
    have := r2.new q.block h1
    have := lt_of_block h2
    omega
  have P0 : PodBox (w.heap.size + 2) (w2.alloc (.cells #[.string (nameS ⟨#[112]⟩ pn), .int .i64 (nn % 9), .int .i64 (nn / 9 % 9), .int .i64 (nn / 81 % 9 / 7), .int .i64 0, .slice ao (labsI (kk % 16)).length cap, .slice none 0 0, .slice none 0 0, .slice none 0 0, .slice none 0 0] 33)) w2.heap.size (nameS ⟨#[112]⟩ pn) (nn % 9) (nn / 9 % 9) (nn / 81 % 9 / 7) 0 (.slice ao (labsI (kk % 16)).length cap) (.slice none 0 0) (.slice none 0 0) (.slice none 0 0) (.slice none 0 0) (labsI (kk % 16)) [] [] [] [] := by
    exact ⟨block_alloc_new _ _, hL0.below (below_alloc _ _), LV.nil _ _ _, LV.nil _ _ _, LV.nil _ _ _, LV.nil _ _ _⟩
  clear r2
  have hb3 : Below w2.heap.size w2 (w2.alloc (.cells #[.string (nameS ⟨#[112]⟩ pn), .int .i64 (nn % 9), .int .i64 (nn / 9 % 9), .int .i64 (nn / 81 % 9 / 7), .int .i64 0, .slice ao (labsI (kk % 16)).length cap, .slice none 0 0, .slice none 0 0, .slice none 0 0, .slice none 0 0] 33)) := below_alloc _ _
  have Hnm : Hid ((nameS ⟨#[112]⟩ pn).size = 2) := nameS_size _ _
  generalize nameS ⟨#[112]⟩ pn = nm at *
  obtain ⟨q0, hq0⟩ : ∃ q, q = nn % 9 := ⟨_, rfl⟩
  obtain ⟨q1, hq1⟩ : ∃ q, q = nn / 9 % 9 := ⟨_, rfl⟩
  obtain ⟨q2, hq2⟩ : ∃ q, q = nn / 81 % 9 / 7 := ⟨_, rfl⟩
  have HQ : Hid (q0 = nn % 9 ∧ q1 = nn / 9 % 9 ∧ q2 = nn / 81 % 9 / 7) := ⟨hq0, hq1, hq2⟩
  rw [← hq0, ← hq1, ← hq2] at P0 hb3 ⊢
  clear hq0 hq1 hq2
  obtain ⟨LL, hLL⟩ : ∃ L, L = labsI (kk % 16) := ⟨_, rfl⟩
  have HLL : Hid (LL = labsI (kk % 16)) := hLL
  rw [← hLL] at P0 hb3 hL0 ⊢
  clear hLL c1 c2 c3 c4 c5 c6
  go_cut [] from 7 (fun wx => ∃ v0, PodBox (w.heap.size + 2) wx w2.heap.size nm q0 q1 q2 (if ff % 4 = 0 then 1 + ff / 4 % 3 else 0) v0 (.slice none 0 0) (.slice none 0 0) (.slice none 0 0) (.slice none 0 0) LL [] [] [] [] ∧ Below w2.heap.size w2 wx)
  case first =>
    by_cases hc : ff % 4 = 0
    · go_wp2
      go_meet
      rw [if_pos hc]
      exact ⟨_, ⟨block_alloc_new _ _, hL0.below (below_alloc _ _), LV.nil _ _ _, LV.nil _ _ _, LV.nil _ _ _, LV.nil _ _ _⟩, below_alloc _ _⟩
    · have hcb : (ff % 4 == 0) = false := by simpa using hc
      go_wp2
      go_meet
      rw [if_neg hc]
      exact ⟨_, P0, hb3⟩
  case rest =>
    clear P0 hb3
    obtain ⟨v0, P0, hb3⟩ := hcut
    clear hL0
    obtain ⟨pt, hpt⟩ : ∃ x, x = (if ff % 4 = 0 then 1 + ff / 4 % 3 else 0) := ⟨_, rfl⟩
    have Hpt : Hid (pt = (if ff % 4 = 0 then 1 + ff / 4 % 3 else 0)) := hpt
    rw [← hpt] at P0
    clear hpt
    obtain ⟨sd, hsd⟩ : ∃ x, x = nameS ⟨#[100]⟩ (ff / 60 % 2) := ⟨_, rfl⟩
    have Hsd : Hid (sd = nameS ⟨#[100]⟩ (ff / 60 % 2)) := hsd
    rw [← hsd] at c7
    clear hsd
    obtain ⟨L8, hL8⟩ : ∃ x, x = labsI (kk / 64 % 16) := ⟨_, rfl⟩
    have HL8 : Hid (L8 = labsI (kk / 64 % 16)) := hL8
    rw [← hL8] at c8
    clear hL8
    obtain ⟨L9, hL9⟩ : ∃ x, x = labsI (kk / 4096 % 16) := ⟨_, rfl⟩
    have HL9 : Hid (L9 = labsI (kk / 4096 % 16)) := hL9
    rw [← hL9] at c9
    clear hL9
    have f0 := fun o => frozen_of_block (i := o) P0.box
    have x0 := lt_of_block P0.box
    have p0 : wc.cell? ⟨w2.heap.size, 6, none⟩ = some (.slice none 0 0) := P0.cells.2.2.2.2.2.2.1
    go_upto_if 45 with fail
    go_cut [] from 7 (fun wx => ∃ v1, PodBox (w.heap.size + 2) wx w2.heap.size nm q0 q1 q2 pt v0 v1 (.slice none 0 0) (.slice none 0 0) (.slice none 0 0) LL (if ff / 12 % 5 = 0 then [((⟨#[100, 105, 115, 107]⟩, sd) : Lab)] else []) [] [] [] ∧ Below w2.heap.size w2 wx)
    case first =>
      by_cases hc : ff / 12 % 5 = 0
      · go_wp2_with (go_at_call 46; refine (c7 _).mono ?_; rintro e w3 ⟨rfl, hb4⟩; have z3 := hb4.size; have x3 := Nat.lt_of_lt_of_le x0 z3; have f3 := fun o => (hb4.frozen (p := ⟨w2.heap.size, o, none⟩) x0).trans (f0 o); have p3 := (hb4.cell (p := ⟨w2.heap.size, 6, none⟩) x0).trans p0; have p3' := ((below_alloc w3 (.cells #[.string ⟨#[100, 105, 115, 107]⟩, .string sd] 51)).cell (p := ⟨w2.heap.size, 6, none⟩) x3).trans p3; have f3' := ((below_alloc w3 (.cells #[.string ⟨#[100, 105, 115, 107]⟩, .string sd] 51)).frozen (p := ⟨w2.heap.size, 6, none⟩) x3).trans (f3 6); have P3 := P0.below hb4; have hb5 := hb3.trans (hb4.mono (Nat.le_of_lt x0)))
        go_meet
        rw [if_pos hc]
        exact ⟨_, P3.new1 [(⟨#[100, 105, 115, 107]⟩, sd)] (by omega), hb5.trans (below_new _ _ _ _ _ (lt_of_block P3.box))⟩
      · have hcb : (ff / 12 % 5 == 0) = false := by simpa using hc
        go_wp2
        go_meet
        rw [if_neg hc]
        exact ⟨_, P0, hb3⟩
    case rest =>
      clear P0 hb3 f0 x0 p0
      obtain ⟨v1, P0, hb3⟩ := hcut
      obtain ⟨L1, hL1⟩ : ∃ x, x = (if ff / 12 % 5 = 0 then [((⟨#[100, 105, 115, 107]⟩, sd) : Lab)] else []) := ⟨_, rfl⟩
      have HL1 : Hid (L1 = (if ff / 12 % 5 = 0 then [((⟨#[100, 105, 115, 107]⟩, sd) : Lab)] else [])) := hL1
      rw [← hL1] at P0
      clear hL1 c7
      have f0 := fun o => frozen_of_block (i := o) P0.box
      have x0 := lt_of_block P0.box
      have p0 : wc.cell? ⟨w2.heap.size, 7, none⟩ = some (.slice none 0 0) := P0.cells.2.2.2.2.2.2.2.1
      go_upto_if 56 with fail
      go_cut [] from 7 (fun wx => ∃ v2, PodBox (w.heap.size + 2) wx w2.heap.size nm q0 q1 q2 pt v0 v1 v2 (.slice none 0 0) (.slice none 0 0) LL L1 (if 0 < ff / 120 % 3 then [((⟨#[108, 111, 97, 100]⟩, ⟨#[104, 101, 97, 118, 121]⟩) : Lab), (⟨#[109, 111, 114, 101]⟩, ⟨#[108, 105, 103, 104, 116]⟩)] else []) [] [] ∧ Below w2.heap.size w2 wx)
      case first =>
        by_cases hc : 0 < ff / 120 % 3
        · go_wp2
          go_meet
          rw [if_pos (by omega)]
          exact ⟨_, P0.new2 [(⟨#[108, 111, 97, 100]⟩, ⟨#[104, 101, 97, 118, 121]⟩), (⟨#[109, 111, 114, 101]⟩, ⟨#[108, 105, 103, 104, 116]⟩)] (by omega), hb3.trans (below_new _ _ _ _ _ x0)⟩
        · go_wp2
          go_meet
          rw [if_neg (by omega)]
          exact ⟨_, P0, hb3⟩
      case rest =>
        clear P0 hb3 f0 x0 p0
        obtain ⟨v2, P0, hb3⟩ := hcut
        obtain ⟨L2, hL2⟩ : ∃ x, x = (if 0 < ff / 120 % 3 then [((⟨#[108, 111, 97, 100]⟩, ⟨#[104, 101, 97, 118, 121]⟩) : Lab), (⟨#[109, 111, 114, 101]⟩, ⟨#[108, 105, 103, 104, 116]⟩)] else []) := ⟨_, rfl⟩
        have HL2 : Hid (L2 = (if 0 < ff / 120 % 3 then [((⟨#[108, 111, 97, 100]⟩, ⟨#[104, 101, 97, 118, 121]⟩) : Lab), (⟨#[109, 111, 114, 101]⟩, ⟨#[108, 105, 103, 104, 116]⟩)] else [])) := hL2
        rw [← hL2] at P0
        clear hL2
        have f0 := fun o => frozen_of_block (i := o) P0.box
        have x0 := lt_of_block P0.box
        have p0 : wc.cell? ⟨w2.heap.size, 8, none⟩ = some (.slice none 0 0) := P0.cells.2.2.2.2.2.2.2.2.1
        go_upto_if 64 with fail
        go_cut [] from 7 (fun wx => ∃ v3, PodBox (w.heap.size + 2) wx w2.heap.size nm q0 q1 q2 pt v0 v1 v2 v3 (.slice none 0 0) LL L1 L2 (if kk / 16 % 4 = 0 then L8 else []) [] ∧ Below w2.heap.size w2 wx)
        case first =>
          by_cases hc : kk / 16 % 4 = 0
          · go_wp2_with (go_at_call 50; refine (c8 _).mono ?_; rintro e w3 ⟨ao8, cap8, rfl, r8, hb4⟩; have f3 := fun o => (hb4.frozen (p := ⟨w2.heap.size, o, none⟩) x0).trans (f0 o); have p3 := (hb4.cell (p := ⟨w2.heap.size, 8, none⟩) x0).trans p0; have P3 := P0.below hb4; have hb5 := hb3.trans (hb4.mono (Nat.le_of_lt x0)))
            go_meet
            rw [if_pos hc]
            exact ⟨_, P3.set3 (LV.of_row r8 (by omega) (by omega)), hb5.trans (below_set _ _ _ _ (lt_of_block P3.box))⟩
          · have hcb : (kk / 16 % 4 == 0) = false := by simpa using hc
            go_wp2
            go_meet
            rw [if_neg hc]
            exact ⟨_, P0, hb3⟩
        case rest =>
          clear P0 hb3 f0 x0 p0
          obtain ⟨v3, P0, hb3⟩ := hcut
          obtain ⟨L3, hL3⟩ : ∃ x, x = (if kk / 16 % 4 = 0 then L8 else []) := ⟨_, rfl⟩
          have HL3 : Hid (L3 = (if kk / 16 % 4 = 0 then L8 else [])) := hL3
          rw [← hL3] at P0
          clear hL3 c8
          have f0 := fun o => frozen_of_block (i := o) P0.box
          have x0 := lt_of_block P0.box
          have p0 : wc.cell? ⟨w2.heap.size, 9, none⟩ = some (.slice none 0 0) := P0.cells.2.2.2.2.2.2.2.2.2.1
          go_upto_if 73 with fail
          go_cut [] from 7 (fun wx => ∃ v4, PodBox (w.heap.size + 2) wx w2.heap.size nm q0 q1 q2 pt v0 v1 v2 v3 v4 LL L1 L2 L3 (if kk / 1024 % 4 = 0 then L9 else []) ∧ Below w2.heap.size w2 wx)
          case first =>
            by_cases hc : kk / 1024 % 4 = 0
            · go_wp2_with (go_at_call 50; refine (c9 _).mono ?_; rintro e w3 ⟨ao8, cap8, rfl, r8, hb4⟩; have f3 := fun o => (hb4.frozen (p := ⟨w2.heap.size, o, none⟩) x0).trans (f0 o); have p3 := (hb4.cell (p := ⟨w2.heap.size, 9, none⟩) x0).trans p0; have P3 := P0.below hb4; have hb5 := hb3.trans (hb4.mono (Nat.le_of_lt x0)))
              go_meet
              rw [if_pos hc]
              exact ⟨_, P3.set4 (LV.of_row r8 (by omega) (by omega)), hb5.trans (below_set _ _ _ _ (lt_of_block P3.box))⟩
            · have hcb : (kk / 1024 % 4 == 0) = false := by simpa using hc
              go_wp2
              go_meet
              rw [if_neg hc]
              exact ⟨_, P0, hb3⟩
          case rest =>
            clear P0 hb3 f0 x0 p0
            obtain ⟨v4, P0, hb3⟩ := hcut
            obtain ⟨L4, hL4⟩ : ∃ x, x = (if kk / 1024 % 4 = 0 then L9 else []) := ⟨_, rfl⟩
            have HL4 : Hid (L4 = (if kk / 1024 % 4 = 0 then L9 else [])) := hL4
            rw [← hL4] at P0
            clear hL4 c9
            obtain ⟨p0, p1, p2, p3, p4, p5, p6, p7, p8, p9, f0⟩ := P0.cells
            have hbR' : wc.heap[w.heap.size + 1]? = _ := (hb3.block _ (by omega)).trans hbR
            have fR := fun o => frozen_of_block (i := o) hbR'
            have g0 : wc.cell? ⟨w.heap.size + 1, 0, none⟩ = some (.string ⟨#[]⟩) := by rw [cell_of_block hbR']; rfl
            have g1 : wc.cell? ⟨w.heap.size + 1, 1, none⟩ = some (.int .i64 0) := by rw [cell_of_block hbR']; rfl
            have g2 : wc.cell? ⟨w.heap.size + 1, 2, none⟩ = some (.int .i64 0) := by rw [cell_of_block hbR']; rfl
            have g3 : wc.cell? ⟨w.heap.size + 1, 3, none⟩ = some (.int .i64 0) := by rw [cell_of_block hbR']; rfl
            have g4 : wc.cell? ⟨w.heap.size + 1, 4, none⟩ = some (.int .i64 0) := by rw [cell_of_block hbR']; rfl
            have g5 : wc.cell? ⟨w.heap.size + 1, 5, none⟩ = some (.slice none 0 0) := by rw [cell_of_block hbR']; rfl
            have g6 : wc.cell? ⟨w.heap.size + 1, 6, none⟩ = some (.slice none 0 0) := by rw [cell_of_block hbR']; rfl
            have g7 : wc.cell? ⟨w.heap.size + 1, 7, none⟩ = some (.slice none 0 0) := by rw [cell_of_block hbR']; rfl
            have g8 : wc.cell? ⟨w.heap.size + 1, 8, none⟩ = some (.slice none 0 0) := by rw [cell_of_block hbR']; rfl
            have g9 : wc.cell? ⟨w.heap.size + 1, 9, none⟩ = some (.slice none 0 0) := by rw [cell_of_block hbR']; rfl
            have hne : ¬ w2.heap.size = w.heap.size + 1 := by omega
            obtain ⟨a0, k0, e0, u0, m0, n0⟩ := P0.l0
            obtain ⟨a1, k1, e1, u1, m1, n1⟩ := P0.l1
            obtain ⟨a2, k2, e2, u2, m2, n2⟩ := P0.l2
            obtain ⟨a3, k3, e3, u3, m3, n3⟩ := P0.l3
            obtain ⟨a4, k4, e4, u4, m4, n4⟩ := P0.l4
            subst e0 e1 e2 e3 e4
            have HP : Hid (PodBox (w.heap.size + 2) wc w2.heap.size nm q0 q1 q2 pt (.slice a0 LL.length k0) (.slice a1 L1.length k1) (.slice a2 L2.length k2) (.slice a3 L3.length k3) (.slice a4 L4.length k4) LL L1 L2 L3 L4) := P0
            clear P0
            have HM : Hid ((LabsAt wc a0 LL ∧ ∀ q, a0 = some q → w.heap.size + 2 ≤ q.block ∧ q.block ≠ w2.heap.size) ∧ (LabsAt wc a1 L1 ∧ ∀ q, a1 = some q → w.heap.size + 2 ≤ q.block ∧ q.block ≠ w2.heap.size) ∧ (LabsAt wc a2 L2 ∧ ∀ q, a2 = some q → w.heap.size + 2 ≤ q.block ∧ q.block ≠ w2.heap.size) ∧ (LabsAt wc a3 L3 ∧ ∀ q, a3 = some q → w.heap.size + 2 ≤ q.block ∧ q.block ≠ w2.heap.size) ∧ (LabsAt wc a4 L4 ∧ ∀ q, a4 = some q → w.heap.size + 2 ≤ q.block ∧ q.block ≠ w2.heap.size)) := ⟨⟨m0, n0⟩, ⟨m1, n1⟩, ⟨m2, n2⟩, ⟨m3, n3⟩, ⟨m4, n4⟩⟩
            clear m0 n0 m1 n1 m2 n2 m3 n3 m4 n4
            go_wp2
            have hblk : ((((((((((wc.setCell ⟨w.heap.size + 1, 0, none⟩ (.string nm)).setCell ⟨w.heap.size + 1, 1, none⟩ (.int .i64 q0)).setCell ⟨w.heap.size + 1, 2, none⟩ (.int .i64 q1)).setCell ⟨w.heap.size + 1, 3, none⟩ (.int .i64 q2)).setCell ⟨w.heap.size + 1, 4, none⟩ (.int .i64 pt)).setCell ⟨w.heap.size + 1, 5, none⟩ (.slice a0 LL.length k0)).setCell ⟨w.heap.size + 1, 6, none⟩ (.slice a1 L1.length k1)).setCell ⟨w.heap.size + 1, 7, none⟩ (.slice a2 L2.length k2)).setCell ⟨w.heap.size + 1, 8, none⟩ (.slice a3 L3.length k3)).setCell ⟨w.heap.size + 1, 9, none⟩ (.slice a4 L4.length k4)).heap[w.heap.size + 1]? = some (.cells #[.string nm, .int .i64 q0, .int .i64 q1, .int .i64 q2, .int .i64 pt, .slice a0 LL.length k0, .slice a1 L1.length k1, .slice a2 L2.length k2, .slice a3 L3.length k3, .slice a4 L4.length k4] 33 (0, 0)) := ten_cells hbR' _ _ _ _ _ _ _ _ _ _
            refine bodyPost_ret (v := .agg #[.string nm, .int .i64 q0, .int .i64 q1, .int .i64 q2, .int .i64 pt, .slice a0 LL.length k0, .slice a1 L1.length k1, .slice a2 L2.length k2, .slice a3 L3.length k3, .slice a4 L4.length k4]) (results_box rfl rfl (run_loadVar_row _ _ _ _ _ _ _ hblk Try.underlying33 rfl sizeAP)) rfl ?_
            have K := ((((((((((Kept.refl (fun b => b = w.heap.size + 1) wc).setCell (p := ⟨w.heap.size + 1, 0, none⟩) (fun _ => rfl) (.string nm)).setCell (p := ⟨w.heap.size + 1, 1, none⟩) (fun _ => rfl) (.int .i64 q0)).setCell (p := ⟨w.heap.size + 1, 2, none⟩) (fun _ => rfl) (.int .i64 q1)).setCell (p := ⟨w.heap.size + 1, 3, none⟩) (fun _ => rfl) (.int .i64 q2)).setCell (p := ⟨w.heap.size + 1, 4, none⟩) (fun _ => rfl) (.int .i64 pt)).setCell (p := ⟨w.heap.size + 1, 5, none⟩) (fun _ => rfl) (.slice a0 LL.length k0)).setCell (p := ⟨w.heap.size + 1, 6, none⟩) (fun _ => rfl) (.slice a1 L1.length k1)).setCell (p := ⟨w.heap.size + 1, 7, none⟩) (fun _ => rfl) (.slice a2 L2.length k2)).setCell (p := ⟨w.heap.size + 1, 8, none⟩) (fun _ => rfl) (.slice a3 L3.length k3)).setCell (p := ⟨w.heap.size + 1, 9, none⟩) (fun _ => rfl) (.slice a4 L4.length k4)
            obtain ⟨⟨m0, n0⟩, ⟨m1, n1⟩, ⟨m2, n2⟩, ⟨m3, n3⟩, ⟨m4, n4⟩⟩ := HM.out
            obtain ⟨E1, E2, E3, E4⟩ := HN.out
            have i0 := labsI_ok (kk % 16)
            rw [← HLL.out] at i0
            have i1 : LabsOk L1 ∧ L1.length ≤ 2 := by
              rw [HL1.out]
              split
              · exact ⟨fun x hx => by simp only [List.mem_singleton] at hx; subst hx; dsimp only; rw [Hsd.out, nameS_size]; decide, by simp⟩
              · exact ⟨fun x hx => by simp at hx, by simp⟩
            have i2 : LabsOk L2 ∧ L2.length ≤ 2 := by
              rw [HL2.out]
              split
              · exact ⟨fun x hx => by simp only [List.mem_cons, List.not_mem_nil, or_false] at hx; rcases hx with rfl | rfl <;> decide, by simp⟩
              · exact ⟨fun x hx => by simp at hx, by simp⟩
            have i3 : LabsOk L3 ∧ L3.length ≤ 2 := by
              rw [HL3.out]
              split
              · rw [HL8.out]; exact labsI_ok _
              · exact ⟨fun x hx => by simp at hx, by simp⟩
            have i4 : LabsOk L4 ∧ L4.length ≤ 2 := by
              rw [HL4.out]
              split
              · rw [HL9.out]; exact labsI_ok _
              · exact ⟨fun x hx => by simp at hx, by simp⟩
            refine ⟨⟨nm, q0, q1, q2, pt, ⟨a0, LL, k0⟩, ⟨a1, L1, k1⟩, ⟨a2, L2, k2⟩, ⟨a3, L3, k3⟩, ⟨a4, L4, k4⟩⟩, rfl, ⟨?_, fun x hx => ?_⟩, E4.symm, ?_, ?_, ?_, ?_, ?_, ?_, ?_, ?_, ?_, ?_⟩
            · show nm.size ≤ _
              rw [Hnm.out]
              decide
            · simp only [PodD.lists, List.mem_cons, List.not_mem_nil, or_false] at hx
              rcases hx with rfl | rfl | rfl | rfl | rfl
              · exact ⟨by have := i0.2; dsimp only; omega, u0, labsAt_kept m0 K fun q hq e => by have := (n0 q hq).1; omega, i0.1⟩
              · exact ⟨by have := i1.2; dsimp only; omega, u1, labsAt_kept m1 K fun q hq e => by have := (n1 q hq).1; omega, i1.1⟩
              · exact ⟨by have := i2.2; dsimp only; omega, u2, labsAt_kept m2 K fun q hq e => by have := (n2 q hq).1; omega, i2.1⟩
              · exact ⟨by have := i3.2; dsimp only; omega, u3, labsAt_kept m3 K fun q hq e => by have := (n3 q hq).1; omega, i3.1⟩
              · exact ⟨by have := i4.2; dsimp only; omega, u4, labsAt_kept m4 K fun q hq e => by have := (n4 q hq).1; omega, i4.1⟩
            · rw [E1]; exact HQ.out.1
            · rw [E1]; exact HQ.out.2.1
            · rw [E1]; exact HQ.out.2.2
            · unfold RawD.podPort; rw [E2]; exact Hpt.out
            · rw [E3]; exact HLL.out
            · unfold RawD.podSelect; rw [E2, ← Hsd.out]; exact HL1.out
            · unfold RawD.podBears; rw [E2]; exact HL2.out
            · unfold RawD.podNear; rw [E3, ← HL8.out]; exact HL3.out
            · unfold RawD.podApart; rw [E3, ← HL9.out]; exact HL4.out
            · have z3 := hb3.size
              exact hb12.trans ((hb3.mono (by omega)).trans (K.below (by omega) fun i hi e => by omega))

end Go.Proofs.Ytchddaafibjmgaa
