/-
  The program's State, walked.
-/
import Derived.Test.YtchddaafibjmgaaQA12
import Derived.Conc.LoneSelectN
namespace Go.Proofs.Ytchddaafibjmgaa
open Go.RowKit Go.Maps

set_option maxRecDepth 100000 in
set_option maxHeartbeats 4000000 in
theorem pState_any {F : Nat → Prop} {w : World} {Y : Nat} {hd : Head} {g : Gh} (H : BMem F w Y hd g) (hS : Small g) (hN : g.NN.length ≤ 64) (hnk : ∀ p ∈ g.NN, p.1.length ≤ maxLen) (hpk : ∀ p ∈ g.PP, p.1.length ≤ maxLen) (hpn : ∀ p ∈ g.PP, p.2.2.node.length ≤ maxLen) :
    Calls Try.prog 25 #[.pointer (some ⟨Y, 0, none⟩)] w fun e w' => ∃ a1 c1 a2 c2, e = .returned (.agg #[.int .i64 hd.now, .slice a1 g.NN.length c1, .slice a2 g.PP.length c2, .int .i64 g.WW.length]) ∧ w'.ownsRow 0 76 5 (.slice a1 g.NN.length c1) g.NN.length (g.NN.flatMap fun p => useRow g p.1) ∧ w'.ownsRow 0 80 4 (.slice a2 g.PP.length c2) g.PP.length (g.PP.flatMap liesRow) ∧
      (∀ b, (Value.slice a1 g.NN.length c1).ownBlock = some b → w.heap.size ≤ b) ∧ (∀ b, (Value.slice a2 g.PP.length c2).ownBlock = some b → w.heap.size ≤ b) ∧ Below w.heap.size w w' := by
  have hx3 : w.cell? ⟨Y, 3, none⟩ = some (.int .i64 hd.now) := H.cells.2.2.2.1
  have hY := H.lt Y H.fy
  obtain ⟨w0, hw0⟩ : ∃ W, W = (w.alloc (.cells #[.int .i64 0, .slice none 0 0, .slice none 0 0, .int .i64 0] 67)).drew := ⟨_, rfl⟩
  have hb0 : Below w.heap.size w w0 := by rw [hw0]; exact (below_alloc _ _).drew
  have H0 := H.below hb0
  have hx0 := H0.cells.2.2.2.1
  have cU := uses_any H0 hS hN hnk hpn
  have cL := fun W (h : Below w0.heap.size w0 W) => lies_any (H0.below h) hS.pods hpk
  have hx9 := H0.cC
  have hlenc : ∀ W, Below w0.heap.size w0 W → ∀ ty, (Builtin.len_ #[111] ty #[.chan (some g.bc)]).run Try.prog W = .ok (.int .i64 g.WW.length) W := by
    intro W h1 ty
    obtain ⟨s, r, ho⟩ := (H0.below h1).ch.ob
    have := Go.Conc.run_len_chan (P := Try.prog) 111 ty Try.underlying111 ho
    simpa [goInt] using this
  have lc0 := hlenc w0 (Below.refl _ _)
  have zY : Y < w0.heap.size := Nat.lt_of_lt_of_le hY hb0.size
  have zv : w.heap.size < w0.heap.size := by rw [hw0]; simp
  have hYv : ¬ Y = w.heap.size := by omega
  have hYv' : ¬ w.heap.size = Y := by omega
  rw [hw0] at cU
  have cL' := cL
  rw [hw0] at cL hlenc hx9 lc0
  have zY' := zY
  rw [hw0] at zY'
  have zv' := zv
  rw [hw0] at zv'
  have hsz := hb0.size
  clear H H0 hS
  go_enter Try.func25, Try.ntmps25
  go_wp2
  go_region_with (first
    | (go_at_call 48; refine cU.mono ?_; rintro e w1 ⟨a1, c1, rfl, r1, f1, b1⟩; have lc1 := hlenc w1 b1; have q1 := fun o => b1.cell (p := ⟨Y, o, none⟩) zY'; have v1 := fun o => b1.cell (p := ⟨w.heap.size, o, none⟩) zv'; have n1 := fun o => b1.frozen (p := ⟨w.heap.size, o, none⟩) zv')
    | (go_at_call 49; refine (cL w1 b1).mono ?_; rintro e w2 ⟨a2, c2, rfl, r2, f2, b2⟩; have lc2 := hlenc w2 (below_trans b1 b2); have q2 := fun o => b2.cell (p := ⟨Y, o, none⟩) (Nat.lt_of_lt_of_le zY' b1.size); have v2 := fun o => b2.cell (p := ⟨w.heap.size, o, none⟩) (Nat.lt_of_lt_of_le zv' b1.size); have n2 := fun o => b2.frozen (p := ⟨w.heap.size, o, none⟩) (Nat.lt_of_lt_of_le zv' b1.size)))
  all_goals go_wp2
  all_goals have K : Kept (fun b => b = w.heap.size) w2 ((((w2.setCell ⟨w.heap.size, 0, none⟩ (.int .i64 hd.now)).setCell ⟨w.heap.size, 1, none⟩ (.slice a1 g.NN.length c1)).setCell ⟨w.heap.size, 2, none⟩ (.slice a2 g.PP.length c2)).setCell ⟨w.heap.size, 3, none⟩ (.int .i64 g.WW.length)) := ((((Kept.refl (fun b => b = w.heap.size) w2).setCell (p := ⟨w.heap.size, 0, none⟩) (fun _ => rfl) _).setCell (p := ⟨w.heap.size, 1, none⟩) (fun _ => rfl) _).setCell (p := ⟨w.heap.size, 2, none⟩) (fun _ => rfl) _).setCell (p := ⟨w.heap.size, 3, none⟩) (fun _ => rfl) _
  all_goals rw [← hw0] at b1 f1
  all_goals have h1 := (Kept.of_below (F := noBlock) b2).ownsRow r1 fun _ _ => id
  all_goals have hs1 := b1.size
  all_goals have g1 := K.ownsRow h1 fun b hb e => by have := f1 b hb; omega
  all_goals have g2 := K.ownsRow r2 fun b hb e => by have := f2 b hb; omega
  all_goals have hB := (below_trans hb0 (below_trans b1 b2)).trans (K.below (Nat.le_trans hsz (Nat.le_trans hs1 b2.size)) fun i hi e => by omega)
  all_goals (try simp only [Exit.inBlock, Exit.then])
  all_goals refine bodyPost_ret (v := .agg #[.int .i64 hd.now, .slice a1 g.NN.length c1, .slice a2 g.PP.length c2, .int .i64 g.WW.length]) (by simp [results, Try.results25, go_sem, v2, v1]) rfl ?_
  all_goals exact ⟨a1, c1, a2, c2, rfl, g1, g2, fun b hb => Nat.le_trans hsz (f1 b hb), fun b hb => Nat.le_trans (Nat.le_trans hsz hs1) (f2 b hb), hB⟩

end Go.Proofs.Ytchddaafibjmgaa
