/-
  The program's New, walked.
-/
import Derived.Test.YtchddaafibjmgaaQA6b
import Derived.Conc.SmallLaws
namespace Go.Proofs.Ytchddaafibjmgaa
open Go.RowKit Go.Maps
attribute [local go_sem] Go.wp_at_zero Go.wp_at_succ

set_option maxRecDepth 100000 in
set_option maxHeartbeats 400000 in
theorem pnew_no (hold : Int) (rem whole : Bool) (w : World) (h : hold < 1 ∨ 1000 < hold) :
    Calls Try.prog 44 #[.agg #[.int .i64 hold, .bool rem, .bool whole]] w fun e w' => e = .returned (.tuple #[.pointer none, .int .i64 1]) ∧ Below w.heap.size w w' := by
  by_cases h1 : hold < 1
  · go_enter Try.func44, Try.ntmps44
    go_wp2
    go_ret2
    exact ⟨rfl, below_alloc _ _⟩
  · have h2 : 1000 < hold := by omega
    clear h
    go_enter Try.func44, Try.ntmps44
    go_wp2
    go_ret2
    exact ⟨rfl, below_alloc _ _⟩

set_option maxRecDepth 100000 in
set_option maxHeartbeats 400000 in
theorem newMemory_any (w : World) : Calls Try.prog 63 #[] w fun e w' => ∃ b, w.heap.size ≤ b ∧ b + 2 < w'.heap.size ∧ e = .returned (.agg #[.map (some b), .map (some (b + 1)), .map (some (b + 2))]) ∧ Below w.heap.size w w' ∧ w'.heap[b]? = some (.map #[] 0) ∧ w'.heap[b + 1]? = some (.map #[] 0) ∧ w'.heap[b + 2]? = some (.map #[] 0) := by
  have hmm := @run_makeMap Try.prog
  go_enter Try.func63, Try.ntmps63
  go_wp2
  refine bodyPost_ret (v := .agg #[.map (some (w.heap.size + 1)), .map (some (w.heap.size + 1 + 1)), .map (some (w.heap.size + 1 + 1 + 1))]) (by simp [results, Try.results63, go_sem]) rfl ?_
  refine ⟨w.heap.size + 1, by omega, by simp, rfl, below_trans (below_trans (below_trans (below_alloc _ _) (below_alloc _ _)) (below_alloc _ _)) (below_alloc _ _), ?_, ?_, ?_⟩
  · rw [Below.heap_alloc _ _ _ (by simp <;> omega), Below.heap_alloc _ _ _ (by simp)]
    simpa using block_alloc_new (w.alloc (.cells #[.map (some (w.heap.size + 1)), .map (some (w.heap.size + 1 + 1)), .map (some (w.heap.size + 1 + 1 + 1))] 110)) (.map #[] 0)
  · rw [Below.heap_alloc _ _ _ (by simp)]
    simpa using block_alloc_new ((w.alloc (.cells #[.map (some (w.heap.size + 1)), .map (some (w.heap.size + 1 + 1)), .map (some (w.heap.size + 1 + 1 + 1))] 110)).alloc (.map #[] 0)) (.map #[] 0)
  · simpa using block_alloc_new (((w.alloc (.cells #[.map (some (w.heap.size + 1)), .map (some (w.heap.size + 1 + 1)), .map (some (w.heap.size + 1 + 1 + 1))] 110)).alloc (.map #[] 0)).alloc (.map #[] 0)) (.map #[] 0)

theorem infoPodA : (Try.prog.info? 33).map (fun i => (i.zero, i.size, i.bytes)) = some (some (.agg #[.string ⟨#[]⟩, .int .i64 0, .int .i64 0, .int .i64 0, .int .i64 0, .slice none 0 0, .slice none 0 0, .slice none 0 0, .slice none 0 0, .slice none 0 0]), 10, 168) := by kernel_rfl

theorem mkChan (w : World) : (Instr.makeChan 111 (.int .i64 128)).run Try.prog w = .ok (.chan (some w.heap.size)) (w.alloc (.chan 128 #[] false 0 0 false)) := by
  obtain ⟨i0, hi, hz0, hz1, hz2⟩ := info_parts infoPodA
  simpa using Go.Conc.run_makeChan (P := Try.prog) (w := w) Try.underlying111 hi .i64 128 (by omega) (by rw [hz2]; omega)

theorem mapAt_empty {P : Program} {w : World} {k : TypeId} {b : Nat} (h : w.heap[b]? = some (.map #[] 0)) : MapAt P w k b [] := ⟨#[], 0, h, ⟨by simp, MapKept.stamped_empty 0, by simp⟩, Nat.le_refl _, rfl⟩

def Gh.empty (bn bp bf bv ba bc : Nat) : Gh := ⟨bn, bp, bf, bv, ba, [], [], [], [], [], bc, []⟩

theorem BMem.init {w w' : World} {Y bn bp bf bv ba bc : Nat} {hd : Head} (hbox : w'.heap[Y]? = some (.cells (boxCells hd (Gh.empty bn bp bf bv ba bc)) 113 (0, 0))) (hn : w'.heap[bn]? = some (.map #[] 0)) (hp : w'.heap[bp]? = some (.map #[] 0)) (hf : w'.heap[bf]? = some (.map #[] 0))
    (hv : w'.heap[bv]? = some (.map #[] 0)) (ha : w'.heap[ba]? = some (.map #[] 0)) (hc : w'.heap[bc]? = some (.chan 128 #[] false 0 0 false)) (hdis : [bn, bp, bf, bv, ba].Nodup) (hge : ∀ b ∈ [Y, bc, bn, bp, bf, bv, ba], w.heap.size ≤ b) : BMem (grow (fun _ => False) w w') w' Y hd (Gh.empty bn bp bf bv ba bc) := by
  have hin : ∀ b ∈ [Y, bc, bn, bp, bf, bv, ba], grow (fun _ => False) w w' b := fun b hb => .inr ⟨hge b hb, by
    simp only [List.mem_cons, List.not_mem_nil, or_false] at hb
    rcases hb with rfl | rfl | rfl | rfl | rfl | rfl | rfl
    · exact lt_of_block hbox
    · exact lt_of_block hc
    · exact lt_of_block hn
    · exact lt_of_block hp
    · exact lt_of_block hf
    · exact lt_of_block hv
    · exact lt_of_block ha⟩
  refine ⟨fun b h => h.elim (fun h => h.elim) (fun h => h.2), hin _ (by simp), fun b hb => hin b ?_, hbox, mapAt_empty hn, mapAt_empty hp, mapAt_empty hf, mapAt_empty hv, mapAt_empty ha, fun p hp => ?_, fun p hp => ?_, fun p hp => ?_, fun p hp => ?_, ?_, ?_, ⟨hin _ (by simp [Gh.empty]), ⟨0, 0, hc⟩, by simp [Gh.empty], fun p hp => ?_⟩⟩
  · simp only [Gh.maps, Gh.empty, List.map_nil, List.append_nil] at hb
    exact List.mem_cons_of_mem _ (List.mem_cons_of_mem _ hb)
  · simp [Gh.empty] at hp
  · simp [Gh.empty] at hp
  · simp [Gh.empty] at hp
  · simp [Gh.empty] at hp
  · simpa [Gh.maps, Gh.empty] using hdis
  · simp [Gh.empty]
  · simp [Gh.empty] at hp

set_option maxRecDepth 100000 in
set_option maxHeartbeats 20000000 in
theorem pnew_yes (hold : Int) (rem whole : Bool) (w : World) (h1 : 1 ≤ hold) (h2 : hold ≤ 1000) :
    Calls Try.prog 44 #[.agg #[.int .i64 hold, .bool rem, .bool whole]] w fun e w' => ∃ Y g, e = .returned (.tuple #[.pointer (some ⟨Y, 0, none⟩), .int .i64 0]) ∧ w.heap.size ≤ Y ∧ BMem (grow (fun _ => False) w w') w' Y ⟨hold, rem, whole, 0⟩ g ∧ (g.NN = [] ∧ g.PP = [] ∧ g.FF = [] ∧ g.VV = [] ∧ g.AA = [] ∧ g.WW = []) ∧ Below w.heap.size w w' := by
  have hmm := @run_makeMap Try.prog
  have hmc := mkChan
  have c1 := fun W => newMemory_any W
  go_enter Try.func44, Try.ntmps44
  go_wp2
  go_region_held3 (fun w' => w'.cell? ⟨w.heap.size, 0, none⟩ = some (.int .i64 hold) ∧ w'.cell? ⟨w.heap.size, 1, none⟩ = some (.bool rem) ∧ w'.cell? ⟨w.heap.size, 2, none⟩ = some (.bool whole)) (go_keep)
    (first
      | (go_at_call 63; refine (c1 _).mono ?_; rintro e w1 ⟨b, hb, hb2, rfl, hbl, m0, m1, m2⟩; have f0 : w1.cell? ⟨w.heap.size, 0, none⟩ = some (.int .i64 hold) := (hbl.cell (p := ⟨w.heap.size, 0, none⟩) (by simp <;> omega)).trans (by go_simp); have f1 : w1.cell? ⟨w.heap.size, 1, none⟩ = some (.bool rem) := (hbl.cell (p := ⟨w.heap.size, 1, none⟩) (by simp <;> omega)).trans (by go_simp); have f2 : w1.cell? ⟨w.heap.size, 2, none⟩ = some (.bool whole) := (hbl.cell (p := ⟨w.heap.size, 2, none⟩) (by simp <;> omega)).trans (by go_simp)))
  all_goals go_wp2
  all_goals go_ret2
  all_goals have hz := hbl.size
  all_goals simp at hz hb
  all_goals refine ⟨_, Gh.empty _ _ _ _ _ _, rfl, ?_, BMem.init (w := w) (at_new (by simp)) ?_ ?_ ?_ ?_ ?_ ?_ ?_ ?_, ⟨rfl, rfl, rfl, rfl, rfl, rfl⟩, ?_⟩
  all_goals first
    | (show Below _ _ _; repeat' (first | exact below_alloc _ _ | (refine Below.drew ?_) | (refine below_trans ?_ (below_alloc _ _)) | (refine below_trans ?_ hbl)))
    | (show _ = some (Obj.map #[] 0); repeat' (first | exact m0 | exact m1 | exact m2 | (apply at_new; simp <;> omega) | apply at_old | apply at_call hbl))
    | (show _ = some (Obj.chan 128 #[] false 0 0 false); repeat' (first | (apply at_new; simp <;> omega) | apply at_old | apply at_call hbl))
    | omega
    | (simp <;> omega)
    | (intro b hb'; simp at hb'; rcases hb' with rfl | rfl | rfl | rfl | rfl | rfl | rfl <;> simp <;> omega)

end Go.Proofs.Ytchddaafibjmgaa
