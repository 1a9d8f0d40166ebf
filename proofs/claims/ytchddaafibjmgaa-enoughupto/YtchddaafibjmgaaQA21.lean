/-
  happens, walked: Schedule.
  happens, walked: Bind.
  happens, whole.
-/
import Derived.Test.YtchddaafibjmgaaQA20
namespace Go.Proofs.Ytchddaafibjmgaa
open Go.RowKit Go.Maps

set_option maxRecDepth 100000 in
set_option maxHeartbeats 4000000 in
theorem happens_sched {F : Nat → Prop} {w : World} {Y : Nat} {a : Abs} (B : BSt F w Y a) (r : RawD) (hr : r.ok) (hk : pickI r.kind 9 < 3) :
    Calls Try.prog 23 #[.pointer (some ⟨Y, 0, none⟩), .agg r.cells] w fun e w' => ∃ F' oo oc, e = .returned (repV (r.happen a).1 oo oc) ∧ Left F w Y (r.happen a).2 F' w' ∧ RepAt F' w w' (r.happen a).1 oo oc := by
  obtain ⟨wL, hwL⟩ : ∃ W, W = (w.alloc (.cells r.cells 62)).alloc (.cells repZero 59) := ⟨_, rfl⟩
  have hbL : Below w.heap.size w wL := by rw [hwL]; exact below_trans (below_alloc _ _) (below_alloc _ _)
  have zL : wL.heap.size = w.heap.size + 2 := by rw [hwL]; simp
  have resL : wL.heap[w.heap.size + 1]? = some (.cells repZero 59 (0, 0)) := by
    have := block_alloc_new (w.alloc (.cells r.cells 62)) (.cells repZero 59)
    rw [hwL]
    simpa using this
  have HB : Hid (BSt F wL Y a) := B.below hbL
  have hlt := B.lt
  have nF : ¬ F (w.heap.size + 1) := fun h => by have := hlt _ h; omega
  have c1 := fun W => pick_any r.kind 9 W (by omega) (by omega) hr.kind.1 hr.kind.2
  have hk0 := pickI_bound r.kind (n := 9) (by omega)
  have HA : Hid (r.happen a = a.sched r.podName r.podV) := by
    show _ = _
    unfold RawD.happen RawD.kindI
    rw [if_neg (by omega)]
    rw [if_neg (by omega)]
    rw [if_neg (by omega)]
    rw [if_neg (by omega)]
    rw [if_neg (by omega)]
    rw [if_neg (by omega)]
  clear B
  obtain ⟨rp, ra, hra⟩ : ∃ rp ra, a.sched r.podName r.podV = (rp, ra) := ⟨_, _, rfl⟩
  have HRA : Hid (a.sched r.podName r.podV = (rp, ra)) := hra
  clear hra
  have cP := fun W => kpod_val r hr W
  generalize pickI r.kind 9 = kk at *
  have e3 : (kk == 3) = false := by simp; omega
  have e4 : (kk == 4) = false := by simp; omega
  have e5 : (kk == 5) = false := by simp; omega
  have e6 : (kk == 6) = false := by simp; omega
  have e7 : (kk == 7) = false := by simp; omega
  have e8 : (kk == 8) = false := by simp; omega
  unfold RawD.cells at cP hwL ⊢
  unfold repZero at hwL
  go_enter Try.func23, Try.ntmps23
  go_wp2_with (first
    | (go_at_call_of 28 (Value.int .i64 9); refine (c1 _).mono ?_; rintro e w1 ⟨rfl, rfl⟩)
    | (go_at_call 29; refine (cP _).mono ?_; rintro e w2 ⟨p, rfl, okp, hpn, hpv, hb2⟩; rw [← hwL] at hb2; have cS := spec_sched (HB.out.below hb2) p okp; rw [hpn, hpv, HRA.out] at cS; unfold repV at cS)
    | (go_at_call 33; refine cS.mono ?_; rintro e w3 ⟨F', oo, oc, rfl, L3, R3⟩; have res3 := (L3.kept.block _ (by have := hb2.size; omega) nF).trans ((hb2.block _ (by omega)).trans resL); have f3 := fun o => frozen_of_block (i := o) res3; have q0 : w3.cell? ⟨w.heap.size + 1, 0, none⟩ = some (.int .i64 0) := (by rw [cell_of_block res3]; rfl); have q1 : w3.cell? ⟨w.heap.size + 1, 1, none⟩ = some (.string ⟨#[]⟩) := (by rw [cell_of_block res3]; rfl); have q2 : w3.cell? ⟨w.heap.size + 1, 2, none⟩ = some (.int .i64 0) := (by rw [cell_of_block res3]; rfl); have q3 : w3.cell? ⟨w.heap.size + 1, 3, none⟩ = some (.slice none 0 0) := (by rw [cell_of_block res3]; rfl); have q4 : w3.cell? ⟨w.heap.size + 1, 4, none⟩ = some (.int .i64 0) := (by rw [cell_of_block res3]; rfl)))
  have hblk := five_cells res3 (.int .i64 rp.err) (.string (bs rp.node)) (.int .i64 rp.score) (.slice oo rp.reasons.length oc) (.int .i64 rp.fresh)
  refine bodyPost_ret (v := .agg #[.int .i64 rp.err, .string (bs rp.node), .int .i64 rp.score, .slice oo rp.reasons.length oc, .int .i64 rp.fresh]) (results_cell rfl rfl (run_loadVar_row _ _ _ _ _ _ _ hblk Try.underlying59 rfl sizeRT)) rfl ?_
  have K := ((((((Kept.refl (fun b => b = w.heap.size + 1) w3).setCell (p := ⟨w.heap.size + 1, 0, none⟩) (fun _ => rfl) (.int .i64 rp.err)).setCell (p := ⟨w.heap.size + 1, 1, none⟩) (fun _ => rfl) (.string (bs rp.node))).setCell (p := ⟨w.heap.size + 1, 2, none⟩) (fun _ => rfl) (.int .i64 rp.score)).setCell (p := ⟨w.heap.size + 1, 3, none⟩) (fun _ => rfl) (.slice oo rp.reasons.length oc)).setCell (p := ⟨w.heap.size + 1, 4, none⟩) (fun _ => rfl) (.int .i64 rp.fresh))
  rw [HA.out, HRA.out]
  exact ⟨F', oo, oc, rfl, Left.told hlt (below_trans hbL hb2) L3 (by have := hb2.size; omega) K, R3.told (by have := hb2.size; omega) K⟩

end Go.Proofs.Ytchddaafibjmgaa

namespace Go.Proofs.Ytchddaafibjmgaa
open Go.RowKit Go.Maps

set_option maxRecDepth 100000 in
set_option maxHeartbeats 4000000 in
theorem happens_bind {F : Nat → Prop} {w : World} {Y : Nat} {a : Abs} (B : BSt F w Y a) (r : RawD) (hr : r.ok) (hk : pickI r.kind 9 = 3) :
    Calls Try.prog 23 #[.pointer (some ⟨Y, 0, none⟩), .agg r.cells] w fun e w' => ∃ F' oo oc, e = .returned (repV (r.happen a).1 oo oc) ∧ Left F w Y (r.happen a).2 F' w' ∧ RepAt F' w w' (r.happen a).1 oo oc := by
  obtain ⟨wL, hwL⟩ : ∃ W, W = (w.alloc (.cells r.cells 62)).alloc (.cells repZero 59) := ⟨_, rfl⟩
  have hbL : Below w.heap.size w wL := by rw [hwL]; exact below_trans (below_alloc _ _) (below_alloc _ _)
  have zL : wL.heap.size = w.heap.size + 2 := by rw [hwL]; simp
  have resL : wL.heap[w.heap.size + 1]? = some (.cells repZero 59 (0, 0)) := by
    have := block_alloc_new (w.alloc (.cells r.cells 62)) (.cells repZero 59)
    rw [hwL]
    simpa using this
  have HB : Hid (BSt F wL Y a) := B.below hbL
  have hlt := B.lt
  have nF : ¬ F (w.heap.size + 1) := fun h => by have := hlt _ h; omega
  have c1 := fun W => pick_any r.kind 9 W (by omega) (by omega) hr.kind.1 hr.kind.2
  have hk0 := pickI_bound r.kind (n := 9) (by omega)
  have HA : Hid (r.happen a = (repE (a.bindErr r.podName r.podV (ky r.nodeName)), a.bind r.podName r.podV (ky r.nodeName))) := by
    show _ = _
    unfold RawD.happen RawD.kindI
    rw [if_pos hk]
  clear B
  rw [hk] at c1
  have cP := fun W => kpod_val r hr W
  have c2 := fun W => pick_any r.node 6 W (by omega) (by omega) hr.node.1 hr.node.2
  have hb6 := pickI_bound r.node (n := 6) (by omega)
  have c3 := fun W => kname_any ⟨#[110]⟩ (pickI r.node 6) W hb6.1 (by decide)
  have HNm : Hid (nameS ⟨#[110]⟩ (pickI r.node 6) = r.nodeName) := rfl
  rw [HNm.out] at c3
  have rawL : wL.heap[w.heap.size]? = some (.cells r.cells 62 (0, 0)) := by
    rw [hwL, Below.heap_alloc _ _ _ (by simp)]
    exact block_alloc_new _ _
  unfold RawD.cells at cP hwL ⊢
  unfold repZero at hwL
  go_enter Try.func23, Try.ntmps23
  go_wp2_with (first
    | (go_at_call_of 28 (Value.int .i64 9); refine (c1 _).mono ?_; rintro e w1 ⟨rfl, rfl⟩))
  go_region_with (first
    | (go_at_call 29; refine (cP _).mono ?_; rintro e w1 ⟨p, rfl, okp, hpn, hpv, hb1⟩; rw [← hwL] at hb1; have rc1 : w1.cell? ⟨w.heap.size, 2, none⟩ = some (.int .i64 r.node) := (by rw [hb1.cell (p := ⟨w.heap.size, 2, none⟩) (show w.heap.size < wL.heap.size by omega)]; show wL.cell? _ = _; rw [cell_of_block rawL]; rfl))
    | (go_at_call_of 28 (Value.int .i64 6); refine (c2 _).mono ?_; rintro e w1 ⟨rfl, rfl⟩)
    | (go_at_call 46; refine (c3 _).mono ?_; rintro e w2 ⟨rfl, hb2'⟩; have hb2 : Below wL.heap.size wL w2 := below_trans (below_trans (Below.refl wL.heap.size wL).drew hb1) hb2'; have cB := spec_bind (HB.out.below hb2) p r.nodeName (okp.below hb2') (by rw [nodeName_size]; decide); rw [hpn, hpv] at cB; unfold PodD.cells Lst.val at cB)
    | (go_at_call 45; refine cB.mono ?_; rintro e w3 ⟨F', rfl, L3⟩; have res3 := (L3.kept.block _ (by have := hb2.size; omega) nF).trans ((hb2.block _ (by omega)).trans resL); have f3 := fun o => frozen_of_block (i := o) res3; have q0 : w3.cell? ⟨w.heap.size + 1, 0, none⟩ = some (.int .i64 0) := (by rw [cell_of_block res3]; rfl); have q1 : w3.cell? ⟨w.heap.size + 1, 1, none⟩ = some (.string ⟨#[]⟩) := (by rw [cell_of_block res3]; rfl); have q2 : w3.cell? ⟨w.heap.size + 1, 2, none⟩ = some (.int .i64 0) := (by rw [cell_of_block res3]; rfl); have q3 : w3.cell? ⟨w.heap.size + 1, 3, none⟩ = some (.slice none 0 0) := (by rw [cell_of_block res3]; rfl); have q4 : w3.cell? ⟨w.heap.size + 1, 4, none⟩ = some (.int .i64 0) := (by rw [cell_of_block res3]; rfl)))
  all_goals go_wp2
  all_goals have hblk := five_cells res3 (.int .i64 (a.bindErr r.podName r.podV (ky r.nodeName))) (.string ⟨#[]⟩) (.int .i64 0) (.slice none 0 0) (.int .i64 0)
  all_goals refine bodyPost_ret (v := .agg #[.int .i64 (a.bindErr r.podName r.podV (ky r.nodeName)), .string ⟨#[]⟩, .int .i64 0, .slice none 0 0, .int .i64 0]) (results_cell rfl rfl (run_loadVar_row _ _ _ _ _ _ _ hblk Try.underlying59 rfl sizeRT)) rfl ?_
  all_goals have K := ((((((Kept.refl (fun b => b = w.heap.size + 1) w3).setCell (p := ⟨w.heap.size + 1, 0, none⟩) (fun _ => rfl) (.int .i64 (a.bindErr r.podName r.podV (ky r.nodeName)))).setCell (p := ⟨w.heap.size + 1, 1, none⟩) (fun _ => rfl) (.string ⟨#[]⟩)).setCell (p := ⟨w.heap.size + 1, 2, none⟩) (fun _ => rfl) (.int .i64 0)).setCell (p := ⟨w.heap.size + 1, 3, none⟩) (fun _ => rfl) (.slice none 0 0)).setCell (p := ⟨w.heap.size + 1, 4, none⟩) (fun _ => rfl) (.int .i64 0))
  all_goals rw [HA.out]
  all_goals exact ⟨F', none, 0, rfl, Left.told hlt (below_trans hbL hb2) L3 (by have := hb2.size; omega) K, RepAt.none _ _ _ _⟩

end Go.Proofs.Ytchddaafibjmgaa

namespace Go.Proofs.Ytchddaafibjmgaa
open Go.RowKit Go.Maps

theorem happens_any {F : Nat → Prop} {w : World} {Y : Nat} {a : Abs} (B : BSt F w Y a) (r : RawD) (hr : r.ok) :
    Calls Try.prog 23 #[.pointer (some ⟨Y, 0, none⟩), .agg r.cells] w fun e w' => ∃ F' oo oc, e = .returned (repV (r.happen a).1 oo oc) ∧ Left F w Y (r.happen a).2 F' w' ∧ RepAt F' w w' (r.happen a).1 oo oc := by
  have hb := pickI_bound r.kind (n := 9) (by omega)
  by_cases h : pickI r.kind 9 < 3
  · exact happens_sched B r hr h
  · by_cases h3 : pickI r.kind 9 = 3
    · exact happens_bind B r hr h3
    by_cases h4 : pickI r.kind 9 = 4
    · exact happens_put B r hr h4
    by_cases h5 : pickI r.kind 9 = 5
    · exact happens_dropN B r hr h5
    by_cases h6 : pickI r.kind 9 = 6
    · exact happens_drop B r hr h6
    by_cases h7 : pickI r.kind 9 = 7
    · exact happens_confirm B r hr h7
    · exact happens_tick B r hr (by omega)

end Go.Proofs.Ytchddaafibjmgaa
