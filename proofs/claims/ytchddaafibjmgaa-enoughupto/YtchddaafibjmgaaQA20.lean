/-
  What happens in the statements, by raw numbers: what it makes of a Berth.
  happens, walked: nodes that come and go.
  happens, walked: pods that go, are confirmed, time.
-/
import Derived.Test.YtchddaafibjmgaaQPCalls
import Derived.Test.YtchddaafibjmgaaQA19
import Derived.Test.YtchddaafibjmgaaQK3
namespace Go.Proofs.Ytchddaafibjmgaa
open Go.RowKit Go.Maps

def RawD.podV (r : RawD) : PodV := ⟨r.N % 9, r.N / 9 % 9, r.N / 81 % 9 / 7, r.podPort, labsI (r.K % 16), r.podSelect, r.podBears, r.podNear, r.podApart⟩
def RawD.nodeV (r : RawD) : NodeV := ⟨r.N % 20, r.N / 20 % 30, r.N / 600 % 3, r.nodeLabels, r.nodeTaints⟩
def RawD.kindI (r : RawD) : Int := pickI r.kind 9

/-- What happens, and what is answered. -/
def RawD.happen (r : RawD) (a : Abs) : Rep × Abs :=
  if r.kindI = 3 then (repE (a.bindErr r.podName r.podV (ky r.nodeName)), a.bind r.podName r.podV (ky r.nodeName))
  else if r.kindI = 4 then (repE (a.putErr r.nodeName r.nodeV), a.put r.nodeName r.nodeV)
  else if r.kindI = 5 then (repE (a.dropNErr (ky r.nodeName)), a.dropN (ky r.nodeName))
  else if r.kindI = 6 then (repE (a.dropErr (ky r.podName)), a.drop (ky r.podName))
  else if r.kindI = 7 then (repE (a.confirmErr (ky r.podName)), if a.confirmErr (ky r.podName) = 0 then a.confirm (ky r.podName) else a)
  else if r.kindI = 8 then (repE (a.tickErr (pickI r.needs 6)), a.tick (pickI r.needs 6))
  else a.sched r.podName r.podV

theorem kpod_val (r : RawD) (hr : r.ok) (w : World) : Calls Try.prog 29 #[.agg r.cells] w fun e w' => ∃ p : PodD, e = .returned (.agg p.cells) ∧ p.ok w' ∧ p.name = r.podName ∧ p.val = r.podV ∧ Below w.heap.size w w' := by
  refine (kpod_any r hr w).mono ?_
  rintro e w' ⟨p, he, ok, h1, h2, h3, h4, h5, h6, h7, h8, h9, h10, hb⟩
  refine ⟨p, he, ok, h1, ?_, hb⟩
  unfold PodD.val RawD.podV
  rw [h2, h3, h4, h5, h6, h7, h8, h9, h10]

theorem knode_val (r : RawD) (hr : r.ok) (w : World) : Calls Try.prog 27 #[.agg r.cells] w fun e w' => ∃ n : NodeD, e = .returned (.agg n.cells) ∧ n.ok w' ∧ n.name = r.nodeName ∧ n.val = r.nodeV ∧ Below w.heap.size w w' := by
  refine (knode_any r hr w).mono ?_
  rintro e w' ⟨n, he, ok, h1, h2, h3, h4, h5, h6, hb⟩
  refine ⟨n, he, ok, h1, ?_, hb⟩
  unfold NodeD.val RawD.nodeV
  rw [h2, h3, h4, h5, h6]

theorem nodeName_size (r : RawD) : r.nodeName.size = 2 := nameS_size _ _
theorem podName_size (r : RawD) : r.podName.size = 2 := nameS_size _ _

/-- A call's answer is laid into the reply's box. -/
theorem Left.told {F F' : Nat → Prop} {w w2 w3 w' : World} {Y : Nat} {a : Abs} (hlt : ∀ b, F b → b < w.heap.size) (hb2 : Below w.heap.size w w2) (L : Left F w2 Y a F' w3) (hz : w.heap.size + 2 ≤ w2.heap.size) (hk : Kept (fun b => b = w.heap.size + 1) w3 w') : Left F w Y a F' w' := by
  have z3 := L.kept.size
  have z' := hk.size
  refine ⟨L.st.kept hk fun b hb e => ?_, fun b hb => ?_, ((Kept.of_below hb2).trans L.kept fun _ _ h => h).trans hk fun i hi e => by omega⟩
  · rcases L.less b hb with h | h
    · have := hlt b h; omega
    · omega
  · rcases L.less b hb with h | h
    · exact .inl h
    · exact .inr ⟨by omega, by omega⟩

theorem RepAt.told {F' : Nat → Prop} {w w2 w3 w' : World} {r : Rep} {oo : Option Addr} {oc : Nat} (R : RepAt F' w2 w3 r oo oc) (hz : w.heap.size + 2 ≤ w2.heap.size) (hk : Kept (fun b => b = w.heap.size + 1) w3 w') : RepAt F' w w' r oo oc := by
  refine ⟨hk.ownsRow R.rsn fun b hb e => ?_, fun b hb => ?_⟩
  · have := (R.rnew b hb).1; omega
  · have := R.rnew b hb; exact ⟨by omega, this.2⟩

end Go.Proofs.Ytchddaafibjmgaa

namespace Go.Proofs.Ytchddaafibjmgaa
open Go.RowKit Go.Maps

set_option maxRecDepth 100000 in
set_option maxHeartbeats 4000000 in
theorem happens_put {F : Nat → Prop} {w : World} {Y : Nat} {a : Abs} (B : BSt F w Y a) (r : RawD) (hr : r.ok) (hk : pickI r.kind 9 = 4) :
    Calls Try.prog 23 #[.pointer (some ⟨Y, 0, none⟩), .agg r.cells] w fun e w' => ∃ F' oo oc, e = .returned (repV (r.happen a).1 oo oc) ∧ Left F w Y (r.happen a).2 F' w' ∧ RepAt F' w w' (r.happen a).1 oo oc := by
  obtain ⟨wL, hwL⟩ : ∃ W, W = (w.alloc (.cells r.cells 62)).alloc (.cells repZero 59) := ⟨_, rfl⟩
  have hbL : Below w.heap.size w wL := by rw [hwL]; exact below_trans (below_alloc _ _) (below_alloc _ _)
  have zL : wL.heap.size = w.heap.size + 2 := by rw [hwL]; simp
  have resL : wL.heap[w.heap.size + 1]? = some (.cells repZero 59 (0, 0)) := by
    have := block_alloc_new (w.alloc (.cells r.cells 62)) (.cells repZero 59)
    rw [hwL]
    simpa using this
  have HB : Hid (BSt F wL Y a) := B.below hbL
  have hlt := B.lt
  have nF : ¬ F (w.heap.size + 1) := fun h => by have := hlt _ h; omega
  have c1 := fun W => pick_any r.kind 9 W (by omega) (by omega) hr.kind.1 hr.kind.2
  have hk0 := pickI_bound r.kind (n := 9) (by omega)
  have HA : Hid (r.happen a = (repE (a.putErr r.nodeName r.nodeV), a.put r.nodeName r.nodeV)) := by
    show _ = _
    unfold RawD.happen RawD.kindI
    rw [if_neg (by rw [hk]; decide)]
    rw [if_pos hk]
  clear B
  rw [hk] at c1
  have cN := fun W => knode_val r hr W
  unfold RawD.cells at cN hwL ⊢
  unfold repZero at hwL
  go_enter Try.func23, Try.ntmps23
  go_wp2_with (first
    | (go_at_call_of 28 (Value.int .i64 9); refine (c1 _).mono ?_; rintro e w1 ⟨rfl, rfl⟩)
    | (go_at_call 27; refine (cN _).mono ?_; rintro e w2 ⟨n, rfl, okn, hnn, hnv, hb2⟩; rw [← hwL] at hb2; have cP := spec_put (HB.out.below hb2) n okn; rw [hnn, hnv] at cP)
    | (go_at_call 43; refine cP.mono ?_; rintro e w3 ⟨F', rfl, L3⟩; have res3 := (L3.kept.block _ (by have := hb2.size; omega) nF).trans ((hb2.block _ (by omega)).trans resL); have f3 := fun o => frozen_of_block (i := o) res3; have q0 : w3.cell? ⟨w.heap.size + 1, 0, none⟩ = some (.int .i64 0) := (by rw [cell_of_block res3]; rfl); have q1 : w3.cell? ⟨w.heap.size + 1, 1, none⟩ = some (.string ⟨#[]⟩) := (by rw [cell_of_block res3]; rfl); have q2 : w3.cell? ⟨w.heap.size + 1, 2, none⟩ = some (.int .i64 0) := (by rw [cell_of_block res3]; rfl); have q3 : w3.cell? ⟨w.heap.size + 1, 3, none⟩ = some (.slice none 0 0) := (by rw [cell_of_block res3]; rfl); have q4 : w3.cell? ⟨w.heap.size + 1, 4, none⟩ = some (.int .i64 0) := (by rw [cell_of_block res3]; rfl)))
  have hblk := five_cells res3 (.int .i64 (a.putErr r.nodeName r.nodeV)) (.string ⟨#[]⟩) (.int .i64 0) (.slice none 0 0) (.int .i64 0)
  refine bodyPost_ret (v := .agg #[.int .i64 (a.putErr r.nodeName r.nodeV), .string ⟨#[]⟩, .int .i64 0, .slice none 0 0, .int .i64 0]) (results_cell rfl rfl (run_loadVar_row _ _ _ _ _ _ _ hblk Try.underlying59 rfl sizeRT)) rfl ?_
  have K := ((((((Kept.refl (fun b => b = w.heap.size + 1) w3).setCell (p := ⟨w.heap.size + 1, 0, none⟩) (fun _ => rfl) (.int .i64 (a.putErr r.nodeName r.nodeV))).setCell (p := ⟨w.heap.size + 1, 1, none⟩) (fun _ => rfl) (.string ⟨#[]⟩)).setCell (p := ⟨w.heap.size + 1, 2, none⟩) (fun _ => rfl) (.int .i64 0)).setCell (p := ⟨w.heap.size + 1, 3, none⟩) (fun _ => rfl) (.slice none 0 0)).setCell (p := ⟨w.heap.size + 1, 4, none⟩) (fun _ => rfl) (.int .i64 0))
  rw [HA.out]
  exact ⟨F', none, 0, rfl, Left.told hlt (below_trans hbL hb2) L3 (by have := hb2.size; omega) K, RepAt.none _ _ _ _⟩

set_option maxRecDepth 100000 in
set_option maxHeartbeats 4000000 in
theorem happens_dropN {F : Nat → Prop} {w : World} {Y : Nat} {a : Abs} (B : BSt F w Y a) (r : RawD) (hr : r.ok) (hk : pickI r.kind 9 = 5) :
    Calls Try.prog 23 #[.pointer (some ⟨Y, 0, none⟩), .agg r.cells] w fun e w' => ∃ F' oo oc, e = .returned (repV (r.happen a).1 oo oc) ∧ Left F w Y (r.happen a).2 F' w' ∧ RepAt F' w w' (r.happen a).1 oo oc := by
  obtain ⟨wL, hwL⟩ : ∃ W, W = (w.alloc (.cells r.cells 62)).alloc (.cells repZero 59) := ⟨_, rfl⟩
  have hbL : Below w.heap.size w wL := by rw [hwL]; exact below_trans (below_alloc _ _) (below_alloc _ _)
  have zL : wL.heap.size = w.heap.size + 2 := by rw [hwL]; simp
  have resL : wL.heap[w.heap.size + 1]? = some (.cells repZero 59 (0, 0)) := by
    have := block_alloc_new (w.alloc (.cells r.cells 62)) (.cells repZero 59)
    rw [hwL]
    simpa using this
  have HB : Hid (BSt F wL Y a) := B.below hbL
  have hlt := B.lt
  have nF : ¬ F (w.heap.size + 1) := fun h => by have := hlt _ h; omega
  have c1 := fun W => pick_any r.kind 9 W (by omega) (by omega) hr.kind.1 hr.kind.2
  have hk0 := pickI_bound r.kind (n := 9) (by omega)
  have HA : Hid (r.happen a = (repE (a.dropNErr (ky r.nodeName)), a.dropN (ky r.nodeName))) := by
    show _ = _
    unfold RawD.happen RawD.kindI
    rw [if_neg (by rw [hk]; decide)]
    rw [if_neg (by rw [hk]; decide)]
    rw [if_pos hk]
  clear B
  rw [hk] at c1
  have c2 := fun W => pick_any r.node 6 W (by omega) (by omega) hr.node.1 hr.node.2
  have hb6 := pickI_bound r.node (n := 6) (by omega)
  have c3 := fun W => kname_any ⟨#[110]⟩ (pickI r.node 6) W hb6.1 (by decide)
  have HNm : Hid (nameS ⟨#[110]⟩ (pickI r.node 6) = r.nodeName) := rfl
  rw [HNm.out] at c3
  unfold RawD.cells at hwL ⊢
  unfold repZero at hwL
  go_enter Try.func23, Try.ntmps23
  go_wp2_with (first
    | (go_at_call_of 28 (Value.int .i64 9); refine (c1 _).mono ?_; rintro e w1 ⟨rfl, rfl⟩)
    | (go_at_call_of 28 (Value.int .i64 6); refine (c2 _).mono ?_; rintro e w1 ⟨rfl, rfl⟩)
    | (go_at_call 46; refine (c3 _).mono ?_; rintro e w2 ⟨rfl, hb2⟩; rw [← hwL] at hb2; have cP := spec_dropN (HB.out.below hb2) r.nodeName (by rw [nodeName_size]; decide))
    | (go_at_call 47; refine cP.mono ?_; rintro e w3 ⟨F', rfl, L3⟩; have res3 := (L3.kept.block _ (by have := hb2.size; omega) nF).trans ((hb2.block _ (by omega)).trans resL); have f3 := fun o => frozen_of_block (i := o) res3; have q0 : w3.cell? ⟨w.heap.size + 1, 0, none⟩ = some (.int .i64 0) := (by rw [cell_of_block res3]; rfl); have q1 : w3.cell? ⟨w.heap.size + 1, 1, none⟩ = some (.string ⟨#[]⟩) := (by rw [cell_of_block res3]; rfl); have q2 : w3.cell? ⟨w.heap.size + 1, 2, none⟩ = some (.int .i64 0) := (by rw [cell_of_block res3]; rfl); have q3 : w3.cell? ⟨w.heap.size + 1, 3, none⟩ = some (.slice none 0 0) := (by rw [cell_of_block res3]; rfl); have q4 : w3.cell? ⟨w.heap.size + 1, 4, none⟩ = some (.int .i64 0) := (by rw [cell_of_block res3]; rfl)))
  have hblk := five_cells res3 (.int .i64 (a.dropNErr (ky r.nodeName))) (.string ⟨#[]⟩) (.int .i64 0) (.slice none 0 0) (.int .i64 0)
  refine bodyPost_ret (v := .agg #[.int .i64 (a.dropNErr (ky r.nodeName)), .string ⟨#[]⟩, .int .i64 0, .slice none 0 0, .int .i64 0]) (results_cell rfl rfl (run_loadVar_row _ _ _ _ _ _ _ hblk Try.underlying59 rfl sizeRT)) rfl ?_
  have K := ((((((Kept.refl (fun b => b = w.heap.size + 1) w3).setCell (p := ⟨w.heap.size + 1, 0, none⟩) (fun _ => rfl) (.int .i64 (a.dropNErr (ky r.nodeName)))).setCell (p := ⟨w.heap.size + 1, 1, none⟩) (fun _ => rfl) (.string ⟨#[]⟩)).setCell (p := ⟨w.heap.size + 1, 2, none⟩) (fun _ => rfl) (.int .i64 0)).setCell (p := ⟨w.heap.size + 1, 3, none⟩) (fun _ => rfl) (.slice none 0 0)).setCell (p := ⟨w.heap.size + 1, 4, none⟩) (fun _ => rfl) (.int .i64 0))
  rw [HA.out]
  exact ⟨F', none, 0, rfl, Left.told hlt (below_trans hbL hb2) L3 (by have := hb2.size; omega) K, RepAt.none _ _ _ _⟩

end Go.Proofs.Ytchddaafibjmgaa

namespace Go.Proofs.Ytchddaafibjmgaa
open Go.RowKit Go.Maps

theorem spec_confirm' {F : Nat → Prop} {w : World} {Y : Nat} {a : Abs} (B : BSt F w Y a) (s : ByteArray) (hs : s.size ≤ maxLen) :
    Calls Try.prog 31 #[.pointer (some ⟨Y, 0, none⟩), .string s] w fun e w' => ∃ F', e = .returned (.int .i64 (a.confirmErr (ky s))) ∧ Left F w Y (if a.confirmErr (ky s) = 0 then a.confirm (ky s) else a) F' w' := by
  have hsp := B.fine.sp
  refine (spec_confirm B s hs).mono ?_
  rintro e w' ⟨F', he, L⟩
  refine ⟨F', he, ?_⟩
  by_cases h : a.confirmErr (ky s) = 0
  · rw [if_pos h]; exact L
  · rw [if_neg h]
    rw [confirm_same hsp] at L
    · exact L
    · intro x hx
      unfold Abs.confirmErr at h
      rw [hx] at h
      cases hb : x.bound with
      | true => rfl
      | false => simp [hb] at h

set_option maxRecDepth 100000 in
set_option maxHeartbeats 4000000 in
theorem happens_drop {F : Nat → Prop} {w : World} {Y : Nat} {a : Abs} (B : BSt F w Y a) (r : RawD) (hr : r.ok) (hk : pickI r.kind 9 = 6) :
    Calls Try.prog 23 #[.pointer (some ⟨Y, 0, none⟩), .agg r.cells] w fun e w' => ∃ F' oo oc, e = .returned (repV (r.happen a).1 oo oc) ∧ Left F w Y (r.happen a).2 F' w' ∧ RepAt F' w w' (r.happen a).1 oo oc := by
  obtain ⟨wL, hwL⟩ : ∃ W, W = (w.alloc (.cells r.cells 62)).alloc (.cells repZero 59) := ⟨_, rfl⟩
  have hbL : Below w.heap.size w wL := by rw [hwL]; exact below_trans (below_alloc _ _) (below_alloc _ _)
  have zL : wL.heap.size = w.heap.size + 2 := by rw [hwL]; simp
  have resL : wL.heap[w.heap.size + 1]? = some (.cells repZero 59 (0, 0)) := by
    have := block_alloc_new (w.alloc (.cells r.cells 62)) (.cells repZero 59)
    rw [hwL]
    simpa using this
  have HB : Hid (BSt F wL Y a) := B.below hbL
  have hlt := B.lt
  have nF : ¬ F (w.heap.size + 1) := fun h => by have := hlt _ h; omega
  have c1 := fun W => pick_any r.kind 9 W (by omega) (by omega) hr.kind.1 hr.kind.2
  have hk0 := pickI_bound r.kind (n := 9) (by omega)
  have HA : Hid (r.happen a = (repE (a.dropErr (ky r.podName)), a.drop (ky r.podName))) := by
    show _ = _
    unfold RawD.happen RawD.kindI
    rw [if_neg (by rw [hk]; decide)]
    rw [if_neg (by rw [hk]; decide)]
    rw [if_neg (by rw [hk]; decide)]
    rw [if_pos hk]
  clear B
  rw [hk] at c1
  have c2 := fun W => pick_any r.name 20 W (by omega) (by omega) hr.name.1 hr.name.2
  have hb6 := pickI_bound r.name (n := 20) (by omega)
  have c3 := fun W => kname_any ⟨#[112]⟩ (pickI r.name 20) W hb6.1 (by decide)
  have HNm : Hid (nameS ⟨#[112]⟩ (pickI r.name 20) = r.podName) := rfl
  rw [HNm.out] at c3
  unfold RawD.cells at hwL ⊢
  unfold repZero at hwL
  go_enter Try.func23, Try.ntmps23
  go_wp2_with (first
    | (go_at_call_of 28 (Value.int .i64 9); refine (c1 _).mono ?_; rintro e w1 ⟨rfl, rfl⟩)
    | (go_at_call_of 28 (Value.int .i64 20); refine (c2 _).mono ?_; rintro e w1 ⟨rfl, rfl⟩)
    | (go_at_call 46; refine (c3 _).mono ?_; rintro e w2 ⟨rfl, hb2⟩; rw [← hwL] at hb2; have cP := spec_drop (HB.out.below hb2) r.podName (by rw [podName_size]; decide))
    | (go_at_call 32; refine cP.mono ?_; rintro e w3 ⟨F', rfl, L3⟩; have res3 := (L3.kept.block _ (by have := hb2.size; omega) nF).trans ((hb2.block _ (by omega)).trans resL); have f3 := fun o => frozen_of_block (i := o) res3; have q0 : w3.cell? ⟨w.heap.size + 1, 0, none⟩ = some (.int .i64 0) := (by rw [cell_of_block res3]; rfl); have q1 : w3.cell? ⟨w.heap.size + 1, 1, none⟩ = some (.string ⟨#[]⟩) := (by rw [cell_of_block res3]; rfl); have q2 : w3.cell? ⟨w.heap.size + 1, 2, none⟩ = some (.int .i64 0) := (by rw [cell_of_block res3]; rfl); have q3 : w3.cell? ⟨w.heap.size + 1, 3, none⟩ = some (.slice none 0 0) := (by rw [cell_of_block res3]; rfl); have q4 : w3.cell? ⟨w.heap.size + 1, 4, none⟩ = some (.int .i64 0) := (by rw [cell_of_block res3]; rfl)))
  have hblk := five_cells res3 (.int .i64 (a.dropErr (ky r.podName))) (.string ⟨#[]⟩) (.int .i64 0) (.slice none 0 0) (.int .i64 0)
  refine bodyPost_ret (v := .agg #[.int .i64 (a.dropErr (ky r.podName)), .string ⟨#[]⟩, .int .i64 0, .slice none 0 0, .int .i64 0]) (results_cell rfl rfl (run_loadVar_row _ _ _ _ _ _ _ hblk Try.underlying59 rfl sizeRT)) rfl ?_
  have K := ((((((Kept.refl (fun b => b = w.heap.size + 1) w3).setCell (p := ⟨w.heap.size + 1, 0, none⟩) (fun _ => rfl) (.int .i64 (a.dropErr (ky r.podName)))).setCell (p := ⟨w.heap.size + 1, 1, none⟩) (fun _ => rfl) (.string ⟨#[]⟩)).setCell (p := ⟨w.heap.size + 1, 2, none⟩) (fun _ => rfl) (.int .i64 0)).setCell (p := ⟨w.heap.size + 1, 3, none⟩) (fun _ => rfl) (.slice none 0 0)).setCell (p := ⟨w.heap.size + 1, 4, none⟩) (fun _ => rfl) (.int .i64 0))
  rw [HA.out]
  exact ⟨F', none, 0, rfl, Left.told hlt (below_trans hbL hb2) L3 (by have := hb2.size; omega) K, RepAt.none _ _ _ _⟩

set_option maxRecDepth 100000 in
set_option maxHeartbeats 4000000 in
theorem happens_confirm {F : Nat → Prop} {w : World} {Y : Nat} {a : Abs} (B : BSt F w Y a) (r : RawD) (hr : r.ok) (hk : pickI r.kind 9 = 7) :
    Calls Try.prog 23 #[.pointer (some ⟨Y, 0, none⟩), .agg r.cells] w fun e w' => ∃ F' oo oc, e = .returned (repV (r.happen a).1 oo oc) ∧ Left F w Y (r.happen a).2 F' w' ∧ RepAt F' w w' (r.happen a).1 oo oc := by
  obtain ⟨wL, hwL⟩ : ∃ W, W = (w.alloc (.cells r.cells 62)).alloc (.cells repZero 59) := ⟨_, rfl⟩
  have hbL : Below w.heap.size w wL := by rw [hwL]; exact below_trans (below_alloc _ _) (below_alloc _ _)
  have zL : wL.heap.size = w.heap.size + 2 := by rw [hwL]; simp
  have resL : wL.heap[w.heap.size + 1]? = some (.cells repZero 59 (0, 0)) := by
    have := block_alloc_new (w.alloc (.cells r.cells 62)) (.cells repZero 59)
    rw [hwL]
    simpa using this
  have HB : Hid (BSt F wL Y a) := B.below hbL
  have hlt := B.lt
  have nF : ¬ F (w.heap.size + 1) := fun h => by have := hlt _ h; omega
  have c1 := fun W => pick_any r.kind 9 W (by omega) (by omega) hr.kind.1 hr.kind.2
  have hk0 := pickI_bound r.kind (n := 9) (by omega)
  have HA : Hid (r.happen a = (repE (a.confirmErr (ky r.podName)), if a.confirmErr (ky r.podName) = 0 then a.confirm (ky r.podName) else a)) := by
    show _ = _
    unfold RawD.happen RawD.kindI
    rw [if_neg (by rw [hk]; decide)]
    rw [if_neg (by rw [hk]; decide)]
    rw [if_neg (by rw [hk]; decide)]
    rw [if_neg (by rw [hk]; decide)]
    rw [if_pos hk]
  clear B
  rw [hk] at c1
  have c2 := fun W => pick_any r.name 20 W (by omega) (by omega) hr.name.1 hr.name.2
  have hb6 := pickI_bound r.name (n := 20) (by omega)
  have c3 := fun W => kname_any ⟨#[112]⟩ (pickI r.name 20) W hb6.1 (by decide)
  have HNm : Hid (nameS ⟨#[112]⟩ (pickI r.name 20) = r.podName) := rfl
  rw [HNm.out] at c3
  unfold RawD.cells at hwL ⊢
  unfold repZero at hwL
  go_enter Try.func23, Try.ntmps23
  go_wp2_with (first
    | (go_at_call_of 28 (Value.int .i64 9); refine (c1 _).mono ?_; rintro e w1 ⟨rfl, rfl⟩)
    | (go_at_call_of 28 (Value.int .i64 20); refine (c2 _).mono ?_; rintro e w1 ⟨rfl, rfl⟩)
    | (go_at_call 46; refine (c3 _).mono ?_; rintro e w2 ⟨rfl, hb2⟩; rw [← hwL] at hb2; have cP := spec_confirm' (HB.out.below hb2) r.podName (by rw [podName_size]; decide))
    | (go_at_call 31; refine cP.mono ?_; rintro e w3 ⟨F', rfl, L3⟩; have res3 := (L3.kept.block _ (by have := hb2.size; omega) nF).trans ((hb2.block _ (by omega)).trans resL); have f3 := fun o => frozen_of_block (i := o) res3; have q0 : w3.cell? ⟨w.heap.size + 1, 0, none⟩ = some (.int .i64 0) := (by rw [cell_of_block res3]; rfl); have q1 : w3.cell? ⟨w.heap.size + 1, 1, none⟩ = some (.string ⟨#[]⟩) := (by rw [cell_of_block res3]; rfl); have q2 : w3.cell? ⟨w.heap.size + 1, 2, none⟩ = some (.int .i64 0) := (by rw [cell_of_block res3]; rfl); have q3 : w3.cell? ⟨w.heap.size + 1, 3, none⟩ = some (.slice none 0 0) := (by rw [cell_of_block res3]; rfl); have q4 : w3.cell? ⟨w.heap.size + 1, 4, none⟩ = some (.int .i64 0) := (by rw [cell_of_block res3]; rfl)))
  have hblk := five_cells res3 (.int .i64 (a.confirmErr (ky r.podName))) (.string ⟨#[]⟩) (.int .i64 0) (.slice none 0 0) (.int .i64 0)
  refine bodyPost_ret (v := .agg #[.int .i64 (a.confirmErr (ky r.podName)), .string ⟨#[]⟩, .int .i64 0, .slice none 0 0, .int .i64 0]) (results_cell rfl rfl (run_loadVar_row _ _ _ _ _ _ _ hblk Try.underlying59 rfl sizeRT)) rfl ?_
  have K := ((((((Kept.refl (fun b => b = w.heap.size + 1) w3).setCell (p := ⟨w.heap.size + 1, 0, none⟩) (fun _ => rfl) (.int .i64 (a.confirmErr (ky r.podName)))).setCell (p := ⟨w.heap.size + 1, 1, none⟩) (fun _ => rfl) (.string ⟨#[]⟩)).setCell (p := ⟨w.heap.size + 1, 2, none⟩) (fun _ => rfl) (.int .i64 0)).setCell (p := ⟨w.heap.size + 1, 3, none⟩) (fun _ => rfl) (.slice none 0 0)).setCell (p := ⟨w.heap.size + 1, 4, none⟩) (fun _ => rfl) (.int .i64 0))
  rw [HA.out]
  exact ⟨F', none, 0, rfl, Left.told hlt (below_trans hbL hb2) L3 (by have := hb2.size; omega) K, RepAt.none _ _ _ _⟩

set_option maxRecDepth 100000 in
set_option maxHeartbeats 4000000 in
theorem happens_tick {F : Nat → Prop} {w : World} {Y : Nat} {a : Abs} (B : BSt F w Y a) (r : RawD) (hr : r.ok) (hk : pickI r.kind 9 = 8) :
    Calls Try.prog 23 #[.pointer (some ⟨Y, 0, none⟩), .agg r.cells] w fun e w' => ∃ F' oo oc, e = .returned (repV (r.happen a).1 oo oc) ∧ Left F w Y (r.happen a).2 F' w' ∧ RepAt F' w w' (r.happen a).1 oo oc := by
  obtain ⟨wL, hwL⟩ : ∃ W, W = (w.alloc (.cells r.cells 62)).alloc (.cells repZero 59) := ⟨_, rfl⟩
  have hbL : Below w.heap.size w wL := by rw [hwL]; exact below_trans (below_alloc _ _) (below_alloc _ _)
  have zL : wL.heap.size = w.heap.size + 2 := by rw [hwL]; simp
  have resL : wL.heap[w.heap.size + 1]? = some (.cells repZero 59 (0, 0)) := by
    have := block_alloc_new (w.alloc (.cells r.cells 62)) (.cells repZero 59)
    rw [hwL]
    simpa using this
  have HB : Hid (BSt F wL Y a) := B.below hbL
  have hlt := B.lt
  have nF : ¬ F (w.heap.size + 1) := fun h => by have := hlt _ h; omega
  have c1 := fun W => pick_any r.kind 9 W (by omega) (by omega) hr.kind.1 hr.kind.2
  have hk0 := pickI_bound r.kind (n := 9) (by omega)
  have HA : Hid (r.happen a = (repE (a.tickErr (pickI r.needs 6)), a.tick (pickI r.needs 6))) := by
    show _ = _
    unfold RawD.happen RawD.kindI
    rw [if_neg (by rw [hk]; decide)]
    rw [if_neg (by rw [hk]; decide)]
    rw [if_neg (by rw [hk]; decide)]
    rw [if_neg (by rw [hk]; decide)]
    rw [if_neg (by rw [hk]; decide)]
    rw [if_pos hk]
  clear B
  rw [hk] at c1
  have c2 := fun W => pick_any r.needs 6 W (by omega) (by omega) hr.needs.1 hr.needs.2
  have hb2 : Below wL.heap.size wL wL := Below.refl _ _
  have cP := spec_tick HB.out (pickI r.needs 6)
  generalize pickI r.needs 6 = tn at *
  unfold RawD.cells at hwL ⊢
  unfold repZero at hwL
  rw [hwL] at cP
  go_enter Try.func23, Try.ntmps23
  go_wp2_with (first
    | (go_at_call_of 28 (Value.int .i64 9); refine (c1 _).mono ?_; rintro e w1 ⟨rfl, rfl⟩)
    | (go_at_call_of 28 (Value.int .i64 6); refine (c2 _).mono ?_; rintro e w1 ⟨rfl, rfl⟩)
    | (go_at_call 30; refine cP.mono ?_; rintro e w3 ⟨F', rfl, L3⟩; rw [← hwL] at L3; have res3 := (L3.kept.block _ (by have := hb2.size; omega) nF).trans ((hb2.block _ (by omega)).trans resL); have f3 := fun o => frozen_of_block (i := o) res3; have q0 : w3.cell? ⟨w.heap.size + 1, 0, none⟩ = some (.int .i64 0) := (by rw [cell_of_block res3]; rfl); have q1 : w3.cell? ⟨w.heap.size + 1, 1, none⟩ = some (.string ⟨#[]⟩) := (by rw [cell_of_block res3]; rfl); have q2 : w3.cell? ⟨w.heap.size + 1, 2, none⟩ = some (.int .i64 0) := (by rw [cell_of_block res3]; rfl); have q3 : w3.cell? ⟨w.heap.size + 1, 3, none⟩ = some (.slice none 0 0) := (by rw [cell_of_block res3]; rfl); have q4 : w3.cell? ⟨w.heap.size + 1, 4, none⟩ = some (.int .i64 0) := (by rw [cell_of_block res3]; rfl)))
  have hblk := five_cells res3 (.int .i64 (a.tickErr tn)) (.string ⟨#[]⟩) (.int .i64 0) (.slice none 0 0) (.int .i64 0)
  refine bodyPost_ret (v := .agg #[.int .i64 (a.tickErr tn), .string ⟨#[]⟩, .int .i64 0, .slice none 0 0, .int .i64 0]) (results_cell rfl rfl (run_loadVar_row _ _ _ _ _ _ _ hblk Try.underlying59 rfl sizeRT)) rfl ?_
  have K := ((((((Kept.refl (fun b => b = w.heap.size + 1) w3).setCell (p := ⟨w.heap.size + 1, 0, none⟩) (fun _ => rfl) (.int .i64 (a.tickErr tn))).setCell (p := ⟨w.heap.size + 1, 1, none⟩) (fun _ => rfl) (.string ⟨#[]⟩)).setCell (p := ⟨w.heap.size + 1, 2, none⟩) (fun _ => rfl) (.int .i64 0)).setCell (p := ⟨w.heap.size + 1, 3, none⟩) (fun _ => rfl) (.slice none 0 0)).setCell (p := ⟨w.heap.size + 1, 4, none⟩) (fun _ => rfl) (.int .i64 0))
  rw [HA.out]
  exact ⟨F', none, 0, rfl, Left.told hlt (below_trans hbL hb2) L3 (by have := hb2.size; omega) K, RepAt.none _ _ _ _⟩

end Go.Proofs.Ytchddaafibjmgaa
