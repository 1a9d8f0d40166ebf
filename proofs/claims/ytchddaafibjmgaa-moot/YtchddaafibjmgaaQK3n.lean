/-
  The statements' pods once more: their lists lie in new memory.
-/
import Derived.Test.YtchddaafibjmgaaQA20
import Derived.Deep.CutRange
namespace Go.Proofs.Ytchddaafibjmgaa
open Go.RowKit

set_option maxRecDepth 100000 in
set_option maxHeartbeats 20000000 in
theorem kpod_new (r : RawD) (hr : r.ok) (w : World) : Calls Try.prog 29 #[.agg r.cells] w fun e w' => ∃ p : PodD, e = .returned (.agg p.cells) ∧ p.ok w' ∧ p.name = r.podName ∧ p.n0 = r.N % 9 ∧ p.n1 = r.N / 9 % 9 ∧ p.n2 = r.N / 81 % 9 / 7 ∧ p.port = r.podPort ∧ p.labels.L = labsI (r.K % 16) ∧ p.select.L = r.podSelect ∧ p.bears.L = r.podBears ∧ p.near.L = r.podNear ∧ p.apart.L = r.podApart ∧ Below w.heap.size w w' ∧ ∀ x ∈ p.lists, ∀ q, x.a = some q → w.heap.size ≤ q.block := by
  have c1 := fun W => pick_any r.needs 1099511627776 W (by omega) (by omega) hr.needs.1 hr.needs.2
  have c2 := fun W => pick_any r.flags 1073741824 W (by omega) (by omega) hr.flags.1 hr.flags.2
  have c3 := fun W => pick_any r.links 1073741824 W (by omega) (by omega) hr.links.1 hr.links.2
  have c4 := fun W => pick_any r.name 20 W (by omega) (by omega) hr.name.1 hr.name.2
  have b1 := pickI_bound r.needs (n := 1099511627776) (by omega)
  have b2 := pickI_bound r.flags (n := 1073741824) (by omega)
  have b3 := pickI_bound r.links (n := 1073741824) (by omega)
  have b4 := pickI_bound r.name (n := 20) (by omega)
  have HN : Hid (r.N = pickI r.needs 1099511627776 ∧ r.F = pickI r.flags 1073741824 ∧ r.K = pickI r.links 1073741824 ∧ r.podName = nameS ⟨#[112]⟩ (pickI r.name 20)) := ⟨rfl, rfl, rfl, rfl⟩
  generalize pickI r.needs 1099511627776 = nn at *
  generalize pickI r.flags 1073741824 = ff at *
  generalize pickI r.links 1073741824 = kk at *
  generalize pickI r.name 20 = pn at *
  have c5 := fun W => kname_any ⟨#[112]⟩ pn W (by omega) (by decide)
  have c6 := fun W => klabels_any (kk % 16) W (by omega) (by omega)
  have c7 := fun W => kname_any ⟨#[100]⟩ (ff / 60 % 2) W (by omega) (by decide)
  have c8 := fun W => klabels_any (kk / 64 % 16) W (by omega) (by omega)
  have c9 := fun W => klabels_any (kk / 4096 % 16) W (by omega) (by omega)
  unfold RawD.cells
  go_enter Try.func29, Try.ntmps29
  go_upto_if 36 with (first
    | (go_at_call_of 28 (Value.int .i64 r.needs); refine (c1 _).mono ?_; rintro e w1 ⟨rfl, rfl⟩)
    | (go_at_call_of 28 (Value.int .i64 r.flags); refine (c2 _).mono ?_; rintro e w1 ⟨rfl, rfl⟩)
    | (go_at_call_of 28 (Value.int .i64 r.links); refine (c3 _).mono ?_; rintro e w1 ⟨rfl, rfl⟩)
    | (go_at_call_of 28 (Value.int .i64 20); refine (c4 _).mono ?_; rintro e w1 ⟨rfl, rfl⟩)
    | (go_at_call_of 46 (Value.string ⟨#[112]⟩); refine (c5 _).mono ?_; rintro e w1 ⟨rfl, hb1⟩)
    | (go_at_call 50; refine (c6 _).mono ?_; rintro e w2 ⟨ao, cap, rfl, r2, hb2⟩))
  have z1 := hb1.size
  simp only [World.size_alloc] at z1
  have z2 := hb2.size
  have hb12 : Below w.heap.size w w2 := (below_trans (below_alloc _ _) (below_alloc _ _)).trans ((hb1.mono (by simp; omega)).trans (hb2.mono (by omega)))
  have hbR : w2.heap[w.heap.size + 1]? = some (.cells #[.string ⟨#[]⟩, .int .i64 0, .int .i64 0, .int .i64 0, .int .i64 0, .slice none 0 0, .slice none 0 0, .slice none 0 0, .slice none 0 0, .slice none 0 0] 33 (0, 0)) := by
    rw [hb2.block _ (by omega), hb1.block _ (by simp)]
    have := block_alloc_new (w.alloc (.cells #[.int .i64 r.kind, .int .i64 r.name, .int .i64 r.node, .int .i64 r.needs, .int .i64 r.flags, .int .i64 r.links] 62)) (.cells #[.string ⟨#[]⟩, .int .i64 0, .int .i64 0, .int .i64 0, .int .i64 0, .slice none 0 0, .slice none 0 0, .slice none 0 0, .slice none 0 0, .slice none 0 0] 33)
    simpa using this
  have hL0 : LV (w.heap.size + 2) w2.heap.size w2 (.slice ao (labsI (kk % 16)).length cap) (labsI (kk % 16)) := by
    refine ⟨ao, cap, rfl, r2.labs.2, r2.labs.1, fun q hq => ?_⟩
    obtain ⟨h1, cur, h2⟩ := own_ptr r2.row hq
    have := r2.new q.block h1
    have := lt_of_block h2
    omega
  have P0 : PodBox (w.heap.size + 2) (w2.alloc (.cells #[.string (nameS ⟨#[112]⟩ pn), .int .i64 (nn % 9), .int .i64 (nn / 9 % 9), .int .i64 (nn / 81 % 9 / 7), .int .i64 0, .slice ao (labsI (kk % 16)).length cap, .slice none 0 0, .slice none 0 0, .slice none 0 0, .slice none 0 0] 33)) w2.heap.size (nameS ⟨#[112]⟩ pn) (nn % 9) (nn / 9 % 9) (nn / 81 % 9 / 7) 0 (.slice ao (labsI (kk % 16)).length cap) (.slice none 0 0) (.slice none 0 0) (.slice none 0 0) (.slice none 0 0) (labsI (kk % 16)) [] [] [] [] := by
    exact ⟨block_alloc_new _ _, hL0.below (below_alloc _ _), LV.nil _ _ _, LV.nil _ _ _, LV.nil _ _ _, LV.nil _ _ _⟩
  clear r2
  have hb3 : Below w2.heap.size w2 (w2.alloc (.cells #[.string (nameS ⟨#[112]⟩ pn), .int .i64 (nn % 9), .int .i64 (nn / 9 % 9), .int .i64 (nn / 81 % 9 / 7), .int .i64 0, .slice ao (labsI (kk % 16)).length cap, .slice none 0 0, .slice none 0 0, .slice none 0 0, .slice none 0 0] 33)) := below_alloc _ _
  have Hnm : Hid ((nameS ⟨#[112]⟩ pn).size = 2) := nameS_size _ _
  generalize nameS ⟨#[112]⟩ pn = nm at *
  obtain ⟨q0, hq0⟩ : ∃ q, q = nn % 9 := ⟨_, rfl⟩
  obtain ⟨q1, hq1⟩ : ∃ q, q = nn / 9 % 9 := ⟨_, rfl⟩
  obtain ⟨q2, hq2⟩ : ∃ q, q = nn / 81 % 9 / 7 := ⟨_, rfl⟩
  have HQ : Hid (q0 = nn % 9 ∧ q1 = nn / 9 % 9 ∧ q2 = nn / 81 % 9 / 7) := ⟨hq0, hq1, hq2⟩
  rw [← hq0, ← hq1, ← hq2] at P0 hb3 ⊢
  clear hq0 hq1 hq2
  obtain ⟨LL, hLL⟩ : ∃ L, L = labsI (kk % 16) := ⟨_, rfl⟩
  have HLL : Hid (LL = labsI (kk % 16)) := hLL
  rw [← hLL] at P0 hb3 hL0 ⊢
  clear hLL c1 c2 c3 c4 c5 c6
  go_cut [] from 7 (fun wx => ∃ v0, PodBox (w.heap.size + 2) wx w2.heap.size nm q0 q1 q2 (if ff % 4 = 0 then 1 + ff / 4 % 3 else 0) v0 (.slice none 0 0) (.slice none 0 0) (.slice none 0 0) (.slice none 0 0) LL [] [] [] [] ∧ Below w2.heap.size w2 wx)
  case first =>
    by_cases hc : ff % 4 = 0
    · go_wp2
      go_meet
      rw [if_pos hc]
      exact ⟨_, ⟨block_alloc_new _ _, hL0.below (below_alloc _ _), LV.nil _ _ _, LV.nil _ _ _, LV.nil _ _ _, LV.nil _ _ _⟩, below_alloc _ _⟩
    · have hcb : (ff % 4 == 0) = false := by simpa using hc
      go_wp2
      go_meet
      rw [if_neg hc]
      exact ⟨_, P0, hb3⟩
  case rest =>
    clear P0 hb3
    obtain ⟨v0, P0, hb3⟩ := hcut
    clear hL0
    obtain ⟨pt, hpt⟩ : ∃ x, x = (if ff % 4 = 0 then 1 + ff / 4 % 3 else 0) := ⟨_, rfl⟩
    have Hpt : Hid (pt = (if ff % 4 = 0 then 1 + ff / 4 % 3 else 0)) := hpt
    rw [← hpt] at P0
    clear hpt
    obtain ⟨sd, hsd⟩ : ∃ x, x = nameS ⟨#[100]⟩ (ff / 60 % 2) := ⟨_, rfl⟩
    have Hsd : Hid (sd = nameS ⟨#[100]⟩ (ff / 60 % 2)) := hsd
    rw [← hsd] at c7
    clear hsd
    obtain ⟨L8, hL8⟩ : ∃ x, x = labsI (kk / 64 % 16) := ⟨_, rfl⟩
    have HL8 : Hid (L8 = labsI (kk / 64 % 16)) := hL8
    rw [← hL8] at c8
    clear hL8
    obtain ⟨L9, hL9⟩ : ∃ x, x = labsI (kk / 4096 % 16) := ⟨_, rfl⟩
    have HL9 : Hid (L9 = labsI (kk / 4096 % 16)) := hL9
    rw [← hL9] at c9
    clear hL9
    have f0 := fun o => frozen_of_block (i := o) P0.box
    have x0 := lt_of_block P0.box
    have p0 : wc.cell? ⟨w2.heap.size, 6, none⟩ = some (.slice none 0 0) := P0.cells.2.2.2.2.2.2.1
    go_upto_if 45 with fail
    go_cut [] from 7 (fun wx => ∃ v1, PodBox (w.heap.size + 2) wx w2.heap.size nm q0 q1 q2 pt v0 v1 (.slice none 0 0) (.slice none 0 0) (.slice none 0 0) LL (if ff / 12 % 5 = 0 then [((⟨#[100, 105, 115, 107]⟩, sd) : Lab)] else []) [] [] [] ∧ Below w2.heap.size w2 wx)
    case first =>
      by_cases hc : ff / 12 % 5 = 0
      · go_wp2_with (go_at_call 46; refine (c7 _).mono ?_; rintro e w3 ⟨rfl, hb4⟩; have z3 := hb4.size; have x3 := Nat.lt_of_lt_of_le x0 z3; have f3 := fun o => (hb4.frozen (p := ⟨w2.heap.size, o, none⟩) x0).trans (f0 o); have p3 := (hb4.cell (p := ⟨w2.heap.size, 6, none⟩) x0).trans p0; have p3' := ((below_alloc w3 (.cells #[.string ⟨#[100, 105, 115, 107]⟩, .string sd] 51)).cell (p := ⟨w2.heap.size, 6, none⟩) x3).trans p3; have f3' := ((below_alloc w3 (.cells #[.string ⟨#[100, 105, 115, 107]⟩, .string sd] 51)).frozen (p := ⟨w2.heap.size, 6, none⟩) x3).trans (f3 6); have P3 := P0.below hb4; have hb5 := hb3.trans (hb4.mono (Nat.le_of_lt x0)))
        go_meet
        rw [if_pos hc]
        exact ⟨_, P3.new1 [(⟨#[100, 105, 115, 107]⟩, sd)] (by omega), hb5.trans (below_new _ _ _ _ _ (lt_of_block P3.box))⟩
      · have hcb : (ff / 12 % 5 == 0) = false := by simpa using hc
        go_wp2
        go_meet
        rw [if_neg hc]
        exact ⟨_, P0, hb3⟩
    case rest =>
      clear P0 hb3 f0 x0 p0
      obtain ⟨v1, P0, hb3⟩ := hcut
      obtain ⟨L1, hL1⟩ : ∃ x, x = (if ff / 12 % 5 = 0 then [((⟨#[100, 105, 115, 107]⟩, sd) : Lab)] else []) := ⟨_, rfl⟩
      have HL1 : Hid (L1 = (if ff / 12 % 5 = 0 then [((⟨#[100, 105, 115, 107]⟩, sd) : Lab)] else [])) := hL1
      rw [← hL1] at P0
      clear hL1 c7
      have f0 := fun o => frozen_of_block (i := o) P0.box
      have x0 := lt_of_block P0.box
      have p0 : wc.cell? ⟨w2.heap.size, 7, none⟩ = some (.slice none 0 0) := P0.cells.2.2.2.2.2.2.2.1
      go_upto_if 56 with fail
      go_cut [] from 7 (fun wx => ∃ v2, PodBox (w.heap.size + 2) wx w2.heap.size nm q0 q1 q2 pt v0 v1 v2 (.slice none 0 0) (.slice none 0 0) LL L1 (if 0 < ff / 120 % 3 then [((⟨#[108, 111, 97, 100]⟩, ⟨#[104, 101, 97, 118, 121]⟩) : Lab), (⟨#[109, 111, 114, 101]⟩, ⟨#[108, 105, 103, 104, 116]⟩)] else []) [] [] ∧ Below w2.heap.size w2 wx)
      case first =>
        by_cases hc : 0 < ff / 120 % 3
        · go_wp2
          go_meet
          rw [if_pos (by omega)]
          exact ⟨_, P0.new2 [(⟨#[108, 111, 97, 100]⟩, ⟨#[104, 101, 97, 118, 121]⟩), (⟨#[109, 111, 114, 101]⟩, ⟨#[108, 105, 103, 104, 116]⟩)] (by omega), hb3.trans (below_new _ _ _ _ _ x0)⟩
        · go_wp2
          go_meet
          rw [if_neg (by omega)]
          exact ⟨_, P0, hb3⟩
      case rest =>
        clear P0 hb3 f0 x0 p0
        obtain ⟨v2, P0, hb3⟩ := hcut
        obtain ⟨L2, hL2⟩ : ∃ x, x = (if 0 < ff / 120 % 3 then [((⟨#[108, 111, 97, 100]⟩, ⟨#[104, 101, 97, 118, 121]⟩) : Lab), (⟨#[109, 111, 114, 101]⟩, ⟨#[108, 105, 103, 104, 116]⟩)] else []) := ⟨_, rfl⟩
        have HL2 : Hid (L2 = (if 0 < ff / 120 % 3 then [((⟨#[108, 111, 97, 100]⟩, ⟨#[104, 101, 97, 118, 121]⟩) : Lab), (⟨#[109, 111, 114, 101]⟩, ⟨#[108, 105, 103, 104, 116]⟩)] else [])) := hL2
        rw [← hL2] at P0
        clear hL2
        have f0 := fun o => frozen_of_block (i := o) P0.box
        have x0 := lt_of_block P0.box
        have p0 : wc.cell? ⟨w2.heap.size, 8, none⟩ = some (.slice none 0 0) := P0.cells.2.2.2.2.2.2.2.2.1
        go_upto_if 64 with fail
        go_cut [] from 7 (fun wx => ∃ v3, PodBox (w.heap.size + 2) wx w2.heap.size nm q0 q1 q2 pt v0 v1 v2 v3 (.slice none 0 0) LL L1 L2 (if kk / 16 % 4 = 0 then L8 else []) [] ∧ Below w2.heap.size w2 wx)
        case first =>
          by_cases hc : kk / 16 % 4 = 0
          · go_wp2_with (go_at_call 50; refine (c8 _).mono ?_; rintro e w3 ⟨ao8, cap8, rfl, r8, hb4⟩; have f3 := fun o => (hb4.frozen (p := ⟨w2.heap.size, o, none⟩) x0).trans (f0 o); have p3 := (hb4.cell (p := ⟨w2.heap.size, 8, none⟩) x0).trans p0; have P3 := P0.below hb4; have hb5 := hb3.trans (hb4.mono (Nat.le_of_lt x0)))
            go_meet
            rw [if_pos hc]
            exact ⟨_, P3.set3 (LV.of_row r8 (by omega) (by omega)), hb5.trans (below_set _ _ _ _ (lt_of_block P3.box))⟩
          · have hcb : (kk / 16 % 4 == 0) = false := by simpa using hc
            go_wp2
            go_meet
            rw [if_neg hc]
            exact ⟨_, P0, hb3⟩
        case rest =>
          clear P0 hb3 f0 x0 p0
          obtain ⟨v3, P0, hb3⟩ := hcut
          obtain ⟨L3, hL3⟩ : ∃ x, x = (if kk / 16 % 4 = 0 then L8 else []) := ⟨_, rfl⟩
          have HL3 : Hid (L3 = (if kk / 16 % 4 = 0 then L8 else [])) := hL3
          rw [← hL3] at P0
          clear hL3 c8
          have f0 := fun o => frozen_of_block (i := o) P0.box
          have x0 := lt_of_block P0.box
          have p0 : wc.cell? ⟨w2.heap.size, 9, none⟩ = some (.slice none 0 0) := P0.cells.2.2.2.2.2.2.2.2.2.1
          go_upto_if 73 with fail
          go_cut [] from 7 (fun wx => ∃ v4, PodBox (w.heap.size + 2) wx w2.heap.size nm q0 q1 q2 pt v0 v1 v2 v3 v4 LL L1 L2 L3 (if kk / 1024 % 4 = 0 then L9 else []) ∧ Below w2.heap.size w2 wx)
          case first =>
            by_cases hc : kk / 1024 % 4 = 0
            · go_wp2_with (go_at_call 50; refine (c9 _).mono ?_; rintro e w3 ⟨ao8, cap8, rfl, r8, hb4⟩; have f3 := fun o => (hb4.frozen (p := ⟨w2.heap.size, o, none⟩) x0).trans (f0 o); have p3 := (hb4.cell (p := ⟨w2.heap.size, 9, none⟩) x0).trans p0; have P3 := P0.below hb4; have hb5 := hb3.trans (hb4.mono (Nat.le_of_lt x0)))
              go_meet
              rw [if_pos hc]
              exact ⟨_, P3.set4 (LV.of_row r8 (by omega) (by omega)), hb5.trans (below_set _ _ _ _ (lt_of_block P3.box))⟩
            · have hcb : (kk / 1024 % 4 == 0) = false := by simpa using hc
              go_wp2
              go_meet
              rw [if_neg hc]
              exact ⟨_, P0, hb3⟩
          case rest =>
            clear P0 hb3 f0 x0 p0
            obtain ⟨v4, P0, hb3⟩ := hcut
            obtain ⟨L4, hL4⟩ : ∃ x, x = (if kk / 1024 % 4 = 0 then L9 else []) := ⟨_, rfl⟩
            have HL4 : Hid (L4 = (if kk / 1024 % 4 = 0 then L9 else [])) := hL4
            rw [← hL4] at P0
            clear hL4 c9
            obtain ⟨p0, p1, p2, p3, p4, p5, p6, p7, p8, p9, f0⟩ := P0.cells
            have hbR' : wc.heap[w.heap.size + 1]? = _ := (hb3.block _ (by omega)).trans hbR
            have fR := fun o => frozen_of_block (i := o) hbR'
            have g0 : wc.cell? ⟨w.heap.size + 1, 0, none⟩ = some (.string ⟨#[]⟩) := by rw [cell_of_block hbR']; rfl
            have g1 : wc.cell? ⟨w.heap.size + 1, 1, none⟩ = some (.int .i64 0) := by rw [cell_of_block hbR']; rfl
            have g2 : wc.cell? ⟨w.heap.size + 1, 2, none⟩ = some (.int .i64 0) := by rw [cell_of_block hbR']; rfl
            have g3 : wc.cell? ⟨w.heap.size + 1, 3, none⟩ = some (.int .i64 0) := by rw [cell_of_block hbR']; rfl
            have g4 : wc.cell? ⟨w.heap.size + 1, 4, none⟩ = some (.int .i64 0) := by rw [cell_of_block hbR']; rfl
            have g5 : wc.cell? ⟨w.heap.size + 1, 5, none⟩ = some (.slice none 0 0) := by rw [cell_of_block hbR']; rfl
            have g6 : wc.cell? ⟨w.heap.size + 1, 6, none⟩ = some (.slice none 0 0) := by rw [cell_of_block hbR']; rfl
            have g7 : wc.cell? ⟨w.heap.size + 1, 7, none⟩ = some (.slice none 0 0) := by rw [cell_of_block hbR']; rfl
            have g8 : wc.cell? ⟨w.heap.size + 1, 8, none⟩ = some (.slice none 0 0) := by rw [cell_of_block hbR']; rfl
            have g9 : wc.cell? ⟨w.heap.size + 1, 9, none⟩ = some (.slice none 0 0) := by rw [cell_of_block hbR']; rfl
            have hne : ¬ w2.heap.size = w.heap.size + 1 := by omega
            obtain ⟨a0, k0, e0, u0, m0, n0⟩ := P0.l0
            obtain ⟨a1, k1, e1, u1, m1, n1⟩ := P0.l1
            obtain ⟨a2, k2, e2, u2, m2, n2⟩ := P0.l2
            obtain ⟨a3, k3, e3, u3, m3, n3⟩ := P0.l3
            obtain ⟨a4, k4, e4, u4, m4, n4⟩ := P0.l4
            subst e0 e1 e2 e3 e4
            have HP : Hid (PodBox (w.heap.size + 2) wc w2.heap.size nm q0 q1 q2 pt (.slice a0 LL.length k0) (.slice a1 L1.length k1) (.slice a2 L2.length k2) (.slice a3 L3.length k3) (.slice a4 L4.length k4) LL L1 L2 L3 L4) := P0
            clear P0
            have HM : Hid ((LabsAt wc a0 LL ∧ ∀ q, a0 = some q → w.heap.size + 2 ≤ q.block ∧ q.block ≠ w2.heap.size) ∧ (LabsAt wc a1 L1 ∧ ∀ q, a1 = some q → w.heap.size + 2 ≤ q.block ∧ q.block ≠ w2.heap.size) ∧ (LabsAt wc a2 L2 ∧ ∀ q, a2 = some q → w.heap.size + 2 ≤ q.block ∧ q.block ≠ w2.heap.size) ∧ (LabsAt wc a3 L3 ∧ ∀ q, a3 = some q → w.heap.size + 2 ≤ q.block ∧ q.block ≠ w2.heap.size) ∧ (LabsAt wc a4 L4 ∧ ∀ q, a4 = some q → w.heap.size + 2 ≤ q.block ∧ q.block ≠ w2.heap.size)) := ⟨⟨m0, n0⟩, ⟨m1, n1⟩, ⟨m2, n2⟩, ⟨m3, n3⟩, ⟨m4, n4⟩⟩
            clear m0 n0 m1 n1 m2 n2 m3 n3 m4 n4
            go_wp2
            have hblk : ((((((((((wc.setCell ⟨w.heap.size + 1, 0, none⟩ (.string nm)).setCell ⟨w.heap.size + 1, 1, none⟩ (.int .i64 q0)).setCell ⟨w.heap.size + 1, 2, none⟩ (.int .i64 q1)).setCell ⟨w.heap.size + 1, 3, none⟩ (.int .i64 q2)).setCell ⟨w.heap.size + 1, 4, none⟩ (.int .i64 pt)).setCell ⟨w.heap.size + 1, 5, none⟩ (.slice a0 LL.length k0)).setCell ⟨w.heap.size + 1, 6, none⟩ (.slice a1 L1.length k1)).setCell ⟨w.heap.size + 1, 7, none⟩ (.slice a2 L2.length k2)).setCell ⟨w.heap.size + 1, 8, none⟩ (.slice a3 L3.length k3)).setCell ⟨w.heap.size + 1, 9, none⟩ (.slice a4 L4.length k4)).heap[w.heap.size + 1]? = some (.cells #[.string nm, .int .i64 q0, .int .i64 q1, .int .i64 q2, .int .i64 pt, .slice a0 LL.length k0, .slice a1 L1.length k1, .slice a2 L2.length k2, .slice a3 L3.length k3, .slice a4 L4.length k4] 33 (0, 0)) := ten_cells hbR' _ _ _ _ _ _ _ _ _ _
            refine bodyPost_ret (v := .agg #[.string nm, .int .i64 q0, .int .i64 q1, .int .i64 q2, .int .i64 pt, .slice a0 LL.length k0, .slice a1 L1.length k1, .slice a2 L2.length k2, .slice a3 L3.length k3, .slice a4 L4.length k4]) (results_box rfl rfl (run_loadVar_row _ _ _ _ _ _ _ hblk Try.underlying33 rfl sizeAP)) rfl ?_
            have K := ((((((((((Kept.refl (fun b => b = w.heap.size + 1) wc).setCell (p := ⟨w.heap.size + 1, 0, none⟩) (fun _ => rfl) (.string nm)).setCell (p := ⟨w.heap.size + 1, 1, none⟩) (fun _ => rfl) (.int .i64 q0)).setCell (p := ⟨w.heap.size + 1, 2, none⟩) (fun _ => rfl) (.int .i64 q1)).setCell (p := ⟨w.heap.size + 1, 3, none⟩) (fun _ => rfl) (.int .i64 q2)).setCell (p := ⟨w.heap.size + 1, 4, none⟩) (fun _ => rfl) (.int .i64 pt)).setCell (p := ⟨w.heap.size + 1, 5, none⟩) (fun _ => rfl) (.slice a0 LL.length k0)).setCell (p := ⟨w.heap.size + 1, 6, none⟩) (fun _ => rfl) (.slice a1 L1.length k1)).setCell (p := ⟨w.heap.size + 1, 7, none⟩) (fun _ => rfl) (.slice a2 L2.length k2)).setCell (p := ⟨w.heap.size + 1, 8, none⟩) (fun _ => rfl) (.slice a3 L3.length k3)).setCell (p := ⟨w.heap.size + 1, 9, none⟩) (fun _ => rfl) (.slice a4 L4.length k4)
            obtain ⟨⟨m0, n0⟩, ⟨m1, n1⟩, ⟨m2, n2⟩, ⟨m3, n3⟩, ⟨m4, n4⟩⟩ := HM.out
            obtain ⟨E1, E2, E3, E4⟩ := HN.out
            have i0 := labsI_ok (kk % 16)
            rw [← HLL.out] at i0
            have i1 : LabsOk L1 ∧ L1.length ≤ 2 := by
              rw [HL1.out]
              split
              · exact ⟨fun x hx => by simp only [List.mem_singleton] at hx; subst hx; dsimp only; rw [Hsd.out, nameS_size]; decide, by simp⟩
              · exact ⟨fun x hx => by simp at hx, by simp⟩
            have i2 : LabsOk L2 ∧ L2.length ≤ 2 := by
              rw [HL2.out]
              split
              · exact ⟨fun x hx => by simp only [List.mem_cons, List.not_mem_nil, or_false] at hx; rcases hx with rfl | rfl <;> decide, by simp⟩
              · exact ⟨fun x hx => by simp at hx, by simp⟩
            have i3 : LabsOk L3 ∧ L3.length ≤ 2 := by
              rw [HL3.out]
              split
              · rw [HL8.out]; exact labsI_ok _
              · exact ⟨fun x hx => by simp at hx, by simp⟩
            have i4 : LabsOk L4 ∧ L4.length ≤ 2 := by
              rw [HL4.out]
              split
              · rw [HL9.out]; exact labsI_ok _
              · exact ⟨fun x hx => by simp at hx, by simp⟩
            refine ⟨⟨nm, q0, q1, q2, pt, ⟨a0, LL, k0⟩, ⟨a1, L1, k1⟩, ⟨a2, L2, k2⟩, ⟨a3, L3, k3⟩, ⟨a4, L4, k4⟩⟩, rfl, ⟨?_, fun x hx => ?_⟩, E4.symm, ?_, ?_, ?_, ?_, ?_, ?_, ?_, ?_, ?_, ?_⟩
            · show nm.size ≤ _
              rw [Hnm.out]
              decide
            · simp only [PodD.lists, List.mem_cons, List.not_mem_nil, or_false] at hx
              rcases hx with rfl | rfl | rfl | rfl | rfl
              · exact ⟨by have := i0.2; dsimp only; omega, u0, labsAt_kept m0 K fun q hq e => by have := (n0 q hq).1; omega, i0.1⟩
              · exact ⟨by have := i1.2; dsimp only; omega, u1, labsAt_kept m1 K fun q hq e => by have := (n1 q hq).1; omega, i1.1⟩
              · exact ⟨by have := i2.2; dsimp only; omega, u2, labsAt_kept m2 K fun q hq e => by have := (n2 q hq).1; omega, i2.1⟩
              · exact ⟨by have := i3.2; dsimp only; omega, u3, labsAt_kept m3 K fun q hq e => by have := (n3 q hq).1; omega, i3.1⟩
              · exact ⟨by have := i4.2; dsimp only; omega, u4, labsAt_kept m4 K fun q hq e => by have := (n4 q hq).1; omega, i4.1⟩
            · rw [E1]; exact HQ.out.1
            · rw [E1]; exact HQ.out.2.1
            · rw [E1]; exact HQ.out.2.2
            · unfold RawD.podPort; rw [E2]; exact Hpt.out
            · rw [E3]; exact HLL.out
            · unfold RawD.podSelect; rw [E2, ← Hsd.out]; exact HL1.out
            · unfold RawD.podBears; rw [E2]; exact HL2.out
            · unfold RawD.podNear; rw [E3, ← HL8.out]; exact HL3.out
            · unfold RawD.podApart; rw [E3, ← HL9.out]; exact HL4.out
            · have z3 := hb3.size
              refine ⟨hb12.trans ((hb3.mono (by omega)).trans (K.below (by omega) fun i hi e => by omega)), fun x hx q hq => ?_⟩
              simp only [PodD.lists, List.mem_cons, List.not_mem_nil, or_false] at hx
              rcases hx with rfl | rfl | rfl | rfl | rfl
              · have := (n0 q hq).1; omega
              · have := (n1 q hq).1; omega
              · have := (n2 q hq).1; omega
              · have := (n3 q hq).1; omega
              · have := (n4 q hq).1; omega

theorem kpod_val2 (r : RawD) (hr : r.ok) (w : World) : Calls Try.prog 29 #[.agg r.cells] w fun e w' => ∃ p : PodD, e = .returned (.agg p.cells) ∧ p.ok w' ∧ p.name = r.podName ∧ p.val = r.podV ∧ Below w.heap.size w w' ∧ ∀ x ∈ p.lists, ∀ q, x.a = some q → w.heap.size ≤ q.block := by
  refine (kpod_new r hr w).mono ?_
  rintro e w' ⟨p, he, ok, h1, h2, h3, h4, h5, h6, h7, h8, h9, h10, hb, hn⟩
  refine ⟨p, he, ok, h1, ?_, hb, hn⟩
  unfold PodD.val RawD.podV
  rw [h2, h3, h4, h5, h6, h7, h8, h9, h10]

end Go.Proofs.Ytchddaafibjmgaa
