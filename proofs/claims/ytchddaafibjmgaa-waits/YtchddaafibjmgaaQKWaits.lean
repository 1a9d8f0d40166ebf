/-
  Waits, walked: what waits is scheduled in its order, as if it had not waited.
-/
import Derived.Test.YtchddaafibjmgaaQA25
import Derived.Test.YtchddaafibjmgaaQA23
import Derived.Deep.CutRange
import Derived.Deep.CutBlock
namespace Go.Proofs.Ytchddaafibjmgaa
open Go.RowKit Go.Maps

theorem field_wait (n : Int) (v1 v2 : Value) (k : Int) (W : World) : (Instr.field 67 (.agg #[.int .i64 n, v1, v2, .int .i64 k]) 3).run Try.prog W = .ok (.int .i64 k) W := by kernel_rfl

set_option maxRecDepth 100000 in
set_option maxHeartbeats 8000000 in
theorem waits_any (hold : Int) (N L : List RawD) (C : List Int) (aN aL aC : Option Addr) (cN cL cC : Nat) (w : World) (hh : i64 hold) (hlN : N.length ≤ 4398046511104) (hlL : L.length ≤ 4398046511104) (hlC : C.length ≤ 1000000000000000000) (hN : RawsAt w aN N) (hL : RawsAt w aL L) (hC : IntsAt w aC C) :
    Calls Try.prog 9 #[.int .i64 hold, .slice aN N.length cN, .slice aL L.length cL, .slice aC C.length cC] w fun e w' => e = .returned (.bool true) ∧ Below w.heap.size w w' := by
  have cM := fun (rem : Bool) W (hb : Below w.heap.size w W) => made_any hold rem false N aN cN W hh hlN (hN.below hb)
  have cV := lives_any w
  clear hN
  go_enter Try.func9, Try.ntmps9
  go_upto_region 7 with (first
    | (go_at_call 22; refine (cM false _ hb2).mono ?_; rintro e w3 ⟨Y1, F1, rfl, B1, f1, hb3'⟩; have hb3 := below_trans hb2 hb3')
    | (go_at_call 22; refine (cM true _ hb1).mono ?_; rintro e w2 ⟨Y0, F0, rfl, B0, f0, hb2'⟩; have hb2 := below_trans hb1 hb2')
    | (go_at_call 21; refine cV.mono ?_; rintro e w1 ⟨rfl, hb1⟩))
  have HD : Hid (Duo w w3 Y0 Y1 F0 F1 { madeA hold N with W := (L.take 0).map RawD.wait } (madeA hold N)) := by
    have e : ({ madeA hold N with W := (L.take 0).map RawD.wait } : Abs) = madeA hold N := by
      have : (madeA hold N).W = [] := made_W hold N
      rw [List.take_zero, List.map_nil, ← this]
    rw [e]
    exact ⟨B0.below hb3', B1, fun x h0 h1 => by have := B0.lt x h0; have := f1 x h1; omega, fun x h => Nat.le_trans hb1.size (f0 x h), fun x h => Nat.le_trans hb2.size (f1 x h), hb3⟩
  clear cM cV B0 B1 f0 f1 hb1 hb2 hb3 hb2' hb3'
  have HW0 : Hid ((madeA hold N).W = []) := made_W hold N
  generalize madeA hold N = a0 at *
  go_upto_block 0 with fail
  go_cut [12] from 13 to 58 (fun nv wx => ∃ (m : Nat) (Fa Fb : Nat → Prop), m ≤ L.length ∧ m ≤ 128 ∧ nv = .int .i64 m ∧ Duo w wx Y0 Y1 Fa Fb { a0 with W := (L.take m).map RawD.wait } a0)
  case first =>
    go_wp2
    go_loopw [12, 13] (fun nv i wr => ∃ (k : Nat) (Fa Fb : Nat → Prop), k ≤ L.length ∧ k ≤ 128 ∧ nv = .int .i64 k ∧ i = .int .i64 k ∧ Duo w wr Y0 Y1 Fa Fb { a0 with W := (L.take k).map RawD.wait } a0) (fun _ i _ => 128 - (intOf i).toNat)
    case atStart => exact ⟨0, F0, F1, Nat.zero_le _, Nat.zero_le _, rfl, rfl, HD.out⟩
    case round =>
      clear HD
      obtain ⟨k, Fa, Fb, hk, hk2, rfl, rfl, D⟩ := hrel
      have HDu : Hid _ := D
      by_cases hlt : k < L.length
      · by_cases h128 : k < 128
        · obtain ⟨sb, off, rfl, hbl, hok, s0, s1, s2, s3, s4, s5⟩ := (hL.below D.below) k hlt
          have HQ : Hid (({ a0 with W := (L.take k).map RawD.wait } : Abs).queue L[k].podName L[k].podV = { a0 with W := (L.take (k + 1)).map RawD.wait } ∧ ({ a0 with W := (L.take k).map RawD.wait } : Abs).queueErr L[k].podName L[k].podV = 0) := by
            have hl : (L.take k).length < 128 := by rw [List.length_take]; omega
            refine ⟨?_, queueErr_raw _ _ (by simpa using hl)⟩
            rw [queue_raw _ _ _ hl, ← List.take_succ_eq_append_getElem hlt]
          generalize L[k] = r at *
          have cN := kpod_val r hok wr
          unfold RawD.cells at cN
          clear D
          go_wp2_with (first
            | (go_at_call 29; refine cN.mono ?_; rintro e w2 ⟨p, rfl, okp, hpn, hpv, hb2⟩; have D2 := HDu.out.onward hb2; have cQ := spec_queue D2.A p okp; rw [hpn, hpv, HQ.out.1, HQ.out.2] at cQ; have HD2 : Hid _ := D2; clear D2 hpn hpv)
            | (go_at_call 34; refine cQ.mono ?_; rintro e w3 ⟨F3, rfl, L3⟩))
          go_roundw
          case rel => exact ⟨k + 1, F3, Fb, by omega, by omega, by go_num, by go_num, HD2.out.stepA L3⟩
          case measure => simp [intOf]; omega
        · have hk8 : k = 128 := by omega
          clear D
          go_wp2
          go_meet
          exact ⟨k, Fa, Fb, hk, hk2, by rw [hk8]; rfl, HDu.out⟩
      · clear D
        go_wp2
        go_meet
        exact ⟨k, Fa, Fb, hk, hk2, rfl, HDu.out⟩
  case rest =>
    clear HD
    obtain ⟨m, Fa, Fb, hm, hm2, rfl, D⟩ := hcut
    obtain ⟨M, hM⟩ : ∃ M, M = L.take m := ⟨_, rfl⟩
    have HM : Hid (M = L.take m) := hM
    have hMl : M.length = m := by rw [hM, List.length_take]; omega
    have HMl : Hid (M.length = m) := hMl
    rw [← hM] at D
    have HD : Hid (Duo w wc Y0 Y1 Fa Fb { (runS a0 (M.take 0)).2 with W := (M.drop 0).map RawD.wait } (runS a0 (M.take 0)).2) := D
    clear hM hMl D
    go_upto_block 2 with fail
    go_cut [15] from 16 to 125 (fun at' wx => at' = .int .i64 m ∧ ∃ (Fa Fb : Nat → Prop), Duo w wx Y0 Y1 Fa Fb (runS a0 M).2 (runS a0 M).2)
    case first =>
      go_wp2
      go_loopw [15, 16] (fun at' i wr => ∃ (t j : Nat) (Fa Fb : Nat → Prop), t ≤ m ∧ j ≤ C.length + 1 ∧ at' = .int .i64 t ∧ i = .int .i64 j ∧ (j = C.length + 1 → t = m) ∧ Duo w wr Y0 Y1 Fa Fb { (runS a0 (M.take t)).2 with W := (M.drop t).map RawD.wait } (runS a0 (M.take t)).2) (fun _ i _ => C.length + 1 - (intOf i).toNat)
      case atStart => exact ⟨0, 0, Fa, Fb, Nat.zero_le _, Nat.zero_le _, rfl, rfl, fun h => by omega, HD.out⟩
      case round =>
        clear HD
        obtain ⟨t, j, Fa, Fb, ht, hj, rfl, rfl, hlast, D⟩ := hrel
        have HDu : Hid _ := D
        have HLast : Hid (j = C.length + 1 → t = m) := hlast
        clear hlast
        by_cases hle : j ≤ C.length
        · clear D
          go_upto_if 69 with fail
          go_cut [17] from 59 to 125 (fun kv wx => ∃ kk : Nat, kv = .int .i64 kk ∧ kk ≤ 128 ∧ (j = C.length → kk = m) ∧ wx = wr)
          case first =>
            by_cases hjl : j < C.length
            · obtain ⟨cb, coff, rfl, hcl, hci, hcc⟩ := (hC.below HDu.out.below) j hjl
              have cK := pick_any C[j] 6 wr (by omega) (by omega) hci.1 hci.2
              have hpk := pickI_bound C[j] (n := 6) (by omega)
              generalize C[j] = cj at *
              obtain ⟨kk, hkk⟩ : ∃ kk : Nat, pickI cj 6 = (kk : Int) := ⟨(pickI cj 6).toNat, by omega⟩
              rw [hkk] at cK hpk
              go_wp2_with (go_at_call 28; refine cK.mono ?_; rintro e wq ⟨rfl, hq⟩; have hq := hq.symm; subst hq)
              go_meet
              exact ⟨kk, rfl, by omega, fun h => by omega, rfl⟩
            · go_wp2
              go_meet
              exact ⟨m, rfl, hm2, fun _ => rfl, rfl⟩
          case rest =>
            obtain ⟨kk, rfl, hkk, hkm, rfl⟩ := hcut
            have HKm : Hid (j = C.length → kk = m) := hkm
            clear hkm
            have cD := spec_drain HDu.out.A (kk : Int) ⟨by omega, by omega⟩
            rw [Int.toNat_natCast, drain_run] at cD
            dsimp only at cD
            obtain ⟨bT, hbT⟩ : ∃ b, b = (runS a0 (M.take t)).2 := ⟨_, rfl⟩
            have HbT : Hid (bT = (runS a0 (M.take t)).2) := hbT
            have D := HDu.out
            rw [← hbT] at cD D
            obtain ⟨Q, hQ⟩ : ∃ Q, Q = (M.drop t).take kk := ⟨_, rfl⟩
            have HQ : Hid (Q = (M.drop t).take kk) := hQ
            have hQl : Q.length = min kk (m - t) := by rw [hQ, List.length_take, List.length_drop, HMl.out]
            have HQl : Hid (Q.length = min kk (m - t)) := hQl
            rw [← hQ] at cD
            obtain ⟨A1, hA1⟩ : ∃ A, A = ({ (runS bT Q).2 with W := ((M.drop t).drop kk).map RawD.wait } : Abs) := ⟨_, rfl⟩
            have HA1 : Hid (A1 = ({ (runS bT Q).2 with W := ((M.drop t).drop kk).map RawD.wait } : Abs)) := hA1
            rw [← hA1] at cD
            have HD3 : Hid (Duo w wc Y0 Y1 Fa Fb { bT with W := (M.drop t).map RawD.wait } bT) := D
            have hn1 : Q.length ≤ kk ∧ Q.length + t ≤ m ∧ (Q.length = kk ∨ Q.length + t = m) := by omega
            clear hA1 hbT hQ hQl HDu D
            go_upto_region 22 with (go_at_call 35; refine cD.mono ?_; rintro e w5 ⟨F5, l, oo, oc, rfl, hl, L5, R5⟩; have hlq : l.length = Q.length := (by have := congrArg List.length hl; rw [List.length_map, runS_length] at this; exact this); have HLR : Hid (l.map (·.1) = (runS bT Q).1) := hl; have HR5 : Hid (RepsAt (fun x => F5 x ∨ Fb x) w w5 l (.slice oo l.length oc)) := RepsAt.duo HD3.out R5; have HD5 : Hid (Duo w w5 Y0 Y1 F5 Fb A1 bT) := HD3.out.stepA L5; have HLq : Hid (l.length = Q.length) := hlq; rw [hlq] at HR5 ⊢; clear hl L5 R5 hlq)
            go_cut [103] from 59 to 125 (fun c wx => c = .bool false ∧ wx = w5)
            case first =>
              have e1 : decide (kk < Q.length) = false := decide_eq_false (by omega)
              have e2 : decide ((m : Int) - (t : Int) < (Q.length : Int)) = false := decide_eq_false (by omega)
              by_cases n4 : Q.length < kk
              · have e3 : decide ((Q.length : Int) < (m : Int) - (t : Int)) = false := decide_eq_false (by omega)
                clear hn1
                go_wp2
                go_meet
                exact ⟨rfl, rfl⟩
              · clear hn1
                go_wp2
                go_meet
                exact ⟨rfl, rfl⟩
            case rest =>
              obtain ⟨rfl, rfl⟩ := hcut
              clear cD HD3
              go_wp2
              go_loopw [15, 19] (fun at' jj wr => ∃ (q tq : Nat) (Fb' : Nat → Prop), tq = t + q ∧ q ≤ Q.length ∧ at' = .int .i64 tq ∧ jj = .int .i64 q ∧ Duo w wr Y0 Y1 F5 Fb' A1 (runS bT (Q.take q)).2 ∧ RepsAt (fun x => F5 x ∨ Fb' x) w wr l (.slice oo Q.length oc)) (fun _ jj _ => Q.length - (intOf jj).toNat)
              case atStart => exact ⟨0, t, Fb, rfl, Nat.zero_le _, rfl, rfl, HD5.out, HR5.out⟩
              case round =>
                clear HD5 HR5
                obtain ⟨q, tq, Fb', htq, hq, rfl, rfl, D, R⟩ := hrel
                have HD6 : Hid _ := D
                have HR6 : Hid _ := R
                have HTQ : Hid (tq = t + q) := htq
                by_cases hlt : q < Q.length
                · have hll := HLq.out
                  have htL : tq < L.length := by omega
                  have htm : tq + 1 ≤ m := by omega
                  obtain ⟨sb, off, rfl, hbl, hok, s0, s1, s2, s3, s4, s5⟩ := (hL.below (D.onward (Below.refl wr.heap.size wr).drew).below) tq htL
                  obtain ⟨g, rfl, hg, hgF, hgw, x0, x1, x2, x3, x4⟩ := (R.onward (Below.refl wr.heap.size wr).drew).at (k := q) (by omega)
                  have hx : l[q] ∈ l := List.getElem_mem _
                  have hQq : Q[q] = L[tq] := by
                    have h1 : Q[q]? = some L[tq] := by
                      rw [HQ.out, HM.out, List.getElem?_take, if_pos (by omega), List.getElem?_drop, List.getElem?_take, if_pos (by omega), ← htq, List.getElem?_eq_getElem htL]
                    rw [List.getElem?_eq_getElem hlt] at h1
                    exact Option.some.inj h1
                  have hrep : l[q].1 = ((runS bT (Q.take q)).2.sched L[tq].podName L[tq].podV).1 := by
                    have h1 := runS_get bT Q hlt
                    rw [← HLR.out, List.getElem?_map, List.getElem?_eq_getElem (by omega), hQq] at h1
                    exact Option.some.inj h1
                  have hnext : (runS bT (Q.take (q + 1))).2 = ((runS bT (Q.take q)).2.sched L[tq].podName L[tq].podV).2 := by
                    rw [runS_succ bT Q hlt, hQq]
                  have HNext : Hid _ := hnext
                  have hNl := D.B.fine.nn
                  have hrl := sched_len _ L[tq].podName L[tq].podV hNl
                  have HRsn : Hid (∀ W F, RepsAt F w W l (.slice (some ⟨g, 0, none⟩) Q.length oc) → W.ownsRow 0 103 2 (.slice l[q].2.1 l[q].1.reasons.length l[q].2.2) l[q].1.reasons.length (l[q].1.reasons.flatMap rsnRow)) := fun W F R => R.rsn _ hx
                  clear hnext hQq hx D R hNl htq
                  generalize L[tq] = r at *
                  generalize l[q] = x at *
                  obtain ⟨rx, o1, k1⟩ := x
                  dsimp only at hrep x0 x1 x2 x3 x4 HRsn
                  generalize (runS bT (Q.take q)).2 = bq at *
                  obtain ⟨an, hra⟩ : ∃ an, bq.sched r.podName r.podV = (rx, an) := ⟨(bq.sched r.podName r.podV).2, by rw [hrep]⟩
                  have HRA : Hid (bq.sched r.podName r.podV = (rx, an)) := hra
                  rw [hra] at hrl HNext
                  dsimp only at hrl HNext
                  clear hra hrep
                  have hgA : ¬ Fb' g := fun h => hgF (.inr h)
                  go_upto_region 27 with fail
                  go_cut [20] from 104 to 125 (fun s wx => s = .bool true ∧ ∃ Fb3 : Nat → Prop, Duo w wx Y0 Y1 F5 Fb3 A1 an ∧ RepsAt (fun x => F5 x ∨ Fb3 x) w wx l (.slice (some ⟨g, 0, none⟩) Q.length oc))
                  case first =>
                    have D := HD6.out.onward (Below.refl wr.heap.size wr).drew
                    have R := HR6.out.onward (Below.refl wr.heap.size wr).drew
                    have HDd : Hid _ := D
                    have HRd : Hid _ := R
                    have cN := kpod_val r hok wr.drew
                    unfold RawD.cells at cN
                    clear D R
                    go_region_with (first
                      | (go_at_call 29; refine cN.mono ?_; rintro e w6 ⟨p, rfl, okp, hpn, hpv, hb6⟩; have D6 := HDd.out.onward hb6; have HD7 : Hid _ := D6; have cSc := spec_sched D6.B p okp; rw [hpn, hpv, HRA.out] at cSc; dsimp only at cSc; unfold repV PodD.cells Lst.val at cSc; have lg6 : g < w6.heap.size := Nat.lt_of_lt_of_le hg hb6.size; have y0 := (hb6.cell (p := ⟨g, q * 5, none⟩) hg).trans x0; have y1 := (hb6.cell (p := ⟨g, q * 5 + 1, none⟩) hg).trans x1; have y2 := (hb6.cell (p := ⟨g, q * 5 + 2, none⟩) hg).trans x2; have y3 := (hb6.cell (p := ⟨g, q * 5 + 3, none⟩) hg).trans x3; have y4 := (hb6.cell (p := ⟨g, q * 5 + 4, none⟩) hg).trans x4; have HR7 : Hid _ := HRd.out.onward hb6; clear D6 hpn hpv okp)
                      | (go_at_call 33; refine cSc.mono ?_; rintro e w7 ⟨F7, o2, k2, rfl, L7, R7⟩; have z0 := (L7.kept.cell (p := ⟨g, q * 5, none⟩) lg6 hgA).trans y0; have z1 := (L7.kept.cell (p := ⟨g, q * 5 + 1, none⟩) lg6 hgA).trans y1; have z2 := (L7.kept.cell (p := ⟨g, q * 5 + 2, none⟩) lg6 hgA).trans y2; have z3 := (L7.kept.cell (p := ⟨g, q * 5 + 3, none⟩) lg6 hgA).trans y3; have z4 := (L7.kept.cell (p := ⟨g, q * 5 + 4, none⟩) lg6 hgA).trans y4; have HD8 : Hid (Duo w w7 Y0 Y1 F5 F7 A1 an) := HD7.out.stepB L7; have HR8 : Hid (RepsAt (fun x => F5 x ∨ F7 x) w w7 l (.slice (some ⟨g, 0, none⟩) Q.length oc)) := HR7.out.stepB L7; have cE := sameReply_any rx w7 o1 o2 k1 k2 hrl (HRsn.out _ _ HR8.out) R7.rsn; unfold repV at cE; clear L7 R7)
                      | (go_at_call 24; refine cE.mono ?_; rintro e w8 ⟨rfl, hb8⟩))
                    all_goals go_wp2
                    all_goals go_meet
                    all_goals exact ⟨rfl, F7, HD8.out.onward hb8, HR8.out.onward hb8⟩
                  case rest =>
                    obtain ⟨rfl, Fb3, D, R⟩ := hcut
                    have HD9 : Hid _ := D
                    have HR9 : Hid _ := R
                    clear D R s0 s1 s2 s3 s4 s5 x0 x1 x2 x3 x4
                    go_wp2
                    go_roundw
                    case rel => exact ⟨q + 1, tq + 1, Fb3, by have := HTQ.out; omega, by omega, by go_num, by go_num, by rw [HNext.out]; exact HD9.out, HR9.out⟩
                    case measure => simp [intOf]; omega
                · have hqe : q = Q.length := by omega
                  have htm : tq ≤ m := by omega
                  clear D R htq
                  go_wp2
                  go_roundw
                  case rel =>
                    refine ⟨tq, j + 1, F5, Fb', htm, by omega, rfl, by go_num, fun h => ?_, ?_⟩
                    · have h1 := HKm.out (by omega)
                      have h2 := HQl.out
                      have h3 := HTQ.out
                      omega
                    · obtain ⟨d1, d2, d3⟩ := drained M t kk Q.length (by rw [HMl.out]; exact HQl.out)
                      have htq2 : tq = t + Q.length := by rw [HTQ.out, hqe]
                      have hb : (runS bT Q).2 = (runS a0 (M.take tq)).2 := by
                        rw [htq2, d3, runS_append, ← d1, ← HQ.out, ← HbT.out]
                      have D := HD6.out
                      rw [HA1.out, hqe, List.take_length, hb, d2, ← htq2] at D
                      exact D
                  case measure => simp [intOf]; omega
        · have hjc : j = C.length + 1 := by omega
          clear D
          go_wp2
          go_meet
          have htm := HLast.out hjc
          refine ⟨by rw [htm], Fa, Fb, ?_⟩
          have D := HDu.out
          rw [htm, ← HMl.out, List.take_length, List.drop_length, List.map_nil] at D
          have e : ({ (runS a0 M).2 with W := [] } : Abs) = (runS a0 M).2 := by
            have := runS_W M a0
            rw [HW0.out] at this
            conv => lhs; rw [← this]
          rw [e] at D
          exact D
    case rest =>
      clear HD
      obtain ⟨rfl, Fa, Fb, D⟩ := hcut
      have hEn := D.A.fine.nn
      have hEp := D.A.fine.np
      have hEw : (((runS a0 M).2.W.length : Nat) : Int) = 0 := by rw [runS_W, HW0.out]; rfl
      generalize (runS a0 M).2 = aE at *
      have HEw : Hid (((aE.W.length : Nat) : Int) = 0) := hEw
      have HDu : Hid _ := D
      have cS1 := spec_state D.A
      have cA := fun W (hb : Below wc.heap.size wc W) => spec_state (D.A.below hb)
      have cB := fun W (hb : Below wc.heap.size wc W) => spec_state (D.B.below hb)
      unfold stV at cS1 cA cB
      rw [hEw] at cS1 cA cB
      clear D hEw
      have hfw := field_wait
      go_wp2_with (first
        | (go_at_call_of 25 (Value.pointer (some ⟨Y1, 0, none⟩)); refine (cB _ hc3).mono ?_; rintro e w6 ⟨d1, e1, d2, e2, rfl, S3, hb6⟩; have hc4 := below_trans hc3 hb6; have S2' := S2.onward hb6; have cE := sameState_any aE w6 p1 d1 p2 d2 q1 e1 q2 e2 (by omega) (by omega) S2'.us S3.us S2'.ls S3.ls; unfold stV at cE; rw [HEw.out] at cE; clear S2' S3 S2)
        | (go_at_call_of 25 (Value.pointer (some ⟨Y0, 0, none⟩)); refine (cA _ hc2).mono ?_; rintro e w5 ⟨p1, q1, p2, q2, rfl, S2, hb5⟩; have hc3 := below_trans hc2 hb5)
        | (go_at_call_of 25 (Value.pointer (some ⟨Y0, 0, none⟩)); refine cS1.mono ?_; rintro e w4 ⟨a1, c1, a2, c2, rfl, -, hc2⟩)
        | (go_at_call 26; refine cE.mono ?_; rintro e w7 ⟨rfl, hb7⟩))
      go_ret
      exact ⟨rfl, HDu.out.below.trans ((below_trans hc4 hb7).mono HDu.out.below.size)⟩

end Go.Proofs.Ytchddaafibjmgaa
