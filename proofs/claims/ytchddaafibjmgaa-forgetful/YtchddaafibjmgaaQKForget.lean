/-
  Forgetful, walked: four Berths that are the same but for what they remember answer the same.
-/
import Derived.Test.YtchddaafibjmgaaQK8
import Derived.Deep.CutRange
namespace Go.Proofs.Ytchddaafibjmgaa
open Go.RowKit Go.Maps

def four {α : Type} (x0 x1 x2 x3 : α) : Fin 4 → α
  | 0 => x0
  | 1 => x1
  | 2 => x2
  | 3 => x3

theorem four_apart {w2 w3 w4 w5 : World} {F0 F1 F2 F3 : Nat → Prop} (z3 : w2.heap.size ≤ w3.heap.size) (z4 : w3.heap.size ≤ w4.heap.size) (f0 : ∀ b, F0 b → b < w2.heap.size) (f1 : ∀ b, F1 b → w2.heap.size ≤ b ∧ b < w3.heap.size) (f2 : ∀ b, F2 b → w3.heap.size ≤ b ∧ b < w4.heap.size) (f3 : ∀ b, F3 b → w4.heap.size ≤ b ∧ b < w5.heap.size) :
    ∀ i j, i ≠ j → ∀ b, four F0 F1 F2 F3 i b → ¬ four F0 F1 F2 F3 j b := by
  intro i j hij b hi hj
  have g : ∀ k, four F0 F1 F2 F3 k b → (k = 0 ∧ b < w2.heap.size) ∨ (k = 1 ∧ w2.heap.size ≤ b ∧ b < w3.heap.size) ∨ (k = 2 ∧ w3.heap.size ≤ b ∧ b < w4.heap.size) ∨ (k = 3 ∧ w4.heap.size ≤ b) := by
    intro k hk
    match k, hk with
    | 0, hk => exact .inl ⟨rfl, f0 b hk⟩
    | 1, hk => exact .inr (.inl ⟨rfl, f1 b hk⟩)
    | 2, hk => exact .inr (.inr (.inl ⟨rfl, f2 b hk⟩))
    | 3, hk => exact .inr (.inr (.inr ⟨rfl, (f3 b hk).1⟩))
  rcases g i hi with ⟨e, h⟩ | ⟨e, h⟩ | ⟨e, h⟩ | ⟨e, h⟩ <;> rcases g j hj with ⟨e', h'⟩ | ⟨e', h'⟩ | ⟨e', h'⟩ | ⟨e', h'⟩ <;> first | exact hij (e.trans e'.symm) | omega

theorem upd_four (a b : Abs) : upd (upd (upd (upd (fun _ : Fin 4 => a) 0 b) 1 b) 2 b) 3 b = fun _ => b := by
  funext i
  match i with
  | 0 => rfl
  | 1 => rfl
  | 2 => rfl
  | 3 => rfl

set_option maxRecDepth 100000 in
set_option maxHeartbeats 8000000 in
theorem forgetful_any (hold : Int) (N S : List RawD) (aN aS : Option Addr) (cN cS : Nat) (w : World) (hh : i64 hold) (hlN : N.length ≤ 4398046511104) (hlS : S.length ≤ 4398046511104) (hN : RawsAt w aN N) (hS : RawsAt w aS S) :
    Calls Try.prog 5 #[.int .i64 hold, .slice aN N.length cN, .slice aS S.length cS] w fun e w' => e = .returned (.bool true) ∧ Below w.heap.size w w' := by
  have cM := fun (rem whole : Bool) W (hb : Below w.heap.size w W) => made_any hold rem whole N aN cN W hh hlN (hN.below hb)
  have cV := lives_any w
  clear hN
  go_enter Try.func5, Try.ntmps5
  go_wp2_with (first
    | (go_at_call 22; refine (cM false false _ hb4).mono ?_; rintro e w5 ⟨Y3, F3, rfl, B3, f3, hb5'⟩; have hb5 := below_trans hb4 hb5')
    | (go_at_call 22; refine (cM true true _ hb3).mono ?_; rintro e w4 ⟨Y2, F2, rfl, B2, f2, hb4'⟩; have hb4 := below_trans hb3 hb4')
    | (go_at_call 22; refine (cM true false _ hb2).mono ?_; rintro e w3 ⟨Y1, F1, rfl, B1, f1, hb3'⟩; have hb3 := below_trans hb2 hb3')
    | (go_at_call 22; refine (cM false true _ hb1).mono ?_; rintro e w2 ⟨Y0, F0, rfl, B0, f0, hb2'⟩; have hb2 := below_trans hb1 hb2')
    | (go_at_call 21; refine cV.mono ?_; rintro e w1 ⟨rfl, hb1⟩))
  have g0 := B0.lt
  have g1 := B1.lt
  have g2 := B2.lt
  have g3 := B3.lt
  have HH : Hid (∃ F, Herd w5 (four Y0 Y1 Y2 Y3) F (fun _ : Fin 4 => runA (madeA hold N) (S.take 0)) ∧ ∀ i b, F i b → w.heap.size ≤ b) := by
    refine ⟨four F0 F1 F2 F3, ⟨fun i => ?_, four_apart (w5 := w5) hb3'.size hb4'.size g0 (fun b h => ⟨f1 b h, g1 b h⟩) (fun b h => ⟨f2 b h, g2 b h⟩) (fun b h => ⟨f3 b h, g3 b h⟩)⟩, fun i b h => ?_⟩
    · match i with
      | 0 => exact ((B0.below hb3').below hb4').below hb5'
      | 1 => exact (B1.below hb4').below hb5'
      | 2 => exact B2.below hb5'
      | 3 => exact B3
    · have s1 := hb1.size
      have s2 := hb2.size
      have s3 := hb3.size
      have s4 := hb4.size
      match i, h with
      | 0, h => exact Nat.le_trans s1 (f0 b h)
      | 1, h => exact Nat.le_trans s2 (f1 b h)
      | 2, h => exact Nat.le_trans s3 (f2 b h)
      | 3, h => exact Nat.le_trans s4 (f3 b h)
  have HB5 : Hid (Below w.heap.size w w5) := hb5
  clear cM cV B0 B1 B2 B3 f0 f1 f2 f3 g0 g1 g2 g3 hb1 hb2 hb3 hb4 hb5 hb2' hb3' hb4' hb5'
  generalize madeA hold N = a0 at *
  go_loopw [12] (fun i wr => ∃ k : Nat, k ≤ S.length ∧ i = .int .i64 k ∧ (∃ F, Herd wr (four Y0 Y1 Y2 Y3) F (fun _ : Fin 4 => runA a0 (S.take k)) ∧ ∀ i b, F i b → w.heap.size ≤ b) ∧ Below w.heap.size w wr) (fun i _ => S.length - (intOf i).toNat)
  case atStart => exact ⟨0, Nat.zero_le _, rfl, HH.out, HB5.out⟩
  case round =>
    clear HH HB5
    obtain ⟨k, hk, rfl, ⟨F, hH, hF⟩, hbw⟩ := hrel
    by_cases hlt : k < S.length
    · obtain ⟨sb, off, rfl, hbl, hok, s0, s1, s2, s3, s4, s5⟩ := (hS.below hbw) k hlt
      have HRs : Hid (RawsAt w (some ⟨sb, off, none⟩) S) := hS
      have HNx : Hid (runA a0 (S.take (k + 1)) = (S[k].happen (runA a0 (S.take k))).2) := runA_succ _ _ hlt
      have HK : Hid (∀ W, Below w.heap.size w W → W.cell? ⟨sb, off + k * 6, none⟩ = some (.int .i64 S[k].kind) ∧ W.cell? ⟨sb, off + k * 6 + 1, none⟩ = some (.int .i64 S[k].name) ∧ W.cell? ⟨sb, off + k * 6 + 2, none⟩ = some (.int .i64 S[k].node) ∧ W.cell? ⟨sb, off + k * 6 + 3, none⟩ = some (.int .i64 S[k].needs) ∧ W.cell? ⟨sb, off + k * 6 + 4, none⟩ = some (.int .i64 S[k].flags) ∧ W.cell? ⟨sb, off + k * 6 + 5, none⟩ = some (.int .i64 S[k].links)) := fun W hW => by
        obtain ⟨b', off', e', _, _, q0, q1, q2, q3, q4, q5⟩ := (hS.below hW) k hlt
        simp only [Option.some.injEq, Addr.mk.injEq, and_true] at e'
        obtain ⟨rfl, rfl⟩ := e'
        exact ⟨q0, q1, q2, q3, q4, q5⟩
      have hnl := (hH.st 0).fine.nn
      generalize S[k] = r at *
      generalize runA a0 (S.take k) = ak at *
      have hrl := happen_len r ak hnl
      have cA := happens_any (hH.st 0) r hok
      have cH := fun {G : Nat → Prop} {W : World} {Z : Nat} (B : BSt G W Z ak) => happens_any B r hok
      have HHd : Hid (Herd wr (four Y0 Y1 Y2 Y3) F (fun _ : Fin 4 => ak)) := hH
      have HF : Hid (∀ i b, F i b → w.heap.size ≤ b) := hF
      clear hS hH hF
      obtain ⟨rp, an, hra⟩ : ∃ rp an, r.happen ak = (rp, an) := ⟨_, _, rfl⟩
      rw [hra] at cA HNx hrl
      have HRA : Hid (r.happen ak = (rp, an)) := hra
      clear hra
      dsimp only at cA hrl
      unfold repV RawD.cells at cA
      go_upto_region 12 with (go_at_call 23; refine cA.mono ?_; rintro e w1 ⟨G, oo, oc, rfl, L1, R1⟩; have hb1 : Below wr.heap.size wr wr := Below.refl _ _)
      have BS : Beside w _ (four Y0 Y1 Y2 Y3) (upd (fun _ : Fin 4 => ak) 0 an) rp oo oc w1.heap.size := Beside.start HHd.out HF.out hbw 0 L1 R1
      unfold repCells at BS
      obtain ⟨wB, hwB⟩ : ∃ W, W = w1.alloc (.cells #[.int .i64 rp.err, .string (bs rp.node), .int .i64 rp.score, .slice oo rp.reasons.length oc, .int .i64 rp.fresh] 59) := ⟨_, rfl⟩
      rw [← hwB] at BS ⊢
      have HBS : Hid (Beside w wB (four Y0 Y1 Y2 Y3) (upd (fun _ : Fin 4 => ak) 0 an) rp oo oc w1.heap.size) := BS
      clear BS L1 R1 cA hwB HHd HF hb1 s0 s1 s2 s3 s4 s5
      generalize w1.heap.size = xb at *
      go_upto_region 12 with fail
      go_cut [14] from 55 to 94 (fun b wx => b = .bool true ∧ Beside w wx (four Y0 Y1 Y2 Y3) (upd (upd (fun _ : Fin 4 => ak) 0 an) 1 an) rp oo oc xb)
      case first =>
        have BS := HBS.out.onward (Below.refl wB.heap.size wB).drew
        obtain ⟨G, h1, h2, h3, h4⟩ := BS.herd
        have cB := cH (show BSt (G 1) wB.drew Y1 ak from h1.st 1)
        rw [HRA.out] at cB
        dsimp only at cB
        unfold repV RawD.cells at cB
        obtain ⟨s0, s1, s2, s3, s4, s5⟩ := HK.out wB.drew BS.below
        obtain ⟨x0, x1, x2, x3, x4, x5⟩ := repC BS.box
        skip
        have HB2 : Hid (∀ G' w2, Left (G 1) wB.drew Y1 an G' w2 → Beside w w2 (four Y0 Y1 Y2 Y3) (upd (upd (fun _ : Fin 4 => ak) 0 an) 1 an) rp oo oc xb) := fun G' w2 L => Beside.step h1 h2 h3 h4 BS.below BS.box BS.rsn 1 L
        have hbx := BS.below.size
        clear BS h1 h2 h3 h4
        go_region_with (first
          | (go_at_call 23; refine cB.mono ?_; rintro e w2 ⟨G', o2, k2, rfl, L2, R2⟩; have B2 := HB2.out G' w2 L2; obtain ⟨y0, y1, y2, y3, y4, y5⟩ := repC B2.box; have cS := sameReply_any rp w2 oo o2 oc k2 hrl B2.rsn R2.rsn; unfold repV at cS)
          | (go_at_call 24; refine cS.mono ?_; rintro e w3 ⟨rfl, hb3⟩; have B3 := B2.onward hb3))
        all_goals go_wp2
        all_goals go_meet
        all_goals exact ⟨rfl, B3⟩
      case rest =>
        clear HBS
        obtain ⟨rfl, BS⟩ := hcut
        have HBS : Hid (Beside w wc (four Y0 Y1 Y2 Y3) (upd (upd (fun _ : Fin 4 => ak) 0 an) 1 an) rp oo oc xb) := BS
        clear BS
        go_upto_region 13 with fail
        go_cut [15] from 55 to 94 (fun b wx => b = .bool true ∧ Beside w wx (four Y0 Y1 Y2 Y3) (upd (upd (upd (fun _ : Fin 4 => ak) 0 an) 1 an) 2 an) rp oo oc xb)
        case first =>
          have BS := HBS.out.onward (Below.refl wc.heap.size wc).drew
          obtain ⟨G, h1, h2, h3, h4⟩ := BS.herd
          have cB := cH (show BSt (G 2) wc.drew Y2 ak from h1.st 2)
          rw [HRA.out] at cB
          dsimp only at cB
          unfold repV RawD.cells at cB
          obtain ⟨s0, s1, s2, s3, s4, s5⟩ := HK.out wc.drew BS.below
          obtain ⟨x0, x1, x2, x3, x4, x5⟩ := repC BS.box
          skip
          have HB2 : Hid (∀ G' w2, Left (G 2) wc.drew Y2 an G' w2 → Beside w w2 (four Y0 Y1 Y2 Y3) (upd (upd (upd (fun _ : Fin 4 => ak) 0 an) 1 an) 2 an) rp oo oc xb) := fun G' w2 L => Beside.step h1 h2 h3 h4 BS.below BS.box BS.rsn 2 L
          have hbx := BS.below.size
          clear BS h1 h2 h3 h4
          go_region_with (first
            | (go_at_call 23; refine cB.mono ?_; rintro e w2 ⟨G', o2, k2, rfl, L2, R2⟩; have B2 := HB2.out G' w2 L2; obtain ⟨y0, y1, y2, y3, y4, y5⟩ := repC B2.box; have cS := sameReply_any rp w2 oo o2 oc k2 hrl B2.rsn R2.rsn; unfold repV at cS)
            | (go_at_call 24; refine cS.mono ?_; rintro e w3 ⟨rfl, hb3⟩; have B3 := B2.onward hb3))
          all_goals go_wp2
          all_goals go_meet
          all_goals exact ⟨rfl, B3⟩
        case rest =>
          clear HBS
          obtain ⟨rfl, BS⟩ := hcut
          have HBS : Hid (Beside w wc (four Y0 Y1 Y2 Y3) (upd (upd (upd (fun _ : Fin 4 => ak) 0 an) 1 an) 2 an) rp oo oc xb) := BS
          clear BS
          go_upto_region 14 with fail
          go_cut [16] from 55 to 94 (fun b wx => b = .bool true ∧ Beside w wx (four Y0 Y1 Y2 Y3) (upd (upd (upd (upd (fun _ : Fin 4 => ak) 0 an) 1 an) 2 an) 3 an) rp oo oc xb)
          case first =>
            have BS := HBS.out.onward (Below.refl wc.heap.size wc).drew
            obtain ⟨G, h1, h2, h3, h4⟩ := BS.herd
            have cB := cH (show BSt (G 3) wc.drew Y3 ak from h1.st 3)
            rw [HRA.out] at cB
            dsimp only at cB
            unfold repV RawD.cells at cB
            obtain ⟨s0, s1, s2, s3, s4, s5⟩ := HK.out wc.drew BS.below
            obtain ⟨x0, x1, x2, x3, x4, x5⟩ := repC BS.box
            skip
            have HB2 : Hid (∀ G' w2, Left (G 3) wc.drew Y3 an G' w2 → Beside w w2 (four Y0 Y1 Y2 Y3) (upd (upd (upd (upd (fun _ : Fin 4 => ak) 0 an) 1 an) 2 an) 3 an) rp oo oc xb) := fun G' w2 L => Beside.step h1 h2 h3 h4 BS.below BS.box BS.rsn 3 L
            have hbx := BS.below.size
            clear BS h1 h2 h3 h4
            go_region_with (first
              | (go_at_call 23; refine cB.mono ?_; rintro e w2 ⟨G', o2, k2, rfl, L2, R2⟩; have B2 := HB2.out G' w2 L2; obtain ⟨y0, y1, y2, y3, y4, y5⟩ := repC B2.box; have cS := sameReply_any rp w2 oo o2 oc k2 hrl B2.rsn R2.rsn; unfold repV at cS)
              | (go_at_call 24; refine cS.mono ?_; rintro e w3 ⟨rfl, hb3⟩; have B3 := B2.onward hb3))
            all_goals go_wp2
            all_goals go_meet
            all_goals exact ⟨rfl, B3⟩
          case rest =>
            clear HBS
            obtain ⟨rfl, BS⟩ := hcut
            have HBS : Hid (Beside w wc (four Y0 Y1 Y2 Y3) (upd (upd (upd (upd (fun _ : Fin 4 => ak) 0 an) 1 an) 2 an) 3 an) rp oo oc xb) := BS
            clear BS
            obtain ⟨G, h1, h2, h3, h4⟩ := HBS.out.herd
            have hbf := HBS.out.below
            rw [upd_four] at h1
            go_wp2
            go_roundw
            case rel => exact ⟨k + 1, by omega, by go_num, ⟨G, by rw [HNx.out]; exact h1, h2⟩, hbf⟩
            case measure => simp [intOf]; omega
    · have hkn : k = S.length := by omega
      subst hkn
      have hH' := hH
      rw [List.take_length] at hH'
      generalize runA a0 S = af at *
      have hf := (hH'.st 0).fine
      have cT := spec_state (show BSt (F 0) wr Y0 af from hH'.st 0)
      have HHd : Hid (Herd wr (four Y0 Y1 Y2 Y3) F (fun _ : Fin 4 => af)) := hH'
      have hnl : af.N.length ≤ 1000 := by have := hf.nn; omega
      have hpl : af.P.length ≤ 1000 := by have := hf.np; omega
      have HCT : Hid (∀ (i : Fin 4) W, Below wr.heap.size wr W → Calls Try.prog 25 #[.pointer (some ⟨four Y0 Y1 Y2 Y3 i, 0, none⟩)] W fun e w' => ∃ a1 c1 a2 c2, e = .returned (stV af a1 c1 a2 c2) ∧ StAt W w' af a1 c1 a2 c2 ∧ Below W.heap.size W w') := fun i W hW => spec_state ((HHd.out.st i).below hW)
      clear hH hH' hF hS hf
      unfold stV at cT
      go_upto_region 18 with (go_at_call 25; refine cT.mono ?_; rintro e w1 ⟨a1, c1, a2, c2, rfl, S1, hb1⟩)
      obtain ⟨wB, hwB⟩ : ∃ W, W = w1.alloc (.cells #[.int .i64 af.now, .slice a1 af.N.length c1, .slice a2 af.P.length c2, .int .i64 af.W.length] 67) := ⟨_, rfl⟩
      have hbB : Below wr.heap.size wr wB.drew := by rw [hwB]; exact (below_trans hb1 (below_alloc _ _)).drew
      have SB : StAt wr wB.drew af a1 c1 a2 c2 := by rw [hwB]; exact S1.onward (below_alloc _ _).drew
      have xB : wB.drew.heap[w1.heap.size]? = some (.cells #[.int .i64 af.now, .slice a1 af.N.length c1, .slice a2 af.P.length c2, .int .i64 af.W.length] 67 (0, 0)) := by rw [hwB]; exact block_alloc_new _ _
      rw [← hwB]
      have HSB : Hid (StAt wr wB.drew af a1 c1 a2 c2) := SB
      clear SB S1 hwB cT
      obtain ⟨x0, x1, x2, x3⟩ := stC xB
      have lx := lt_of_block xB
      have c1' := HCT.out 1 wB.drew hbB
      unfold stV at c1'
      have SS0 := HSB.out
      clear HSB
      have HSB : Hid (StAt wr wB.drew af a1 c1 a2 c2) := SS0
      clear SS0
      go_region_with (first
        | (go_at_call_of 25 (Value.pointer (some ⟨Y1, 0, none⟩)); refine c1'.mono ?_; rintro e w2 ⟨o1, k1, p1, j1, rfl, T1, hb2⟩; have H2 : Hid _ := HSB.out.onward hb2; have cS1 := sameState_st hnl hpl H2.out T1; unfold stV at cS1; have bb2 := below_trans hbB hb2; have lx2 := Nat.lt_of_lt_of_le lx hb2.size; have y0 := (hb2.cell (p := ⟨w1.heap.size, 0, none⟩) lx).trans x0; have y1 := (hb2.cell (p := ⟨w1.heap.size, 1, none⟩) lx).trans x1; have y2 := (hb2.cell (p := ⟨w1.heap.size, 2, none⟩) lx).trans x2; have y3 := (hb2.cell (p := ⟨w1.heap.size, 3, none⟩) lx).trans x3)
        | (go_at_call 26; refine cS1.mono ?_; rintro e w3 ⟨rfl, hb3⟩; have H3 : Hid _ := H2.out.onward hb3; have bb3 := below_trans bb2 hb3; have c2' := HCT.out 2 w3 bb3; unfold stV at c2'; have lx3 := Nat.lt_of_lt_of_le lx2 hb3.size; have z0 := (hb3.cell (p := ⟨w1.heap.size, 0, none⟩) lx2).trans y0; have z1 := (hb3.cell (p := ⟨w1.heap.size, 1, none⟩) lx2).trans y1; have z2 := (hb3.cell (p := ⟨w1.heap.size, 2, none⟩) lx2).trans y2; have z3 := (hb3.cell (p := ⟨w1.heap.size, 3, none⟩) lx2).trans y3; clear cS1)
        | (go_at_call_of 25 (Value.pointer (some ⟨Y2, 0, none⟩)); refine c2'.mono ?_; rintro e w4 ⟨o2, k2, p2, j2, rfl, T2, hb4⟩; have H4 : Hid _ := H3.out.onward hb4; have cS2 := sameState_st hnl hpl H4.out T2; unfold stV at cS2; have bb4 := below_trans bb3 hb4; have lx4 := Nat.lt_of_lt_of_le lx3 hb4.size; have r0 := (hb4.cell (p := ⟨w1.heap.size, 0, none⟩) lx3).trans z0; have r1 := (hb4.cell (p := ⟨w1.heap.size, 1, none⟩) lx3).trans z1; have r2 := (hb4.cell (p := ⟨w1.heap.size, 2, none⟩) lx3).trans z2; have r3 := (hb4.cell (p := ⟨w1.heap.size, 3, none⟩) lx3).trans z3)
        | (go_at_call 26; refine cS2.mono ?_; rintro e w5' ⟨rfl, hb5⟩; have H5 : Hid _ := H4.out.onward hb5; have bb5 := below_trans bb4 hb5; have c3' := HCT.out 3 w5' bb5; unfold stV at c3'; have lx5 := Nat.lt_of_lt_of_le lx4 hb5.size; have t0 := (hb5.cell (p := ⟨w1.heap.size, 0, none⟩) lx4).trans r0; have t1 := (hb5.cell (p := ⟨w1.heap.size, 1, none⟩) lx4).trans r1; have t2 := (hb5.cell (p := ⟨w1.heap.size, 2, none⟩) lx4).trans r2; have t3 := (hb5.cell (p := ⟨w1.heap.size, 3, none⟩) lx4).trans r3; clear cS2)
        | (go_at_call_of 25 (Value.pointer (some ⟨Y3, 0, none⟩)); refine c3'.mono ?_; rintro e w6 ⟨o3, k3, p3, j3, rfl, T3, hb6⟩; have H6 : Hid _ := H5.out.onward hb6; have cS3 := sameState_st hnl hpl H6.out T3; unfold stV at cS3; have bb6 := below_trans bb5 hb6; have v0 := (hb6.cell (p := ⟨w1.heap.size, 0, none⟩) lx5).trans t0; have v1 := (hb6.cell (p := ⟨w1.heap.size, 1, none⟩) lx5).trans t1; have v2 := (hb6.cell (p := ⟨w1.heap.size, 2, none⟩) lx5).trans t2; have v3 := (hb6.cell (p := ⟨w1.heap.size, 3, none⟩) lx5).trans t3)
        | (go_at_call 26; refine cS3.mono ?_; rintro e w7 ⟨rfl, hb7⟩; have bb7 := below_trans bb6 hb7))
      all_goals go_wp2
      all_goals go_ret
      all_goals exact ⟨rfl, below_trans hbw bb7⟩

end Go.Proofs.Ytchddaafibjmgaa
