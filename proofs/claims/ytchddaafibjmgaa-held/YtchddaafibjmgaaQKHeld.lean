/-
  Held, walked: a pod that is held goes when its time is up, as if it had been dropped then.
-/
import Derived.Test.YtchddaafibjmgaaQHeldP
import Derived.Test.YtchddaafibjmgaaQA23
import Derived.Deep.RegionHeld3
import Derived.Deep.CutRange
import Derived.Deep.CutBlock
namespace Go.Proofs.Ytchddaafibjmgaa
open Go.RowKit Go.Maps

def two {α : Type} (x0 x1 : α) : Fin 2 → α
  | 0 => x0
  | 1 => x1

theorem upd_two (a b : Abs) : upd (upd (fun _ : Fin 2 => a) 0 b) 1 b = fun _ => b := by
  funext i
  match i with
  | 0 => rfl
  | 1 => rfl

theorem two_apart {w2 w3 : World} {F0 F1 : Nat → Prop} (f0 : ∀ b, F0 b → b < w2.heap.size) (f1 : ∀ b, F1 b → w2.heap.size ≤ b ∧ b < w3.heap.size) : ∀ i j, i ≠ j → ∀ b, two F0 F1 i b → ¬ two F0 F1 j b := by
  intro i j hij b hi hj
  match i, j, hij, hi, hj with
  | 0, 0, h, _, _ => exact h rfl
  | 1, 1, h, _, _ => exact h rfl
  | 0, 1, _, hi, hj => have := f0 b hi; have := (f1 b hj).1; omega
  | 1, 0, _, hi, hj => have := f0 b hj; have := (f1 b hi).1; omega

theorem Herd.kept {ι : Type} {w w' : World} {Y : ι → Nat} {F : ι → Nat → Prop} {A : ι → Abs} (H : Herd w Y F A) {G : Nat → Prop} (hk : Kept G w w') (hG : ∀ i b, F i b → ¬ G b) : Herd w' Y F A := ⟨fun i => (H.st i).kept hk (hG i), H.ap⟩

def RawD.zero (r : RawD) : RawD := { r with kind := 0 }
theorem zero_ok {r : RawD} (h : r.ok) : r.zero.ok := ⟨by show i64 0; unfold i64; omega, h.name, h.node, h.needs, h.flags, h.links⟩
theorem zero_happen (r : RawD) (a : Abs) : r.zero.happen a = a.sched r.podName r.podV := by
  have hk : r.zero.kindI = 0 := by show pickI 0 9 = 0; decide
  unfold RawD.happen
  rw [hk]
  rfl

/-- Berths since a world in which other things were laid beside them. -/
structure HLeft {ι : Type} (w0 : World) (F0 : ι → Nat → Prop) (Y : ι → Nat) (F : ι → Nat → Prop) (A : ι → Abs) (wx : World) : Prop where
  herd : Herd wx Y F A
  less : ∀ i b, F i b → (∃ j, F0 j b) ∨ w0.heap.size ≤ b
  kept : Kept (fun b => ∃ j, F0 j b) w0 wx

section
variable {ι : Type} {w0 wx wy : World} {F0 F : ι → Nat → Prop} {Y : ι → Nat} {A : ι → Abs}

theorem HLeft.refl (H : Herd w0 Y F0 A) : HLeft w0 F0 Y F0 A w0 := ⟨H, fun i _ h => .inl ⟨i, h⟩, Kept.refl _ _⟩

theorem HLeft.onward (H : HLeft w0 F0 Y F A wx) (hb : Below wx.heap.size wx wy) : HLeft w0 F0 Y F A wy :=
  ⟨H.herd.below hb, H.less, H.kept.trans (Kept.of_below (F := noBlock) hb) fun _ _ h => h.elim⟩

theorem HLeft.step [DecidableEq ι] (H : HLeft w0 F0 Y F A wx) (i : ι) {a : Abs} {F' : Nat → Prop} (L : Left (F i) wx (Y i) a F' wy) : HLeft w0 F0 Y (upd F i F') (upd A i a) wy := by
  refine ⟨H.herd.step i L, fun j b hb => ?_, H.kept.trans L.kept fun k hk h => ?_⟩
  · by_cases e : j = i
    · subst e
      rw [upd_self] at hb
      rcases L.less b hb with h | h
      · exact H.less j b h
      · exact .inr (Nat.le_trans H.kept.size h.1)
    · rw [upd_other _ _ e] at hb
      exact H.less j b hb
  · rcases H.less i k h with h | h
    · exact h
    · omega

theorem HLeft.blk (H : HLeft w0 F0 Y F A wx) {b : Nat} {X : Obj} (h : w0.heap[b]? = some X) (hn : ∀ j, ¬ F0 j b) : wx.heap[b]? = some X := by
  rw [H.kept.block b (Array.getElem?_eq_some_iff.1 h).1 fun ⟨j, hj⟩ => hn j hj]
  exact h

theorem HLeft.off (H : HLeft w0 F0 Y F A wx) {b : Nat} (hb : b < w0.heap.size) (hn : ∀ j, ¬ F0 j b) (i : ι) : ¬ F i b := fun h => by
  rcases H.less i b h with ⟨j, hj⟩ | h
  · exact hn j hj
  · omega

theorem HLeft.low (H : HLeft w0 F0 Y F A wx) {w : World} (hb : Below w.heap.size w w0) (hF : ∀ i b, F0 i b → w.heap.size ≤ b) : Below w.heap.size w wx :=
  hb.trans (H.kept.below hb.size fun i hi ⟨j, h⟩ => by have := hF j i h; omega)

theorem HLeft.lowF (H : HLeft w0 F0 Y F A wx) {w : World} (hb : Below w.heap.size w w0) (hF : ∀ i b, F0 i b → w.heap.size ≤ b) : ∀ i b, F i b → w.heap.size ≤ b := fun i b h => by
  rcases H.less i b h with ⟨j, h⟩ | h
  · exact hF j b h
  · have := hb.size; omega

end

theorem upd_two2 (A : Fin 2 → Abs) (b : Abs) : upd (upd A 0 b) 1 b = fun _ => b := by
  funext i
  match i with
  | 0 => rfl
  | 1 => rfl

theorem upd_zero (b : Abs) : upd (fun _ : Fin 2 => b) 0 b = fun _ => b := by
  funext i
  match i with
  | 0 => rfl
  | 1 => rfl

theorem confirm_twice (a : Abs) (k : Bytes) : (a.confirm k).confirm k = a.confirm k := by
  unfold Abs.confirm
  dsimp only
  rw [List.map_map]
  have : ((fun p : Bytes × LiesV => (p.1, if p.1 == k then { p.2 with bound := true } else p.2)) ∘ fun p : Bytes × LiesV => (p.1, if p.1 == k then { p.2 with bound := true } else p.2)) = fun p : Bytes × LiesV => (p.1, if p.1 == k then { p.2 with bound := true } else p.2) := by
    funext p
    show (p.1, if p.1 == k then { (if p.1 == k then { p.2 with bound := true } else p.2 : LiesV) with bound := true } else (if p.1 == k then { p.2 with bound := true } else p.2 : LiesV)) = _
    by_cases e : (p.1 == k) = true
    · simp only [e, if_true]
    · simp only [e, if_false, Bool.false_eq_true]
  rw [this]

theorem field_name (s : ByteArray) (m0 m1 m2 mp : Int) (v1 v2 v3 v4 v5 : Value) (W : World) : (Instr.field 33 (.agg #[.string s, .int .i64 m0, .int .i64 m1, .int .i64 m2, .int .i64 mp, v1, v2, v3, v4, v5]) 0).run Try.prog W = .ok (.string s) W := by kernel_rfl

theorem rawC {W : World} {b : Nat} {r : RawD} (hB : W.heap[b]? = some (.cells r.cells 62 (0, 0))) : W.cell? ⟨b, 0, none⟩ = some (.int .i64 r.kind) ∧ W.cell? ⟨b, 1, none⟩ = some (.int .i64 r.name) ∧ W.cell? ⟨b, 2, none⟩ = some (.int .i64 r.node) ∧ W.cell? ⟨b, 3, none⟩ = some (.int .i64 r.needs) ∧ W.cell? ⟨b, 4, none⟩ = some (.int .i64 r.flags) ∧ W.cell? ⟨b, 5, none⟩ = some (.int .i64 r.links) ∧ ∀ o, W.frozen? ⟨b, o, none⟩ = false := by
  refine ⟨?_, ?_, ?_, ?_, ?_, ?_, fun o => frozen_of_block hB⟩ <;> (rw [cell_of_block hB]; rfl)

set_option maxRecDepth 100000 in
set_option maxHeartbeats 8000000 in
theorem held_any (hold : Int) (N S T : List RawD) (p : RawD) (conf : Bool) (aN aS aT : Option Addr) (cN cS cT : Nat) (w : World) (hh : i64 hold) (hp : p.ok) (hlN : N.length ≤ 4398046511104) (hlS : S.length ≤ 4398046511104) (hlT : T.length ≤ 4398046511104) (hN : RawsAt w aN N) (hS : RawsAt w aS S) (hT : RawsAt w aT T) :
    Calls Try.prog 7 #[.int .i64 hold, .slice aN N.length cN, .slice aS S.length cS, .agg p.cells, .slice aT T.length cT, .bool conf] w fun e w' => e = .returned (.bool true) ∧ Below w.heap.size w w' := by
  obtain ⟨wp, hwp⟩ : ∃ W, W = w.alloc (.cells p.cells 62) := ⟨_, rfl⟩
  have hbp : Below w.heap.size w wp := by rw [hwp]; exact below_alloc _ _
  have zp : wp.heap.size = w.heap.size + 1 := by rw [hwp]; simp
  have boxp : wp.heap[w.heap.size]? = some (.cells p.cells 62 (0, 0)) := by rw [hwp]; exact block_alloc_new _ _
  have cM := fun W (hb : Below w.heap.size w W) => made_any hold true false N aN cN W hh hlN (hN.below hb)
  have cV := lives_any wp
  have cK := fun W => pick_any hold 20 W (by omega) (by omega) hh.1 hh.2
  have hpk := pickI_bound hold (n := 20) (by omega)
  have HCm : Hid ((madeA hold N).Calm (1 + pickI hold 20)) := calm_made hold N
  have HSs : Hid (RawsAt w aS S) := hS
  have HTs : Hid (RawsAt w aT T) := hT
  generalize madeA hold N = a0 at *
  generalize pickI hold 20 = hp20 at *
  clear hN hS hT
  unfold RawD.cells at hwp ⊢
  rw [hwp] at cV
  go_enter Try.func7, Try.ntmps7
  go_wp2_with (first
    | (go_at_call 28; refine (cK _).mono ?_; rintro e wq ⟨rfl, hq⟩; have hq := hq.symm; subst hq)
    | (go_at_call 22; refine (cM _ hb2').mono ?_; rintro e w3 ⟨Y1, F1, rfl, B1, f1, hb3⟩)
    | (go_at_call 22; refine (cM _ hb1').mono ?_; rintro e w2 ⟨Y0, F0, rfl, B0, f0, hb2⟩; have hb2' := below_trans hb1' hb2)
    | (go_at_call 21; refine cV.mono ?_; rintro e w1 ⟨rfl, hb1⟩; rw [← hwp] at hb1; have hb1' : Below w.heap.size w w1 := below_trans hbp hb1))
  have g0 := B0.lt
  have g1 := B1.lt
  have HH : Hid (∃ F, Herd w3 (two Y0 Y1) F (fun _ : Fin 2 => earlyA a0 (S.take 0)) ∧ ∀ i b, F i b → wp.heap.size ≤ b) := by
    refine ⟨two F0 F1, ⟨fun i => ?_, two_apart (w3 := w3) g0 (fun b h => ⟨f1 b h, g1 b h⟩)⟩, fun i b h => ?_⟩
    · match i with
      | 0 => exact B0.below hb3
      | 1 => exact B1
    · have s1 := hb1.size
      have s2 := hb2.size
      match i, h with
      | 0, h => exact Nat.le_trans s1 (f0 b h)
      | 1, h => exact Nat.le_trans (Nat.le_trans s1 s2) (f1 b h)
  have HB3 : Hid (Below wp.heap.size wp w3) := below_trans (below_trans hb1 hb2) hb3
  clear cM cV cK B0 B1 f0 f1 g0 g1 hb1 hb2 hb3 hb1' hb2'
  go_loopw [17] (fun i wr => ∃ k : Nat, k ≤ S.length ∧ i = .int .i64 k ∧ (∃ F, Herd wr (two Y0 Y1) F (fun _ : Fin 2 => earlyA a0 (S.take k)) ∧ ∀ i b, F i b → wp.heap.size ≤ b) ∧ Below wp.heap.size wp wr) (fun i _ => S.length - (intOf i).toNat)
  case atStart => exact ⟨0, Nat.zero_le _, rfl, HH.out, HB3.out⟩
  case round =>
    clear HH HB3
    obtain ⟨k, hk, rfl, ⟨F, hH, hF⟩, hbw⟩ := hrel
    by_cases hlt : k < S.length
    · obtain ⟨sb, off, rfl, hbl, hok, s0, s1, s2, s3, s4, s5⟩ := (HSs.out.below (below_trans hbp hbw)) k hlt
      have HNx : Hid (earlyA a0 (S.take (k + 1)) = (S[k].early.happen (earlyA a0 (S.take k))).2) := earlyA_succ _ _ hlt
      have hnl := (hH.st 0).fine.nn
      generalize S[k] = r at *
      generalize earlyA a0 (S.take k) = ak at *
      have cK := fun W => pick_any r.kind 9 W (by omega) (by omega) hok.kind.1 hok.kind.2
      obtain ⟨wE, hwE⟩ : ∃ W, W = wr.alloc (.cells r.early.cells 62) := ⟨_, rfl⟩
      have hbE : Below wr.heap.size wr wE := by rw [hwE]; exact below_alloc _ _
      have boxE : wE.heap[wr.heap.size]? = some (.cells r.early.cells 62 (0, 0)) := by rw [hwE]; exact block_alloc_new _ _
      have cA := happens_any ((hH.st 0).below hbE) r.early (early_ok hok)
      have cH := fun {G : Nat → Prop} {W : World} {Z : Nat} (B : BSt G W Z ak) => happens_any B r.early (early_ok hok)
      have hrl := happen_len r.early ak hnl
      obtain ⟨rp, an, hra⟩ : ∃ rp an, r.early.happen ak = (rp, an) := ⟨_, _, rfl⟩
      rw [hra] at cA HNx hrl
      have HRA : Hid (r.early.happen ak = (rp, an)) := hra
      clear hra
      dsimp only at cA hrl
      unfold repV at cA
      have HHd : Hid (Herd wE (two Y0 Y1) F (fun _ : Fin 2 => ak)) := hH.below hbE
      have HF : Hid (∀ i b, F i b → wp.heap.size ≤ b) := hF
      have HFl : Hid (∀ i b, F i b → b < wr.heap.size) := fun i b h => (hH.st i).lt b h
      have hbwE : Below wp.heap.size wp wE := hbw.trans (hbE.mono hbw.size)
      have HEk : Hid (r.early = if pickI r.kind 9 < 3 ∨ 6 < pickI r.kind 9 then { r with kind := 3 } else r) := rfl
      generalize pickI r.kind 9 = kk at *
      have HhwE : Hid _ := hwE
      clear hH hF hwE
      have HX : Hid (∀ a : Int, a = r.early.kind → (wr.alloc (.cells #[.int .i64 a, .int .i64 r.name, .int .i64 r.node, .int .i64 r.needs, .int .i64 r.flags, .int .i64 r.links] 62)) = wE) := fun a ha => by
        rw [HhwE.out, ha]
        have e1 : r.early.name = r.name ∧ r.early.node = r.node ∧ r.early.needs = r.needs ∧ r.early.flags = r.flags ∧ r.early.links = r.links := by
          unfold RawD.early; split <;> exact ⟨rfl, rfl, rfl, rfl, rfl⟩
        unfold RawD.cells
        rw [e1.1, e1.2.1, e1.2.2.1, e1.2.2.2.1, e1.2.2.2.2]
      obtain ⟨re, hre⟩ : ∃ x, x = r.early := ⟨_, rfl⟩
      have HRe : Hid (re = r.early) := hre
      rw [← hre] at cA boxE
      have HcH : Hid (∀ {G : Nat → Prop} {W : World} {Z : Nat} (B : BSt G W Z ak), Calls Try.prog 23 #[.pointer (some ⟨Z, 0, none⟩), .agg re.cells] W fun e w' => ∃ F' oo oc, e = .returned (repV rp oo oc) ∧ Left G W Z an F' w' ∧ RepAt F' W w' rp oo oc) := fun {G W Z} B => by
        have := cH B
        rw [HRA.out, ← HRe.out] at this
        exact this
      unfold RawD.cells at cA
      clear hre cH
      by_cases hA : kk < 3
      · go_upto_region 13 with (go_at_call 28; refine (cK _).mono ?_; rintro e wq ⟨rfl, rfl⟩)
        rw [HX.out 3 (by rw [HEk.out, if_pos (.inl hA)])]
        obtain ⟨c0, c1, c2, c3, c4, c5, fE⟩ := rawC boxE
        have nF0 : ¬ F 0 wr.heap.size := fun h => by have := HFl.out 0 _ h; omega
        have lE := lt_of_block boxE
        clear cK HX HEk HhwE s0 s1 s2 s3 s4 s5
        go_wp2_with (first
          | (go_at_call_of 23 (Value.pointer (some ⟨Y0, 0, none⟩)); refine cA.mono ?_; rintro e w4 ⟨G, oo, oc, rfl, L1, R1⟩; have bx4 := (L1.kept.block _ lE nF0).trans boxE; have l4 := lt_of_block bx4; obtain ⟨d0, d1, d2, d3, d4, d5, fd⟩ := rawC (((below_alloc w4 (.cells #[.int .i64 rp.err, .string (bs rp.node), .int .i64 rp.score, .slice oo rp.reasons.length oc, .int .i64 rp.fresh] 59)).block _ l4).trans bx4); have BS : Beside wp (w4.alloc (.cells #[.int .i64 rp.err, .string (bs rp.node), .int .i64 rp.score, .slice oo rp.reasons.length oc, .int .i64 rp.fresh] 59)) (two Y0 Y1) (upd (fun _ : Fin 2 => ak) 0 an) rp oo oc w4.heap.size := Beside.start HHd.out HF.out hbwE 0 L1 R1; obtain ⟨G2, h1, h2, h3, h4⟩ := BS.herd; have cB := HcH.out (show BSt (G2 1) _ Y1 ak from h1.st 1); unfold repV RawD.cells at cB; have HB2 : Hid (∀ G' w5, Left (G2 1) (w4.alloc (.cells #[.int .i64 rp.err, .string (bs rp.node), .int .i64 rp.score, .slice oo rp.reasons.length oc, .int .i64 rp.fresh] 59)) Y1 an G' w5 → Beside wp w5 (two Y0 Y1) (upd (upd (fun _ : Fin 2 => ak) 0 an) 1 an) rp oo oc w4.heap.size) := (fun G' w5 L => Beside.step h1 h2 h3 h4 BS.below BS.box BS.rsn 1 L); clear BS h1 h2 h3 h4 L1 R1 cA)
          | (go_at_call_of 23 (Value.pointer (some ⟨Y1, 0, none⟩)); refine cB.mono ?_; rintro e w5 ⟨G', o2, k2, rfl, L2, R2⟩; have B2 := HB2.out G' w5 L2; have l5 := lt_of_block B2.box; have HB2' : Hid _ := B2; obtain ⟨y0, y1, y2, y3, y4, y5⟩ := repC B2.box; have z0 := fun o => ((below_alloc w5 o).cell (p := ⟨w4.heap.size, 0, none⟩) l5).trans y0; have z1 := fun o => ((below_alloc w5 o).cell (p := ⟨w4.heap.size, 1, none⟩) l5).trans y1; have z2 := fun o => ((below_alloc w5 o).cell (p := ⟨w4.heap.size, 2, none⟩) l5).trans y2; have z3 := fun o => ((below_alloc w5 o).cell (p := ⟨w4.heap.size, 3, none⟩) l5).trans y3; have z4 := fun o => ((below_alloc w5 o).cell (p := ⟨w4.heap.size, 4, none⟩) l5).trans y4; have cS := fun o => sameReply_any rp (w5.alloc o) oo o2 oc k2 hrl ((Kept.of_below (F := noBlock) (below_alloc w5 o)).ownsRow B2.rsn fun _ _ => id) ((Kept.of_below (F := noBlock) (below_alloc w5 o)).ownsRow R2.rsn fun _ _ => id); unfold repV at cS; clear B2 L2 R2 cB)
          | (go_at_call 24; refine (cS _).mono ?_; rintro e w6 ⟨rfl, hb6⟩; have B3 := (HB2'.out.onward (below_alloc w5 _)).onward hb6))
        go_roundw
        case rel =>
          obtain ⟨G3, h1, h2, _, _⟩ := B3.herd
          rw [upd_two] at h1
          exact ⟨k + 1, by omega, by go_num, ⟨G3, by rw [HNx.out]; exact h1, h2⟩, B3.below⟩
        case measure => simp [intOf]; omega
      · by_cases hB : 6 < kk
        · go_upto_region 13 with (go_at_call 28; refine (cK _).mono ?_; rintro e wq ⟨rfl, rfl⟩)
          rw [HX.out 3 (by rw [HEk.out, if_pos (.inr hB)])]
          obtain ⟨c0, c1, c2, c3, c4, c5, fE⟩ := rawC boxE
          have nF0 : ¬ F 0 wr.heap.size := fun h => by have := HFl.out 0 _ h; omega
          have lE := lt_of_block boxE
          clear cK HX HEk HhwE s0 s1 s2 s3 s4 s5
          go_wp2_with (first
            | (go_at_call_of 23 (Value.pointer (some ⟨Y0, 0, none⟩)); refine cA.mono ?_; rintro e w4 ⟨G, oo, oc, rfl, L1, R1⟩; have bx4 := (L1.kept.block _ lE nF0).trans boxE; have l4 := lt_of_block bx4; obtain ⟨d0, d1, d2, d3, d4, d5, fd⟩ := rawC (((below_alloc w4 (.cells #[.int .i64 rp.err, .string (bs rp.node), .int .i64 rp.score, .slice oo rp.reasons.length oc, .int .i64 rp.fresh] 59)).block _ l4).trans bx4); have BS : Beside wp (w4.alloc (.cells #[.int .i64 rp.err, .string (bs rp.node), .int .i64 rp.score, .slice oo rp.reasons.length oc, .int .i64 rp.fresh] 59)) (two Y0 Y1) (upd (fun _ : Fin 2 => ak) 0 an) rp oo oc w4.heap.size := Beside.start HHd.out HF.out hbwE 0 L1 R1; obtain ⟨G2, h1, h2, h3, h4⟩ := BS.herd; have cB := HcH.out (show BSt (G2 1) _ Y1 ak from h1.st 1); unfold repV RawD.cells at cB; have HB2 : Hid (∀ G' w5, Left (G2 1) (w4.alloc (.cells #[.int .i64 rp.err, .string (bs rp.node), .int .i64 rp.score, .slice oo rp.reasons.length oc, .int .i64 rp.fresh] 59)) Y1 an G' w5 → Beside wp w5 (two Y0 Y1) (upd (upd (fun _ : Fin 2 => ak) 0 an) 1 an) rp oo oc w4.heap.size) := (fun G' w5 L => Beside.step h1 h2 h3 h4 BS.below BS.box BS.rsn 1 L); clear BS h1 h2 h3 h4 L1 R1 cA)
            | (go_at_call_of 23 (Value.pointer (some ⟨Y1, 0, none⟩)); refine cB.mono ?_; rintro e w5 ⟨G', o2, k2, rfl, L2, R2⟩; have B2 := HB2.out G' w5 L2; have l5 := lt_of_block B2.box; have HB2' : Hid _ := B2; obtain ⟨y0, y1, y2, y3, y4, y5⟩ := repC B2.box; have z0 := fun o => ((below_alloc w5 o).cell (p := ⟨w4.heap.size, 0, none⟩) l5).trans y0; have z1 := fun o => ((below_alloc w5 o).cell (p := ⟨w4.heap.size, 1, none⟩) l5).trans y1; have z2 := fun o => ((below_alloc w5 o).cell (p := ⟨w4.heap.size, 2, none⟩) l5).trans y2; have z3 := fun o => ((below_alloc w5 o).cell (p := ⟨w4.heap.size, 3, none⟩) l5).trans y3; have z4 := fun o => ((below_alloc w5 o).cell (p := ⟨w4.heap.size, 4, none⟩) l5).trans y4; have cS := fun o => sameReply_any rp (w5.alloc o) oo o2 oc k2 hrl ((Kept.of_below (F := noBlock) (below_alloc w5 o)).ownsRow B2.rsn fun _ _ => id) ((Kept.of_below (F := noBlock) (below_alloc w5 o)).ownsRow R2.rsn fun _ _ => id); unfold repV at cS; clear B2 L2 R2 cB)
            | (go_at_call 24; refine (cS _).mono ?_; rintro e w6 ⟨rfl, hb6⟩; have B3 := (HB2'.out.onward (below_alloc w5 _)).onward hb6))
          go_roundw
          case rel =>
            obtain ⟨G3, h1, h2, _, _⟩ := B3.herd
            rw [upd_two] at h1
            exact ⟨k + 1, by omega, by go_num, ⟨G3, by rw [HNx.out]; exact h1, h2⟩, B3.below⟩
          case measure => simp [intOf]; omega
        · go_upto_region 13 with (go_at_call 28; refine (cK _).mono ?_; rintro e wq ⟨rfl, rfl⟩)
          rw [HX.out r.kind (by rw [HEk.out, if_neg (by omega)])]
          obtain ⟨c0, c1, c2, c3, c4, c5, fE⟩ := rawC boxE
          have nF0 : ¬ F 0 wr.heap.size := fun h => by have := HFl.out 0 _ h; omega
          have lE := lt_of_block boxE
          clear cK HX HEk HhwE s0 s1 s2 s3 s4 s5
          go_wp2_with (first
            | (go_at_call_of 23 (Value.pointer (some ⟨Y0, 0, none⟩)); refine cA.mono ?_; rintro e w4 ⟨G, oo, oc, rfl, L1, R1⟩; have bx4 := (L1.kept.block _ lE nF0).trans boxE; have l4 := lt_of_block bx4; obtain ⟨d0, d1, d2, d3, d4, d5, fd⟩ := rawC (((below_alloc w4 (.cells #[.int .i64 rp.err, .string (bs rp.node), .int .i64 rp.score, .slice oo rp.reasons.length oc, .int .i64 rp.fresh] 59)).block _ l4).trans bx4); have BS : Beside wp (w4.alloc (.cells #[.int .i64 rp.err, .string (bs rp.node), .int .i64 rp.score, .slice oo rp.reasons.length oc, .int .i64 rp.fresh] 59)) (two Y0 Y1) (upd (fun _ : Fin 2 => ak) 0 an) rp oo oc w4.heap.size := Beside.start HHd.out HF.out hbwE 0 L1 R1; obtain ⟨G2, h1, h2, h3, h4⟩ := BS.herd; have cB := HcH.out (show BSt (G2 1) _ Y1 ak from h1.st 1); unfold repV RawD.cells at cB; have HB2 : Hid (∀ G' w5, Left (G2 1) (w4.alloc (.cells #[.int .i64 rp.err, .string (bs rp.node), .int .i64 rp.score, .slice oo rp.reasons.length oc, .int .i64 rp.fresh] 59)) Y1 an G' w5 → Beside wp w5 (two Y0 Y1) (upd (upd (fun _ : Fin 2 => ak) 0 an) 1 an) rp oo oc w4.heap.size) := (fun G' w5 L => Beside.step h1 h2 h3 h4 BS.below BS.box BS.rsn 1 L); clear BS h1 h2 h3 h4 L1 R1 cA)
            | (go_at_call_of 23 (Value.pointer (some ⟨Y1, 0, none⟩)); refine cB.mono ?_; rintro e w5 ⟨G', o2, k2, rfl, L2, R2⟩; have B2 := HB2.out G' w5 L2; have l5 := lt_of_block B2.box; have HB2' : Hid _ := B2; obtain ⟨y0, y1, y2, y3, y4, y5⟩ := repC B2.box; have z0 := fun o => ((below_alloc w5 o).cell (p := ⟨w4.heap.size, 0, none⟩) l5).trans y0; have z1 := fun o => ((below_alloc w5 o).cell (p := ⟨w4.heap.size, 1, none⟩) l5).trans y1; have z2 := fun o => ((below_alloc w5 o).cell (p := ⟨w4.heap.size, 2, none⟩) l5).trans y2; have z3 := fun o => ((below_alloc w5 o).cell (p := ⟨w4.heap.size, 3, none⟩) l5).trans y3; have z4 := fun o => ((below_alloc w5 o).cell (p := ⟨w4.heap.size, 4, none⟩) l5).trans y4; have cS := fun o => sameReply_any rp (w5.alloc o) oo o2 oc k2 hrl ((Kept.of_below (F := noBlock) (below_alloc w5 o)).ownsRow B2.rsn fun _ _ => id) ((Kept.of_below (F := noBlock) (below_alloc w5 o)).ownsRow R2.rsn fun _ _ => id); unfold repV at cS; clear B2 L2 R2 cB)
            | (go_at_call 24; refine (cS _).mono ?_; rintro e w6 ⟨rfl, hb6⟩; have B3 := (HB2'.out.onward (below_alloc w5 _)).onward hb6))
          go_roundw
          case rel =>
            obtain ⟨G3, h1, h2, _, _⟩ := B3.herd
            rw [upd_two] at h1
            exact ⟨k + 1, by omega, by go_num, ⟨G3, by rw [HNx.out]; exact h1, h2⟩, B3.below⟩
          case measure => simp [intOf]; omega
    · have hkn : k = S.length := by omega
      subst hkn
      rw [List.take_length] at hH
      have HC : Hid ((earlyA a0 S).Calm (1 + hp20)) := calm_early HCm.out S
      generalize earlyA a0 S = af at *
      have boxw := (hbw.block _ (by omega)).trans boxp
      have fw := fun o => frozen_of_block (i := o) boxw
      have q0 : wr.cell? ⟨w.heap.size, 0, none⟩ = some (.int .i64 p.kind) := by rw [cell_of_block boxw]; rfl
      have q1 : wr.cell? ⟨w.heap.size, 1, none⟩ = some (.int .i64 p.name) := by rw [cell_of_block boxw]; rfl
      have q2 : wr.cell? ⟨w.heap.size, 2, none⟩ = some (.int .i64 p.node) := by rw [cell_of_block boxw]; rfl
      have q3 : wr.cell? ⟨w.heap.size, 3, none⟩ = some (.int .i64 p.needs) := by rw [cell_of_block boxw]; rfl
      have q4 : wr.cell? ⟨w.heap.size, 4, none⟩ = some (.int .i64 p.flags) := by rw [cell_of_block boxw]; rfl
      have q5 : wr.cell? ⟨w.heap.size, 5, none⟩ = some (.int .i64 p.links) := by rw [cell_of_block boxw]; rfl
      obtain ⟨wS, hwS⟩ : ∃ W, W = wr.setCell ⟨w.heap.size, 0, none⟩ (.int .i64 0) := ⟨_, rfl⟩
      have kS : Kept (fun b => b = w.heap.size) wr wS := by rw [hwS]; exact (Kept.refl (fun b => b = w.heap.size) wr).setCell (p := ⟨w.heap.size, 0, none⟩) (fun _ => rfl) _
      have boxS : wS.heap[w.heap.size]? = some (.cells p.zero.cells 62 (0, 0)) := by rw [hwS, block_setCell boxw]; rfl
      have hHS := hH.kept kS fun i b hb e => by have := hF i b hb; omega
      have hbS : Below w.heap.size w wS := (below_trans hbp hbw).trans (kS.below (by have := hbw.size; omega) fun i hi e => by omega)
      have hFw : ∀ i b, F i b → w.heap.size < b := fun i b hb => by have := hF i b hb; omega
      have lS := lt_of_block boxS
      have hfS := (hHS.st 0).fine
      have hnl := hfS.nn
      have cA := happens_any (hHS.st 0) p.zero (zero_ok hp)
      rw [zero_happen] at cA
      have hrl := sched_len af p.podName p.podV hnl
      have HHol : Hid ((af.sched p.podName p.podV).1.err = 0 → af.Holds (1 + hp20) (af.sched p.podName p.podV).2 (ky p.podName) (p.podV.lies (af.sched p.podName p.podV).1.node false 0)) := fun he => sched_holds HC.out hfS.sp p.podName p.podV he
      have HcH : Hid (∀ {G : Nat → Prop} {W : World} {Z : Nat} (B : BSt G W Z af), Calls Try.prog 23 #[.pointer (some ⟨Z, 0, none⟩), .agg p.zero.cells] W fun e w' => ∃ F' oo oc, e = .returned (repV (af.sched p.podName p.podV).1 oo oc) ∧ Left G W Z (af.sched p.podName p.podV).2 F' w' ∧ RepAt F' W w' (af.sched p.podName p.podV).1 oo oc) := fun {G W Z} B => by
        have := happens_any B p.zero (zero_ok hp)
        rw [zero_happen] at this
        exact this
      obtain ⟨rp, a2, hra⟩ : ∃ rp a2, af.sched p.podName p.podV = (rp, a2) := ⟨_, _, rfl⟩
      rw [hra] at cA hrl HHol HcH
      dsimp only at cA hrl HHol HcH
      unfold repV RawD.cells RawD.zero at cA
      dsimp only at cA
      have HHd : Hid (Herd wS (two Y0 Y1) F (fun _ : Fin 2 => af)) := hHS
      have HFw : Hid (∀ i b, F i b → w.heap.size < b) := hFw
      have HFl : Hid (∀ i b, F i b → b < wS.heap.size) := fun i b h => (hHS.st i).lt b h
      rw [hwS] at cA
      clear hHS hFw hF hH boxw kS hra hfS boxp HCm HC hbw
      go_upto_if 98 with (first
        | (go_at_call_of 23 (Value.pointer (some ⟨Y0, 0, none⟩)); refine cA.mono ?_; rintro e w4 ⟨G, oo, oc, rfl, L1, R1⟩; rw [← hwS] at L1 R1; have bx4 := (L1.kept.block _ lS (fun h => by have := HFw.out 0 _ h; omega)).trans boxS; have l4 := lt_of_block bx4; have bW := ((below_alloc w4 (.cells #[.int .i64 rp.err, .string (bs rp.node), .int .i64 rp.score, .slice oo rp.reasons.length oc, .int .i64 rp.fresh] 59)).block _ l4).trans bx4; obtain ⟨d0, d1, d2, d3, d4, d5, fd⟩ := rawC bW; unfold RawD.zero at d0 d1 d2 d3 d4 d5; dsimp only at d0 d1 d2 d3 d4 d5; have hH1 := (HHd.out.step 0 L1).below (below_alloc w4 (.cells #[.int .i64 rp.err, .string (bs rp.node), .int .i64 rp.score, .slice oo rp.reasons.length oc, .int .i64 rp.fresh] 59)); have cB := HcH.out (show BSt (F 1) (w4.alloc (.cells #[.int .i64 rp.err, .string (bs rp.node), .int .i64 rp.score, .slice oo rp.reasons.length oc, .int .i64 rp.fresh] 59)) Y1 af from hH1.st 1); unfold repV RawD.cells RawD.zero at cB; dsimp only at cB; have HL1 : Hid _ := L1; have HH1 : Hid (Herd (w4.alloc (.cells #[.int .i64 rp.err, .string (bs rp.node), .int .i64 rp.score, .slice oo rp.reasons.length oc, .int .i64 rp.fresh] 59)) (two Y0 Y1) (upd F 0 G) (upd (fun _ : Fin 2 => af) 0 a2)) := hH1; clear L1 hH1 cA)
        | (go_at_call_of 23 (Value.pointer (some ⟨Y1, 0, none⟩)); refine cB.mono ?_; rintro e w5 ⟨G', o2, k2, rfl, L2, R2⟩; have n22 : ∀ i, ¬ upd F 0 G i w4.heap.size := (fun i h => by have := (((HHd.out.step 0 HL1.out).st i)).lt _ h; omega); have HLf := (HLeft.refl HH1.out).step 1 L2; rw [upd_two] at HLf; have b22 := HLf.blk (block_alloc_new w4 (.cells #[.int .i64 rp.err, .string (bs rp.node), .int .i64 rp.score, .slice oo rp.reasons.length oc, .int .i64 rp.fresh] 59)) n22; obtain ⟨z0, z1, z2, z3, z4, z5⟩ := repC b22))
      have npb : ∀ i, ¬ upd F 0 G i w.heap.size := fun i h => by
        have h' : F 0 w.heap.size ∨ wS.heap.size ≤ w.heap.size ∨ F i w.heap.size := by
          by_cases e : i = 0
          · subst e
            rw [upd_self] at h
            rcases HL1.out.less _ h with h | h
            · exact .inl h
            · exact .inr (.inl h.1)
          · rw [upd_other _ _ e] at h
            exact .inr (.inr h)
        rcases h' with h | h | h
        · have := HFw.out 0 _ h; omega
        · omega
        · have := HFw.out i _ h; omega
      have hbR : Below w.heap.size w (w4.alloc (.cells #[.int .i64 rp.err, .string (bs rp.node), .int .i64 rp.score, .slice oo rp.reasons.length oc, .int .i64 rp.fresh] 59)) := (HL1.out.low hbS (fun b h => Nat.le_of_lt (HFw.out 0 b h))).trans ((below_alloc _ _).mono (by have := HL1.out.kept.size; omega))
      have hFR : ∀ i b, upd F 0 G i b → w.heap.size ≤ b := fun i b h => by
        by_cases e : i = 0
        · subst e
          rw [upd_self] at h
          exact HL1.out.lowF hbS (fun b h => Nat.le_of_lt (HFw.out 0 b h)) b h
        · rw [upd_other _ _ e] at h
          exact Nat.le_of_lt (HFw.out i b h)
      have bR : (w4.alloc (.cells #[.int .i64 rp.err, .string (bs rp.node), .int .i64 rp.score, .slice oo rp.reasons.length oc, .int .i64 rp.fresh] 59)).heap[w4.heap.size]? = some (.cells (repCells rp oo oc) 59 (0, 0)) := block_alloc_new _ _
      obtain ⟨wR, hwR⟩ : ∃ W, W = w4.alloc (.cells #[.int .i64 rp.err, .string (bs rp.node), .int .i64 rp.score, .slice oo rp.reasons.length oc, .int .i64 rp.fresh] 59) := ⟨_, rfl⟩
      rw [← hwR] at hbR bR HLf bW
      generalize upd F 0 G = FR at *
      generalize upd FR 1 G' = FX at *
      have HLx : Hid (HLeft wR FR (two Y0 Y1) FX (fun _ : Fin 2 => a2) w5) := HLf
      have HbR : Hid (Below w.heap.size w wR ∧ ∀ i b, FR i b → w.heap.size ≤ b) := ⟨hbR, hFR⟩
      have HbW : Hid (wR.heap[w.heap.size]? = some (.cells p.zero.cells 62 (0, 0)) ∧ ∀ i, ¬ FR i w.heap.size) := ⟨bW, npb⟩
      have Hb22 : Hid (wR.heap[w4.heap.size]? = some (.cells (repCells rp oo oc) 59 (0, 0)) ∧ ∀ i, ¬ FR i w4.heap.size) := ⟨bR, n22⟩
      generalize w4.heap.size = x22 at *
      clear HLf hbR hFR npb bW bR n22 L2 R2 R1 HL1 HH1 HHd HFw HFl HcH cB bx4 l4 lS boxS hwS hwR d0 d1 d2 d3 d4 d5 fd b22 q0 q1 q2 q3 q4 q5 fw hbS
      by_cases he : rp.err = 0
      · have HO := HHol.out he
        have hw8 := HO.wait (by omega) (by omega)
        have hw9 := HO.goes (by omega) (by omega) (HLx.out.herd.st 0).fine.sf
        have hw10 := HO.stays (by omega) (by omega)
        have HHO : Hid _ := HO
        have HW9 : Hid _ := hw9
        have HW10 : Hid _ := hw10
        have cT := fun {Z : Nat} {K : Nat → Prop} {W : World} (B : BSt K W Z a2) (z : Int) (hz : z = 1 + hp20 - 1) => (by
          have h := spec_tick B z
          rw [hz] at h ⊢
          rw [hw8.1, hw8.2] at h
          exact h : Calls Try.prog 30 #[.pointer (some ⟨Z, 0, none⟩), .int .i64 z] W fun e w' => ∃ F', e = .returned (.int .i64 0) ∧ Left K W Z { a2 with now := 1 + hp20 - 1 } F' w')
        obtain ⟨a3, ha3⟩ : ∃ x, x = ({ a2 with now := 1 + hp20 - 1 } : Abs) := ⟨_, rfl⟩
        have HA3 : Hid (a3 = { a2 with now := 1 + hp20 - 1 }) := ha3
        rw [← ha3] at cT
        have HcT : Hid (∀ {Z : Nat} {K : Nat → Prop} {W : World} (B : BSt K W Z a2) (z : Int) (hz : z = 1 + hp20 - 1), Calls Try.prog 30 #[.pointer (some ⟨Z, 0, none⟩), .int .i64 z] W fun e w' => ∃ F', e = .returned (.int .i64 0) ∧ Left K W Z a3 F' w') := cT
        clear cT HO hw8 hw9 hw10 ha3 HHol
        have heb : (rp.err == 0) = true := by simpa using he
        have hen : (rp.err != 0) = false := by simpa using he
        go_wp2_with (first
          | (go_at_call_of 30 (Value.pointer (some ⟨Y0, 0, none⟩)); refine (HcT.out (show BSt (FX 0) w5 Y0 a2 from HLx.out.herd.st 0) _ (by omega)).mono ?_; rintro e w6 ⟨F6, rfl, L6⟩; have HL6 : Hid _ := HLx.out.step 0 L6)
          | (go_at_call_of 30 (Value.pointer (some ⟨Y1, 0, none⟩)); refine (HcT.out (show BSt (FX 1) w6 Y1 a2 from HL6.out.herd.st 1) _ (by omega)).mono ?_; rintro e w7 ⟨F7, rfl, L7⟩; have HL7 := HL6.out.step 1 L7; rw [upd_two] at HL7; have cSt := spec_state (show BSt (upd (upd FX 0 F6) 1 F7 0) w7 Y0 a3 from HL7.herd.st 0); unfold stV at cSt)
          | (go_at_call 25; refine cSt.mono ?_; rintro e w8 ⟨o1, k1, p1, j1, rfl, S8, hb8⟩))
        obtain ⟨w9, hw9⟩ : ∃ W, W = w8.alloc (.cells #[.int .i64 a3.now, .slice o1 a3.N.length k1, .slice p1 a3.P.length j1, .int .i64 a3.W.length] 67) := ⟨_, rfl⟩
        have hb79 : Below w7.heap.size w7 w9 := by rw [hw9]; exact below_trans hb8 (below_alloc _ _)
        have HL9 : Hid (HLeft wR FR (two Y0 Y1) (upd (upd FX 0 F6) 1 F7) (fun _ : Fin 2 => a3) w9) := HL7.onward hb79
        have S9 : StAt w7 w9 a3 o1 k1 p1 j1 := by rw [hw9]; exact S8.onward (below_alloc _ _)
        have box25 : w9.heap[w8.heap.size]? = some (.cells #[.int .i64 a3.now, .slice o1 a3.N.length k1, .slice p1 a3.P.length j1, .int .i64 a3.W.length] 67 (0, 0)) := by rw [hw9]; exact block_alloc_new _ _
        have b22 := HL9.out.blk Hb22.out.1 Hb22.out.2
        have bpb := HL9.out.blk HbW.out.1 HbW.out.2
        have hP3 : a3.P = a2.P := by rw [HA3.out]
        have hget : getL a3.P (ky p.podName) = some (p.podV.lies rp.node false 0) := by rw [hP3]; exact HHO.out.get
        have hspP := (HL9.out.herd.st 0).fine.sp
        have hnpP := (HL9.out.herd.st 0).fine.np
        obtain ⟨i0, hi0, hP0⟩ := List.getElem_of_mem (getL_mem hget)
        have HRow : Hid (∀ k, k < a3.P.length → ∃ (g : Nat) (nm nd : ByteArray) (bd : Bool), p1 = some ⟨g, 0, none⟩ ∧ g < w9.heap.size ∧ w9.cell? ⟨g, k * 4, none⟩ = some (.string nm) ∧ w9.cell? ⟨g, k * 4 + 1, none⟩ = some (.string nd) ∧ w9.cell? ⟨g, k * 4 + 2, none⟩ = some (.bool bd) ∧ ((k = i0 ∧ nm = p.podName ∧ nd = bs rp.node ∧ bd = false) ∨ (k ≠ i0 ∧ (nm.toList == p.podName.toList) = false))) := by
          intro k hk
          obtain ⟨g, e1, l1, cc, _⟩ := own_cellK S9.ls (by omega)
          have f := fun j hj => flat_getK liesRowA 4 (fun _ => rfl) a3.P k j hk hj
          refine ⟨g, bs a3.P[k].1, bs a3.P[k].2.node, a3.P[k].2.bound, e1, l1, ?_, ?_, ?_, ?_⟩
          · rw [cc _ (by omega)]; exact f 0 (by omega)
          · rw [cc _ (by omega)]; exact f 1 (by omega)
          · rw [cc _ (by omega)]; exact f 2 (by omega)
          · by_cases e : k = i0
            · subst e
              refine .inl ⟨rfl, ?_, ?_, ?_⟩
              · rw [hP0]; exact bs_ky _
              · rw [hP0]; rfl
              · rw [hP0]; rfl
            · refine .inr ⟨e, ?_⟩
              rw [toList_bs, toList_ky]
              have hne : a3.P[k].1 ≠ ky p.podName := fun h => by
                have h1 : a3.P[k].1 = a3.P[i0].1 := by rw [h, hP0]
                have hd := List.pairwise_iff_getElem.1 hspP.distinct
                rcases Nat.lt_or_gt_of_ne e with h2 | h2
                · exact hd k i0 hk hi0 h2 h1
                · exact hd i0 k hi0 hk h2 h1.symm
              simpa using hne
        have cP : ∀ W, Calls Try.prog 29 #[.agg #[.int .i64 0, .int .i64 p.name, .int .i64 p.node, .int .i64 p.needs, .int .i64 p.flags, .int .i64 p.links]] W fun e w' => ∃ (m0 m1 m2 mp : Int) (v1 v2 v3 v4 v5 : Value), e = .returned (.agg #[.string p.podName, .int .i64 m0, .int .i64 m1, .int .i64 m2, .int .i64 mp, v1, v2, v3, v4, v5]) ∧ Below W.heap.size W w' := fun W => by
          refine (kpod_val p.zero (zero_ok hp) W).mono ?_
          rintro e w' ⟨pd, rfl, _, hpn, _, hb⟩
          exact ⟨pd.n0, pd.n1, pd.n2, pd.port, pd.labels.val, pd.select.val, pd.bears.val, pd.near.val, pd.apart.val, by rw [show p.podName = pd.name from hpn.symm]; rfl, hb⟩
        have hfld := field_name
        have l25 := lt_of_block box25
        have l22 := lt_of_block b22
        have lpb := lt_of_block bpb
        have HB25 : Hid _ := box25
        have HB22 : Hid _ := b22
        have HBpb : Hid _ := bpb
        rw [← hw9]
        generalize w8.heap.size = x25 at *
        have HS9 : Hid _ := S9
        clear S9 S8 HL7 HL6 HLx L6 L7 hb8 hb79 hw9 box25 b22 bpb hget hspP hP0 HcT cSt hP3
        go_loopw [26, 27] (fun t i wr => ∃ (k : Nat) (b : Bool), k ≤ a3.P.length ∧ i = .int .i64 k ∧ t = .bool b ∧ (b = true ∨ k ≤ i0) ∧ Below w9.heap.size w9 wr) (fun _ i _ => a3.P.length - (intOf i).toNat)
        case atStart => exact ⟨0, false, Nat.zero_le _, rfl, rfl, .inr (Nat.zero_le _), Below.refl _ _⟩
        case round =>
          obtain ⟨k, bb, hk, rfl, rfl, hor, hbx⟩ := hrel
          have y25 := (hbx.block _ l25).trans HB25.out
          have y22 := (hbx.block _ l22).trans HB22.out
          have ypb := (hbx.block _ lpb).trans HBpb.out
          obtain ⟨t0, t1, t2, t3⟩ := stC y25
          obtain ⟨z0, z1, z2, z3, z4, z5⟩ := repC y22
          obtain ⟨c0, c1, c2, c3, c4, c5, fS⟩ := rawC ypb
          unfold RawD.zero at c0 c1 c2 c3 c4 c5
          dsimp only at c0 c1 c2 c3 c4 c5
          have HHor : Hid (bb = true ∨ k ≤ i0) := hor
          clear hor
          by_cases hlt : k < a3.P.length
          · obtain ⟨g, nm, nd, bd, rfl, lg, r0, r1, r2, hcase⟩ := HRow.out k hlt
            have r0' := (hbx.cell (p := ⟨g, k * 4, none⟩) lg).trans r0
            have r1' := (hbx.cell (p := ⟨g, k * 4 + 1, none⟩) lg).trans r1
            have r2' := (hbx.cell (p := ⟨g, k * 4 + 2, none⟩) lg).trans r2
            have lgx := Nat.lt_of_lt_of_le lg hbx.size
            have l25x := Nat.lt_of_lt_of_le l25 hbx.size
            have l22x := Nat.lt_of_lt_of_le l22 hbx.size
            have lpbx := Nat.lt_of_lt_of_le lpb hbx.size
            have HCase : Hid _ := hcase
            clear r0 r1 r2 hcase
            cases bb with
            | true =>
              go_wp2
              go_quiet (fail)
              go_wp2
              go_roundw
              case rel => exact ⟨k + 1, true, by omega, by go_num, rfl, .inl rfl, below_drewN hbx _⟩
              case measure => simp [intOf]; omega
            | false =>
              rcases HCase.out with ⟨hki, rfl, rfl, rfl⟩ | ⟨hki, hne⟩
              · clear hki
                go_upto_block 3 with fail
                go_cut [26] from 109 to 148 (fun t wx => t = .bool true ∧ Below wr.heap.size wr wx)
                case first =>
                  go_upto_region 30 with fail
                  go_region_held3 (fun w' => w'.cell? ⟨x25, 2, none⟩ = some (.slice (some ⟨g, 0, none⟩) a3.P.length j1) ∧ w'.cell? ⟨g, k * 4, none⟩ = some (.string p.podName) ∧ w'.cell? ⟨g, k * 4 + 1, none⟩ = some (.string (bs rp.node)) ∧ w'.cell? ⟨g, k * 4 + 2, none⟩ = some (.bool false) ∧ w'.cell? ⟨x22, 1, none⟩ = some (.string (bs rp.node)) ∧ w'.cell? ⟨w.heap.size, 0, none⟩ = some (.int .i64 0) ∧ w'.cell? ⟨w.heap.size, 1, none⟩ = some (.int .i64 p.name) ∧ w'.cell? ⟨w.heap.size, 2, none⟩ = some (.int .i64 p.node) ∧ w'.cell? ⟨w.heap.size, 3, none⟩ = some (.int .i64 p.needs) ∧ w'.cell? ⟨w.heap.size, 4, none⟩ = some (.int .i64 p.flags) ∧ w'.cell? ⟨w.heap.size, 5, none⟩ = some (.int .i64 p.links)) (go_keep) (first | (go_at_call 29; refine (cP _).mono ?_; rintro e w10 ⟨m0, m1, m2, mp, v1, v2, v3, v4, v5, rfl, hb10⟩; have hbd : Below wr.heap.size wr w10 := below_trans (Below.refl wr.heap.size wr).drew hb10; have u25 := (hbd.cell (p := ⟨x25, 2, none⟩) l25x).trans t2; have u0 := (hbd.cell (p := ⟨g, k * 4, none⟩) lgx).trans r0'; have u1 := (hbd.cell (p := ⟨g, k * 4 + 1, none⟩) lgx).trans r1'; have u2 := (hbd.cell (p := ⟨g, k * 4 + 2, none⟩) lgx).trans r2'; have u22 := (hbd.cell (p := ⟨x22, 1, none⟩) l22x).trans z1; have uu0 := (hbd.cell (p := ⟨w.heap.size, 0, none⟩) lpbx).trans c0; have uu1 := (hbd.cell (p := ⟨w.heap.size, 1, none⟩) lpbx).trans c1; have uu2 := (hbd.cell (p := ⟨w.heap.size, 2, none⟩) lpbx).trans c2; have uu3 := (hbd.cell (p := ⟨w.heap.size, 3, none⟩) lpbx).trans c3; have uu4 := (hbd.cell (p := ⟨w.heap.size, 4, none⟩) lpbx).trans c4; have uu5 := (hbd.cell (p := ⟨w.heap.size, 5, none⟩) lpbx).trans c5))
                  all_goals go_wp2
                  all_goals go_meet
                  all_goals exact ⟨rfl, hbd⟩
                case rest =>
                  obtain ⟨rfl, hbd⟩ := hcut
                  go_wp2
                  go_roundw
                  case rel => exact ⟨k + 1, true, by omega, by go_num, rfl, .inl rfl, below_trans hbx hbd⟩
                  case measure => simp [intOf]; omega
              · have hlt0 : k < i0 := by
                  rcases HHor.out with h | h
                  · cases h
                  · omega
                go_upto_block 3 with fail
                go_cut [26] from 109 to 148 (fun t wx => t = .bool false ∧ Below wr.heap.size wr wx)
                case first =>
                  go_upto_region 30 with fail
                  refine wp_region_held_drew (S := (fun w' => w'.cell? ⟨x25, 2, none⟩ = some (.slice (some ⟨g, 0, none⟩) a3.P.length j1) ∧ w'.cell? ⟨g, k * 4, none⟩ = some (.string nm) ∧ w'.cell? ⟨g, k * 4 + 1, none⟩ = some (.string nd) ∧ w'.cell? ⟨g, k * 4 + 2, none⟩ = some (.bool bd) ∧ w'.cell? ⟨x22, 1, none⟩ = some (.string (bs rp.node)) ∧ w'.cell? ⟨w.heap.size, 0, none⟩ = some (.int .i64 0) ∧ w'.cell? ⟨w.heap.size, 1, none⟩ = some (.int .i64 p.name) ∧ w'.cell? ⟨w.heap.size, 2, none⟩ = some (.int .i64 p.node) ∧ w'.cell? ⟨w.heap.size, 3, none⟩ = some (.int .i64 p.needs) ∧ w'.cell? ⟨w.heap.size, 4, none⟩ = some (.int .i64 p.flags) ∧ w'.cell? ⟨w.heap.size, 5, none⟩ = some (.int .i64 p.links))) (by kernel_rfl) ?_ (fun hHeld => ?_)
                  · go_keep
                  refine wpAnyH_take (i := 0) (oi := { dst := some 116, op := Op.move (Operand.tmp 26), type := 4, pos := _, after := #[], guard := none }) (v := ?_) rfl (by kernel_rfl) (by kernel_rfl) (by kernel_rfl) (fun _ _ _ h => h) (Or.inl ⟨by rfl, ?_⟩) (by assumption) ?_
                  rotate_left 1
                  · (intro w hSw; (try dsimp only at hSw); go_simp; (try with_reducible rfl))
                  try simp only [Act.put, List.setIfInBounds_toArray, List.set_cons_zero, List.set_cons_succ]
                  refine wpAnyH_take (i := 1) (oi := { dst := some 117, op := Op.move (Operand.tmp 116), type := 4, pos := _, after := #[{ on := 0, ground := Ground.data }], guard := none }) (v := ?_) rfl (by kernel_rfl) (by kernel_rfl) (by kernel_rfl) (fun _ _ _ h => h) (Or.inl ⟨by rfl, ?_⟩) (by assumption) ?_
                  rotate_left 1
                  · (intro w hSw; (try dsimp only at hSw); go_simp; (try with_reducible rfl))
                  try simp only [Act.put, List.setIfInBounds_toArray, List.set_cons_zero, List.set_cons_succ]
                  refine wpAnyH_take (i := 2) (oi := { dst := some 118, op := Op.fieldAddr 67 (Operand.tmp 25) 2, type := 0, pos := _, after := #[{ on := 1, ground := Ground.guard }], guard := some (1, false) }) (v := ?_) rfl (by kernel_rfl) (by kernel_rfl) (by kernel_rfl) (fun _ _ _ h => h) (Or.inl ⟨by rfl, ?_⟩) (by assumption) ?_
                  rotate_left 1
                  · (intro w hSw; (try dsimp only at hSw); go_simp; (try with_reducible rfl))
                  try simp only [Act.put, List.setIfInBounds_toArray, List.set_cons_zero, List.set_cons_succ]
                  refine wpAnyH_take (i := 3) (oi := { dst := some 119, op := Op.load 65 (Operand.tmp 118), type := 65, pos := _, after := #[{ on := 2, ground := Ground.data }, { on := 1, ground := Ground.guard }], guard := some (1, false) }) (v := ?_) rfl (by kernel_rfl) (by kernel_rfl) (by kernel_rfl) (fun _ _ _ h => h) (Or.inl ⟨by rfl, ?_⟩) (by assumption) ?_
                  rotate_left 1
                  · (intro w hSw; (try dsimp only at hSw); go_simp; (try with_reducible rfl))
                  try simp only [Act.put, List.setIfInBounds_toArray, List.set_cons_zero, List.set_cons_succ]
                  refine wpAnyH_take (i := 4) (oi := { dst := some 120, op := Op.move (Operand.tmp 27), type := 3, pos := _, after := #[{ on := 1, ground := Ground.guard }], guard := some (1, false) }) (v := ?_) rfl (by kernel_rfl) (by kernel_rfl) (by kernel_rfl) (fun _ _ _ h => h) (Or.inl ⟨by rfl, ?_⟩) (by assumption) ?_
                  rotate_left 1
                  · (intro w hSw; (try dsimp only at hSw); go_simp; (try with_reducible rfl))
                  try simp only [Act.put, List.setIfInBounds_toArray, List.set_cons_zero, List.set_cons_succ]
                  refine wpAnyH_take (i := 5) (oi := { dst := some 121, op := Op.indexAddr 65 (Operand.tmp 119) (Operand.tmp 120), type := 0, pos := _, after := #[{ on := 3, ground := Ground.data }, { on := 4, ground := Ground.data }, { on := 1, ground := Ground.guard }], guard := some (1, false) }) (v := ?_) rfl (by kernel_rfl) (by kernel_rfl) (by kernel_rfl) (fun _ _ _ h => h) (Or.inl ⟨by rfl, ?_⟩) (by assumption) ?_
                  rotate_left 1
                  · (intro w hSw; (try dsimp only at hSw); go_simp; (try with_reducible rfl))
                  try simp only [Act.put, List.setIfInBounds_toArray, List.set_cons_zero, List.set_cons_succ]
                  refine wpAnyH_take (i := 6) (oi := { dst := some 122, op := Op.fieldAddr 80 (Operand.tmp 121) 0, type := 0, pos := _, after := #[{ on := 5, ground := Ground.data }, { on := 1, ground := Ground.guard }], guard := some (1, false) }) (v := ?_) rfl (by kernel_rfl) (by kernel_rfl) (by kernel_rfl) (fun _ _ _ h => h) (Or.inl ⟨by rfl, ?_⟩) (by assumption) ?_
                  rotate_left 1
                  · (intro w hSw; (try dsimp only at hSw); go_simp; (try with_reducible rfl))
                  try simp only [Act.put, List.setIfInBounds_toArray, List.set_cons_zero, List.set_cons_succ]
                  refine wpAnyH_take (i := 7) (oi := { dst := some 123, op := Op.load 9 (Operand.tmp 122), type := 9, pos := _, after := #[{ on := 6, ground := Ground.data }, { on := 1, ground := Ground.guard }], guard := some (1, false) }) (v := ?_) rfl (by kernel_rfl) (by kernel_rfl) (by kernel_rfl) (fun _ _ _ h => h) (Or.inl ⟨by rfl, ?_⟩) (by assumption) ?_
                  rotate_left 1
                  · (intro w hSw; (try dsimp only at hSw); go_simp; (try with_reducible rfl))
                  try simp only [Act.put, List.setIfInBounds_toArray, List.set_cons_zero, List.set_cons_succ]
                  refine wpAnyH_take (i := 8) (oi := { dst := some 124, op := Op.load 62 (Operand.tmp 9), type := 62, pos := _, after := #[{ on := 1, ground := Ground.guard }], guard := some (1, false) }) (v := ?_) rfl (by kernel_rfl) (by kernel_rfl) (by kernel_rfl) (fun _ _ _ h => h) (Or.inl ⟨by rfl, ?_⟩) (by assumption) ?_
                  rotate_left 1
                  · (intro w hSw; (try dsimp only at hSw); go_simp; (try with_reducible rfl))
                  try simp only [Act.put, List.setIfInBounds_toArray, List.set_cons_zero, List.set_cons_succ]
                  refine wpAnyH_ready (rs := [9]) (by kernel_rfl) (by simp) ?_
                  refine AllReadyH.cons (o := { dst := some 125, op := Op.call { callee := Callee.value (Operand.func 29), args := #[Operand.tmp 124], argTypes := #[62] }, type := 33, pos := _, after := #[{ on := 8, ground := Ground.data }, { on := 1, ground := Ground.chain }, { on := 1, ground := Ground.guard }], guard := some (1, false) }) rfl (fun K hK => ?_) AllReadyH.nil
                  go_simp
                  go_at_call 29
                  refine (cP _).mono ?_
                  rintro e w10 ⟨m0, m1, m2, mp, v1, v2, v3, v4, v5, rfl, hb10⟩
                  have hbd : Below wr.heap.size wr w10 := below_trans (Below.refl wr.heap.size wr).drew hb10
                  have u25 := (hbd.cell (p := ⟨x25, 2, none⟩) l25x).trans t2
                  have u0 := (hbd.cell (p := ⟨g, k * 4, none⟩) lgx).trans r0'
                  have u1 := (hbd.cell (p := ⟨g, k * 4 + 1, none⟩) lgx).trans r1'
                  have u2 := (hbd.cell (p := ⟨g, k * 4 + 2, none⟩) lgx).trans r2'
                  have u22 := (hbd.cell (p := ⟨x22, 1, none⟩) l22x).trans z1
                  have uu0 := (hbd.cell (p := ⟨w.heap.size, 0, none⟩) lpbx).trans c0
                  have uu1 := (hbd.cell (p := ⟨w.heap.size, 1, none⟩) lpbx).trans c1
                  have uu2 := (hbd.cell (p := ⟨w.heap.size, 2, none⟩) lpbx).trans c2
                  have uu3 := (hbd.cell (p := ⟨w.heap.size, 3, none⟩) lpbx).trans c3
                  have uu4 := (hbd.cell (p := ⟨w.heap.size, 4, none⟩) lpbx).trans c4
                  have uu5 := (hbd.cell (p := ⟨w.heap.size, 5, none⟩) lpbx).trans c5
                  refine hK.out _ _ ?_ (fun hHeld => ?_)
                  · go_keep
                  clear hK K
                  try simp only [Act.put, List.setIfInBounds_toArray, List.set_cons_zero, List.set_cons_succ]
                  refine wpAnyH_take (i := 10) (oi := { dst := some 126, op := Op.field 33 (Operand.tmp 125) 0, type := 9, pos := _, after := #[{ on := 9, ground := Ground.data }, { on := 1, ground := Ground.guard }], guard := some (1, false) }) (v := ?_) rfl (by kernel_rfl) (by kernel_rfl) (by kernel_rfl) (fun _ _ _ h => h) (Or.inl ⟨by rfl, ?_⟩) (by assumption) ?_
                  rotate_left 1
                  · (intro w hSw; (try dsimp only at hSw); go_simp; (try with_reducible rfl))
                  try simp only [Act.put, List.setIfInBounds_toArray, List.set_cons_zero, List.set_cons_succ]
                  refine wpAnyH_take (i := 11) (oi := { dst := some 127, op := Op.binOp BinOp.eql 9 (Operand.tmp 123) (Operand.tmp 126) 9, type := 4, pos := _, after := #[{ on := 7, ground := Ground.data }, { on := 10, ground := Ground.data }, { on := 1, ground := Ground.guard }], guard := some (1, false) }) (v := ?_) rfl (by kernel_rfl) (by kernel_rfl) (by kernel_rfl) (fun _ _ _ h => h) (Or.inl ⟨by rfl, ?_⟩) (by assumption) ?_
                  rotate_left 1
                  · (intro w hSw; (try dsimp only at hSw); go_simp; (try with_reducible rfl))
                  try simp only [Act.put, List.setIfInBounds_toArray, List.set_cons_zero, List.set_cons_succ]
                  refine wpAnyH_take (i := 12) (oi := { dst := some 128, op := Op.move (Operand.tmp 127), type := 4, pos := _, after := #[{ on := 11, ground := Ground.data }, { on := 9, ground := Ground.chain }, { on := 1, ground := Ground.guard }], guard := some (1, false) }) (v := ?_) rfl (by kernel_rfl) (by kernel_rfl) (by kernel_rfl) (fun _ _ _ h => h) (Or.inl ⟨by rfl, ?_⟩) (by assumption) ?_
                  rotate_left 1
                  · (intro w hSw; (try dsimp only at hSw); go_simp; (try with_reducible rfl))
                  try simp only [Act.put, List.setIfInBounds_toArray, List.set_cons_zero, List.set_cons_succ]
                  refine wpAnyH_take (i := 13) (oi := { dst := some 129, op := Op.fieldAddr 67 (Operand.tmp 25) 2, type := 0, pos := _, after := #[{ on := 12, ground := Ground.guard }], guard := some (12, true) }) (v := undef) rfl (by kernel_rfl) (by kernel_rfl) (by kernel_rfl) (fun _ _ _ h => h) (Or.inr ⟨by rfl, rfl⟩) (by assumption) ?_
                  try simp only [Act.put, List.setIfInBounds_toArray, List.set_cons_zero, List.set_cons_succ]
                  refine wpAnyH_take (i := 14) (oi := { dst := some 130, op := Op.load 65 (Operand.tmp 129), type := 65, pos := _, after := #[{ on := 13, ground := Ground.data }, { on := 12, ground := Ground.guard }], guard := some (12, true) }) (v := undef) rfl (by kernel_rfl) (by kernel_rfl) (by kernel_rfl) (fun _ _ _ h => h) (Or.inr ⟨by rfl, rfl⟩) (by assumption) ?_
                  try simp only [Act.put, List.setIfInBounds_toArray, List.set_cons_zero, List.set_cons_succ]
                  refine wpAnyH_take (i := 15) (oi := { dst := some 131, op := Op.move (Operand.tmp 27), type := 3, pos := _, after := #[{ on := 12, ground := Ground.guard }], guard := some (12, true) }) (v := undef) rfl (by kernel_rfl) (by kernel_rfl) (by kernel_rfl) (fun _ _ _ h => h) (Or.inr ⟨by rfl, rfl⟩) (by assumption) ?_
                  try simp only [Act.put, List.setIfInBounds_toArray, List.set_cons_zero, List.set_cons_succ]
                  refine wpAnyH_take (i := 16) (oi := { dst := some 132, op := Op.indexAddr 65 (Operand.tmp 130) (Operand.tmp 131), type := 0, pos := _, after := #[{ on := 14, ground := Ground.data }, { on := 15, ground := Ground.data }, { on := 12, ground := Ground.guard }], guard := some (12, true) }) (v := undef) rfl (by kernel_rfl) (by kernel_rfl) (by kernel_rfl) (fun _ _ _ h => h) (Or.inr ⟨by rfl, rfl⟩) (by assumption) ?_
                  try simp only [Act.put, List.setIfInBounds_toArray, List.set_cons_zero, List.set_cons_succ]
                  refine wpAnyH_take (i := 17) (oi := { dst := some 133, op := Op.fieldAddr 80 (Operand.tmp 132) 1, type := 0, pos := _, after := #[{ on := 16, ground := Ground.data }, { on := 12, ground := Ground.guard }], guard := some (12, true) }) (v := undef) rfl (by kernel_rfl) (by kernel_rfl) (by kernel_rfl) (fun _ _ _ h => h) (Or.inr ⟨by rfl, rfl⟩) (by assumption) ?_
                  try simp only [Act.put, List.setIfInBounds_toArray, List.set_cons_zero, List.set_cons_succ]
                  refine wpAnyH_take (i := 18) (oi := { dst := some 134, op := Op.load 9 (Operand.tmp 133), type := 9, pos := _, after := #[{ on := 17, ground := Ground.data }, { on := 12, ground := Ground.guard }], guard := some (12, true) }) (v := undef) rfl (by kernel_rfl) (by kernel_rfl) (by kernel_rfl) (fun _ _ _ h => h) (Or.inr ⟨by rfl, rfl⟩) (by assumption) ?_
                  try simp only [Act.put, List.setIfInBounds_toArray, List.set_cons_zero, List.set_cons_succ]
                  refine wpAnyH_take (i := 19) (oi := { dst := some 135, op := Op.fieldAddr 59 (Operand.tmp 22) 1, type := 0, pos := _, after := #[{ on := 12, ground := Ground.guard }], guard := some (12, true) }) (v := undef) rfl (by kernel_rfl) (by kernel_rfl) (by kernel_rfl) (fun _ _ _ h => h) (Or.inr ⟨by rfl, rfl⟩) (by assumption) ?_
                  try simp only [Act.put, List.setIfInBounds_toArray, List.set_cons_zero, List.set_cons_succ]
                  refine wpAnyH_take (i := 20) (oi := { dst := some 136, op := Op.load 9 (Operand.tmp 135), type := 9, pos := _, after := #[{ on := 19, ground := Ground.data }, { on := 12, ground := Ground.guard }], guard := some (12, true) }) (v := undef) rfl (by kernel_rfl) (by kernel_rfl) (by kernel_rfl) (fun _ _ _ h => h) (Or.inr ⟨by rfl, rfl⟩) (by assumption) ?_
                  try simp only [Act.put, List.setIfInBounds_toArray, List.set_cons_zero, List.set_cons_succ]
                  refine wpAnyH_take (i := 21) (oi := { dst := some 137, op := Op.binOp BinOp.eql 9 (Operand.tmp 134) (Operand.tmp 136) 9, type := 4, pos := _, after := #[{ on := 18, ground := Ground.data }, { on := 20, ground := Ground.data }, { on := 12, ground := Ground.guard }], guard := some (12, true) }) (v := undef) rfl (by kernel_rfl) (by kernel_rfl) (by kernel_rfl) (fun _ _ _ h => h) (Or.inr ⟨by rfl, rfl⟩) (by assumption) ?_
                  try simp only [Act.put, List.setIfInBounds_toArray, List.set_cons_zero, List.set_cons_succ]
                  refine wpAnyH_take (i := 22) (oi := { dst := some 138, op := Op.pick (Operand.tmp 128) (Operand.tmp 137) (Operand.const (Value.bool false)), type := 4, pos := _, after := #[{ on := 12, ground := Ground.data }, { on := 21, ground := Ground.data }, { on := 1, ground := Ground.guard }], guard := some (1, false) }) (v := ?_) rfl (by kernel_rfl) (by kernel_rfl) (by kernel_rfl) (fun _ _ _ h => h) (Or.inl ⟨by rfl, ?_⟩) (by assumption) ?_
                  rotate_left 1
                  · (intro w hSw; (try dsimp only at hSw); go_simp; (try with_reducible rfl))
                  try simp only [Act.put, List.setIfInBounds_toArray, List.set_cons_zero, List.set_cons_succ]
                  refine wpAnyH_take (i := 23) (oi := { dst := some 139, op := Op.move (Operand.tmp 138), type := 4, pos := _, after := #[{ on := 22, ground := Ground.data }, { on := 12, ground := Ground.chain }, { on := 1, ground := Ground.guard }], guard := some (1, false) }) (v := ?_) rfl (by kernel_rfl) (by kernel_rfl) (by kernel_rfl) (fun _ _ _ h => h) (Or.inl ⟨by rfl, ?_⟩) (by assumption) ?_
                  rotate_left 1
                  · (intro w hSw; (try dsimp only at hSw); go_simp; (try with_reducible rfl))
                  try simp only [Act.put, List.setIfInBounds_toArray, List.set_cons_zero, List.set_cons_succ]
                  refine wpAnyH_take (i := 24) (oi := { dst := some 140, op := Op.fieldAddr 67 (Operand.tmp 25) 2, type := 0, pos := _, after := #[{ on := 23, ground := Ground.guard }], guard := some (23, true) }) (v := undef) rfl (by kernel_rfl) (by kernel_rfl) (by kernel_rfl) (fun _ _ _ h => h) (Or.inr ⟨by rfl, rfl⟩) (by assumption) ?_
                  try simp only [Act.put, List.setIfInBounds_toArray, List.set_cons_zero, List.set_cons_succ]
                  refine wpAnyH_take (i := 25) (oi := { dst := some 141, op := Op.load 65 (Operand.tmp 140), type := 65, pos := _, after := #[{ on := 24, ground := Ground.data }, { on := 23, ground := Ground.guard }], guard := some (23, true) }) (v := undef) rfl (by kernel_rfl) (by kernel_rfl) (by kernel_rfl) (fun _ _ _ h => h) (Or.inr ⟨by rfl, rfl⟩) (by assumption) ?_
                  try simp only [Act.put, List.setIfInBounds_toArray, List.set_cons_zero, List.set_cons_succ]
                  refine wpAnyH_take (i := 26) (oi := { dst := some 142, op := Op.move (Operand.tmp 27), type := 3, pos := _, after := #[{ on := 23, ground := Ground.guard }], guard := some (23, true) }) (v := undef) rfl (by kernel_rfl) (by kernel_rfl) (by kernel_rfl) (fun _ _ _ h => h) (Or.inr ⟨by rfl, rfl⟩) (by assumption) ?_
                  try simp only [Act.put, List.setIfInBounds_toArray, List.set_cons_zero, List.set_cons_succ]
                  refine wpAnyH_take (i := 27) (oi := { dst := some 143, op := Op.indexAddr 65 (Operand.tmp 141) (Operand.tmp 142), type := 0, pos := _, after := #[{ on := 25, ground := Ground.data }, { on := 26, ground := Ground.data }, { on := 23, ground := Ground.guard }], guard := some (23, true) }) (v := undef) rfl (by kernel_rfl) (by kernel_rfl) (by kernel_rfl) (fun _ _ _ h => h) (Or.inr ⟨by rfl, rfl⟩) (by assumption) ?_
                  try simp only [Act.put, List.setIfInBounds_toArray, List.set_cons_zero, List.set_cons_succ]
                  refine wpAnyH_take (i := 28) (oi := { dst := some 144, op := Op.fieldAddr 80 (Operand.tmp 143) 2, type := 0, pos := _, after := #[{ on := 27, ground := Ground.data }, { on := 23, ground := Ground.guard }], guard := some (23, true) }) (v := undef) rfl (by kernel_rfl) (by kernel_rfl) (by kernel_rfl) (fun _ _ _ h => h) (Or.inr ⟨by rfl, rfl⟩) (by assumption) ?_
                  try simp only [Act.put, List.setIfInBounds_toArray, List.set_cons_zero, List.set_cons_succ]
                  refine wpAnyH_take (i := 29) (oi := { dst := some 145, op := Op.load 4 (Operand.tmp 144), type := 4, pos := _, after := #[{ on := 28, ground := Ground.data }, { on := 23, ground := Ground.guard }], guard := some (23, true) }) (v := undef) rfl (by kernel_rfl) (by kernel_rfl) (by kernel_rfl) (fun _ _ _ h => h) (Or.inr ⟨by rfl, rfl⟩) (by assumption) ?_
                  try simp only [Act.put, List.setIfInBounds_toArray, List.set_cons_zero, List.set_cons_succ]
                  refine wpAnyH_take (i := 30) (oi := { dst := some 146, op := Op.unOp UnOp.not 4 (Operand.tmp 145), type := 4, pos := _, after := #[{ on := 29, ground := Ground.data }, { on := 23, ground := Ground.guard }], guard := some (23, true) }) (v := undef) rfl (by kernel_rfl) (by kernel_rfl) (by kernel_rfl) (fun _ _ _ h => h) (Or.inr ⟨by rfl, rfl⟩) (by assumption) ?_
                  try simp only [Act.put, List.setIfInBounds_toArray, List.set_cons_zero, List.set_cons_succ]
                  refine wpAnyH_take (i := 31) (oi := { dst := some 147, op := Op.pick (Operand.tmp 139) (Operand.tmp 146) (Operand.const (Value.bool false)), type := 4, pos := _, after := #[{ on := 23, ground := Ground.data }, { on := 30, ground := Ground.data }, { on := 1, ground := Ground.guard }], guard := some (1, false) }) (v := ?_) rfl (by kernel_rfl) (by kernel_rfl) (by kernel_rfl) (fun _ _ _ h => h) (Or.inl ⟨by rfl, ?_⟩) (by assumption) ?_
                  rotate_left 1
                  · (intro w hSw; (try dsimp only at hSw); go_simp; (try with_reducible rfl))
                  try simp only [Act.put, List.setIfInBounds_toArray, List.set_cons_zero, List.set_cons_succ]
                  refine wpAnyH_take (i := 32) (oi := { dst := some 148, op := Op.pick (Operand.tmp 117) (Operand.const (Value.bool true)) (Operand.tmp 147), type := 4, pos := _, after := #[{ on := 1, ground := Ground.data }, { on := 31, ground := Ground.data }], guard := none }) (v := ?_) rfl (by kernel_rfl) (by kernel_rfl) (by kernel_rfl) (fun _ _ _ h => h) (Or.inl ⟨by rfl, ?_⟩) (by assumption) ?_
                  rotate_left 1
                  · (intro w hSw; (try dsimp only at hSw); go_simp; (try with_reducible rfl))
                  try simp only [Act.put, List.setIfInBounds_toArray, List.set_cons_zero, List.set_cons_succ]
                  refine wpAnyH_take (i := 33) (oi := { dst := some 26, op := Op.assign (Operand.tmp 148), type := 4, pos := _, after := #[{ on := 32, ground := Ground.data }, { on := 23, ground := Ground.chain }, { on := 0, ground := Ground.phase }, { on := 1, ground := Ground.phase }, { on := 2, ground := Ground.phase }, { on := 3, ground := Ground.phase }, { on := 4, ground := Ground.phase }, { on := 5, ground := Ground.phase }, { on := 6, ground := Ground.phase }, { on := 7, ground := Ground.phase }, { on := 8, ground := Ground.phase }, { on := 9, ground := Ground.phase }, { on := 10, ground := Ground.phase }, { on := 11, ground := Ground.phase }, { on := 12, ground := Ground.phase }, { on := 13, ground := Ground.phase }, { on := 14, ground := Ground.phase }, { on := 15, ground := Ground.phase }, { on := 16, ground := Ground.phase }, { on := 17, ground := Ground.phase }, { on := 18, ground := Ground.phase }, { on := 19, ground := Ground.phase }, { on := 20, ground := Ground.phase }, { on := 21, ground := Ground.phase }, { on := 22, ground := Ground.phase }, { on := 23, ground := Ground.phase }, { on := 24, ground := Ground.phase }, { on := 25, ground := Ground.phase }, { on := 26, ground := Ground.phase }, { on := 27, ground := Ground.phase }, { on := 28, ground := Ground.phase }, { on := 29, ground := Ground.phase }, { on := 30, ground := Ground.phase }, { on := 31, ground := Ground.phase }, { on := 32, ground := Ground.phase }], guard := none }) (v := ?_) rfl (by kernel_rfl) (by kernel_rfl) (by kernel_rfl) (fun _ _ _ h => h) (Or.inl ⟨by rfl, ?_⟩) (by assumption) ?_
                  rotate_left 1
                  · (intro w hSw; (try dsimp only at hSw); go_simp; (try with_reducible rfl))
                  try simp only [Act.put, List.setIfInBounds_toArray, List.set_cons_zero, List.set_cons_succ]
                  refine wpAnyH_done (by kernel_rfl) ?_ _
                  all_goals go_wp2
                  all_goals go_meet
                  all_goals exact ⟨rfl, hbd⟩
                case rest =>
                  obtain ⟨rfl, hbd⟩ := hcut
                  go_wp2
                  go_roundw
                  case rel => exact ⟨k + 1, false, by omega, by go_num, rfl, .inr (by omega), below_trans hbx hbd⟩
                  case measure => simp [intOf]; omega
          · have hbt : bb = true := by
              rcases HHor.out with h | h
              · exact h
              · omega
            subst hbt
            have HLr : Hid (HLeft wR FR (two Y0 Y1) (upd (upd FX 0 F6) 1 F7) (fun _ : Fin 2 => a3) wr) := HL9.out.onward hbx
            have HNb : Hid (∀ i, ¬ FR i w.heap.size) := HbW.out.2
            have HBx : Hid (wR.heap[w.heap.size]? = some (.cells p.zero.cells 62 (0, 0))) := HbW.out.1
            have hnm : p.podName.size ≤ maxLen := by rw [podName_size]; unfold maxLen; omega
            generalize upd (upd FX 0 F6) 1 F7 = FY at *
            have hw9 := HW9.out
            have hw10 := HW10.out
            rw [← HA3.out] at hw9 hw10
            have HX9 : Hid _ := hw9
            have HX10 : Hid _ := hw10
            clear hw9 hw10 y25 y22 ypb t0 t1 t3 z0 z1 z2 z3 z4 z5 HRow HL9 HS9 HB25 HB22 HBpb
            go_upto_if 159 with fail
            clear t2
            go_cut [] from 28 to 231 (fun wx => ∃ (F : Fin 2 → Nat → Prop) (A : Fin 2 → Abs) (aZ : Abs), HLeft wR FR (two Y0 Y1) F A wx ∧ (A 0).tickErr 1 = 0 ∧ (A 1).tickErr 1 = 0 ∧ (A 0).tick 1 = aZ ∧ (A 1).tick 1 = aZ)
            case first =>
              cases conf with
              | true =>
                go_wp2_with (first
                  | (go_at_call_of 31 (Value.pointer (some ⟨Y0, 0, none⟩)); refine cC3.mono ?_; rintro e w16 ⟨F16, rfl, L16⟩; have HL16 : Hid _ := HL15.out.step 0 L16)
                  | (go_at_call 29; have hh := HL14.out; refine (cP _).mono ?_; rintro e w15 ⟨m0, m1, m2, mp, v1, v2, v3, v4, v5, rfl, hb15⟩; have hh := hh.onward hb15; have cC3 := spec_confirm (show BSt _ w15 Y0 _ from hh.herd.st 0) p.podName hnm; rw [HX10.out.2.1, confirm_twice] at cC3; have HL15 : Hid _ := hh; clear hh)
                  | (go_at_call_of 31 (Value.pointer (some ⟨Y1, 0, none⟩)); refine cC2.mono ?_; rintro e w14 ⟨F14, rfl, L14⟩; have hh := HL13.out.step 1 L14; rw [upd_two] at hh; obtain ⟨k0, k1, k2, k3, k4, k5, fk⟩ := rawC (hh.blk HBx.out HNb.out); unfold RawD.zero at k0 k1 k2 k3 k4 k5; dsimp only at k0 k1 k2 k3 k4 k5; have HL14 : Hid _ := hh; clear hh)
                  | (go_at_call 29; have hh := HL12.out; refine (cP _).mono ?_; rintro e w13 ⟨m0, m1, m2, mp, v1, v2, v3, v4, v5, rfl, hb13⟩; have hh := hh.onward hb13; have cC2 := spec_confirm (show BSt _ w13 Y1 a3 from hh.herd.st 1) p.podName hnm; rw [HX10.out.1] at cC2; have HL13 : Hid _ := hh; clear hh)
                  | (go_at_call_of 31 (Value.pointer (some ⟨Y0, 0, none⟩)); refine cC1.mono ?_; rintro e w12 ⟨F12, rfl, L12⟩; have hh := HL11.out.step 0 L12; obtain ⟨j0, j1, j2, j3, j4, j5, fj⟩ := rawC (hh.blk HBx.out HNb.out); unfold RawD.zero at j0 j1 j2 j3 j4 j5; dsimp only at j0 j1 j2 j3 j4 j5; have HL12 : Hid _ := hh; clear hh)
                  | (go_at_call 29; have hh := HLr.out; refine (cP _).mono ?_; rintro e w11 ⟨m0, m1, m2, mp, v1, v2, v3, v4, v5, rfl, hb11⟩; have hh := hh.onward hb11; have cC1 := spec_confirm (show BSt _ w11 Y0 a3 from hh.herd.st 0) p.podName hnm; rw [HX10.out.1] at cC1; have HL11 : Hid _ := hh; clear hh))
                go_meet
                have hh := HL16.out
                rw [upd_zero] at hh
                exact ⟨_, _, (a3.confirm (ky p.podName)).tick 1, hh, HX10.out.2.2, HX10.out.2.2, rfl, rfl⟩
              | false =>
                go_wp2_with (first
                  | (go_at_call 32; refine cC1.mono ?_; rintro e w12 ⟨F12, rfl, L12⟩; have HL12 : Hid _ := HL11.out.step 1 L12)
                  | (go_at_call 29; have hh := HLr.out; refine (cP _).mono ?_; rintro e w11 ⟨m0, m1, m2, mp, v1, v2, v3, v4, v5, rfl, hb11⟩; have hh := hh.onward hb11; have cC1 := spec_drop (show BSt _ w11 Y1 a3 from hh.herd.st 1) p.podName hnm; rw [HX9.out.2.2.1] at cC1; have HL11 : Hid _ := hh; clear hh))
                go_meet
                exact ⟨_, _, a3.tick 1, HL12.out, HX9.out.1, HX9.out.2.1, rfl, HX9.out.2.2.2.symm⟩
            case rest =>
              obtain ⟨F, A, aZ, hL, e0, e1, t0, t1⟩ := hcut
              have cT0 := spec_tick (hL.herd.st 0) 1
              rw [e0, t0] at cT0
              have HcT1 : Hid (∀ {K : Nat → Prop} {W : World} (B : BSt K W Y1 (A 1)), Calls Try.prog 30 #[.pointer (some ⟨Y1, 0, none⟩), .int .i64 1] W fun e w' => ∃ F', e = .returned (.int .i64 0) ∧ Left K W Y1 aZ F' w') := fun B => by
                have h := spec_tick B 1
                rw [e1, t1] at h
                exact h
              have HLc : Hid _ := hL
              clear hL e0 e1 t0 t1 cP HLr HHO HW9 HW10 HX9 HX10 c0 c1 c2 c3 c4 c5 fS
              go_upto_region 49 with (first
                | (go_at_call_of 30 (Value.pointer (some ⟨Y0, 0, none⟩)); refine cT0.mono ?_; rintro e w20 ⟨F20, rfl, L20⟩; have HL20 : Hid _ := HLc.out.step 0 L20)
                | (go_at_call_of 30 (Value.pointer (some ⟨Y1, 0, none⟩)); refine (HcT1.out (show BSt _ w20 Y1 (A 1) from HL20.out.herd.st 1)).mono ?_; rintro e w21 ⟨F21, rfl, L21⟩; have hh := HL20.out.step 1 L21; rw [upd_two2] at hh; have cS0 := spec_state (show BSt _ w21 Y0 aZ from hh.herd.st 0); have hzn := (hh.herd.st 0).fine.nn; have hzp := (hh.herd.st 0).fine.np; unfold stV at cS0; have HL21 : Hid _ := hh; clear hh)
                | (go_at_call_of 25 (Value.pointer (some ⟨Y0, 0, none⟩)); refine cS0.mono ?_; rintro e w22 ⟨d1, d2, d3, d4, rfl, S22, hb22⟩; have cS1 := spec_state (show BSt _ w22 Y1 aZ from (HL21.out.onward hb22).herd.st 1); unfold stV at cS1)
                | (go_at_call_of 25 (Value.pointer (some ⟨Y1, 0, none⟩)); refine cS1.mono ?_; rintro e w23 ⟨e1, e2, e3, e4, rfl, S23, hb23⟩; have S22' := S22.onward hb23; have cE := sameState_any aZ w23 d1 e1 d3 e3 d2 e2 d4 e4 (by omega) (by omega) S22'.us S23.us S22'.ls S23.ls; unfold stV at cE)
                | (go_at_call 26; refine cE.mono ?_; rintro e w24 ⟨rfl, hb24⟩))
              have HH2 : Hid (∃ F, Herd w24 (two Y0 Y1) F (fun _ : Fin 2 => runA aZ (T.take 0)) ∧ ∀ i b, F i b → w.heap.size ≤ b) := by
                have hh := ((HL21.out.onward hb22).onward hb23).onward hb24
                exact ⟨_, hh.herd, hh.lowF HbR.out.1 HbR.out.2⟩
              have HB24 : Hid (Below w.heap.size w w24) := (((HL21.out.onward hb22).onward hb23).onward hb24).low HbR.out.1 HbR.out.2
              clear cT0 HcT1 HLc HL20 HL21 cS0 cS1 cE S22 S23 S22' hb22 hb23 hb24 L20 L21
              go_wp2
              go_loopw [33] (fun i wr => ∃ k : Nat, k ≤ T.length ∧ i = .int .i64 k ∧ (∃ F, Herd wr (two Y0 Y1) F (fun _ : Fin 2 => runA aZ (T.take k)) ∧ ∀ i b, F i b → w.heap.size ≤ b) ∧ Below w.heap.size w wr) (fun i _ => T.length - (intOf i).toNat)
              case atStart => exact ⟨0, Nat.zero_le _, rfl, HH2.out, HB24.out⟩
              case round =>
                clear HH2 HB24
                obtain ⟨k, hk, rfl, ⟨F, hH, hF⟩, hbw⟩ := hrel
                by_cases hlt : k < T.length
                · obtain ⟨sb, off, rfl, hbl, hok, s0, s1, s2, s3, s4, s5⟩ := (HTs.out.below hbw) k hlt
                  have HNx : Hid (runA aZ (T.take (k + 1)) = (T[k].happen (runA aZ (T.take k))).2) := runA_succ _ _ hlt
                  have HK : Hid (∀ W, Below w.heap.size w W → W.cell? ⟨sb, off + k * 6, none⟩ = some (.int .i64 T[k].kind) ∧ W.cell? ⟨sb, off + k * 6 + 1, none⟩ = some (.int .i64 T[k].name) ∧ W.cell? ⟨sb, off + k * 6 + 2, none⟩ = some (.int .i64 T[k].node) ∧ W.cell? ⟨sb, off + k * 6 + 3, none⟩ = some (.int .i64 T[k].needs) ∧ W.cell? ⟨sb, off + k * 6 + 4, none⟩ = some (.int .i64 T[k].flags) ∧ W.cell? ⟨sb, off + k * 6 + 5, none⟩ = some (.int .i64 T[k].links)) := fun W hW => by
                    obtain ⟨b', off', e', _, _, q0, q1, q2, q3, q4, q5⟩ := (HTs.out.below hW) k hlt
                    simp only [Option.some.injEq, Addr.mk.injEq, and_true] at e'
                    obtain ⟨rfl, rfl⟩ := e'
                    exact ⟨q0, q1, q2, q3, q4, q5⟩
                  have hnl := (hH.st 0).fine.nn
                  generalize T[k] = r at *
                  generalize runA aZ (T.take k) = ak at *
                  have hrl2 := happen_len r ak hnl
                  have cA := happens_any (hH.st 0) r hok
                  have HcH : Hid (∀ {G : Nat → Prop} {W : World} {Z : Nat} (B : BSt G W Z ak), Calls Try.prog 23 #[.pointer (some ⟨Z, 0, none⟩), .agg r.cells] W fun e w' => ∃ F' oo oc, e = .returned (repV (r.happen ak).1 oo oc) ∧ Left G W Z (r.happen ak).2 F' w' ∧ RepAt F' W w' (r.happen ak).1 oo oc) := fun {G W Z} B => happens_any B r hok
                  have HHd : Hid (Herd wr (two Y0 Y1) F (fun _ : Fin 2 => ak)) := hH
                  have HF : Hid (∀ i b, F i b → w.heap.size ≤ b) := hF
                  obtain ⟨rp2, an, hra⟩ : ∃ rp an, r.happen ak = (rp, an) := ⟨_, _, rfl⟩
                  rw [hra] at cA HNx hrl2 HcH
                  dsimp only at cA hrl2 HcH
                  unfold repV RawD.cells at cA
                  clear hra hH hF
                  go_wp2_with (first
                    | (go_at_call_of 23 (Value.pointer (some ⟨Y0, 0, none⟩)); refine cA.mono ?_; rintro e w4 ⟨G, oo, oc, rfl, L1, R1⟩; have BS : Beside w (w4.alloc (.cells #[.int .i64 rp2.err, .string (bs rp2.node), .int .i64 rp2.score, .slice oo rp2.reasons.length oc, .int .i64 rp2.fresh] 59)) (two Y0 Y1) (upd (fun _ : Fin 2 => ak) 0 an) rp2 oo oc w4.heap.size := Beside.start HHd.out HF.out hbw 0 L1 R1; obtain ⟨q0, q1, q2, q3, q4, q5⟩ := HK.out _ BS.below; obtain ⟨G2, h1, h2, h3, h4⟩ := BS.herd; have cB := HcH.out (show BSt (G2 1) _ Y1 ak from h1.st 1); unfold repV RawD.cells at cB; have HB2 : Hid (∀ G' w5, Left (G2 1) (w4.alloc (.cells #[.int .i64 rp2.err, .string (bs rp2.node), .int .i64 rp2.score, .slice oo rp2.reasons.length oc, .int .i64 rp2.fresh] 59)) Y1 an G' w5 → Beside w w5 (two Y0 Y1) (upd (upd (fun _ : Fin 2 => ak) 0 an) 1 an) rp2 oo oc w4.heap.size) := (fun G' w5 L => Beside.step h1 h2 h3 h4 BS.below BS.box BS.rsn 1 L); clear BS h1 h2 h3 h4 L1 R1 cA)
                    | (go_at_call_of 23 (Value.pointer (some ⟨Y1, 0, none⟩)); refine cB.mono ?_; rintro e w5 ⟨G', o2, k2, rfl, L2, R2⟩; have B2 := HB2.out G' w5 L2; have l5 := lt_of_block B2.box; have HB2' : Hid _ := B2; obtain ⟨y0, y1, y2, y3, y4, y5⟩ := repC B2.box; have z0 := fun o => ((below_alloc w5 o).cell (p := ⟨w4.heap.size, 0, none⟩) l5).trans y0; have z1 := fun o => ((below_alloc w5 o).cell (p := ⟨w4.heap.size, 1, none⟩) l5).trans y1; have z2 := fun o => ((below_alloc w5 o).cell (p := ⟨w4.heap.size, 2, none⟩) l5).trans y2; have z3 := fun o => ((below_alloc w5 o).cell (p := ⟨w4.heap.size, 3, none⟩) l5).trans y3; have z4 := fun o => ((below_alloc w5 o).cell (p := ⟨w4.heap.size, 4, none⟩) l5).trans y4; have cS := fun o => sameReply_any rp2 (w5.alloc o) oo o2 oc k2 hrl2 ((Kept.of_below (F := noBlock) (below_alloc w5 o)).ownsRow B2.rsn fun _ _ => id) ((Kept.of_below (F := noBlock) (below_alloc w5 o)).ownsRow R2.rsn fun _ _ => id); unfold repV at cS; clear B2 L2 R2 cB)
                    | (go_at_call 24; refine (cS _).mono ?_; rintro e w6 ⟨rfl, hb6⟩; have B3 := (HB2'.out.onward (below_alloc w5 _)).onward hb6))
                  go_roundw
                  case rel =>
                    obtain ⟨G3, h1, h2, _, _⟩ := B3.herd
                    rw [upd_two] at h1
                    exact ⟨k + 1, by omega, by go_num, ⟨G3, by rw [HNx.out]; exact h1, h2⟩, B3.below⟩
                  case measure => simp [intOf]; omega
                · go_wp2
                  go_ret
                  exact ⟨rfl, hbw⟩
      · have hen : (rp.err != 0) = true := by simpa using he
        have hbf := HLx.out.low HbR.out.1 HbR.out.2
        go_wp2
        go_ret
        exact ⟨rfl, hbf⟩

end Go.Proofs.Ytchddaafibjmgaa
