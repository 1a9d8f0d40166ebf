/-
  Moot, walked: what came and went leaves no trace.
-/
import Derived.Test.YtchddaafibjmgaaQA23
import Derived.Test.YtchddaafibjmgaaQK3n
import Derived.Deep.CutRange
namespace Go.Proofs.Ytchddaafibjmgaa
open Go.RowKit Go.Maps

def PodD.renamed (p : PodD) (s : ByteArray) : PodD := { p with name := s }
theorem renamed_ok {w : World} {p : PodD} (h : p.ok w) (s : ByteArray) (hs : s.size ≤ 100) : (p.renamed s).ok w := ⟨by show s.size ≤ _; omega, h.2⟩

def RawD.moot (r : RawD) : RawD := { r with kind := 0, name := 7 }
theorem moot_ok {r : RawD} (h : r.ok) : r.moot.ok := ⟨by show i64 0; unfold i64; omega, by show i64 7; unfold i64; omega, h.node, h.needs, h.flags, h.links⟩

set_option maxRecDepth 100000 in
set_option maxHeartbeats 8000000 in
theorem moot_any (hold : Int) (N S B : List RawD) (p : RawD) (aN aS aB : Option Addr) (cN cS cB : Nat) (w : World) (hh : i64 hold) (hp : p.ok) (hlN : N.length ≤ 4398046511104) (hlS : S.length ≤ 4398046511104) (hlB : B.length ≤ 4398046511104) (hN : RawsAt w aN N) (hS : RawsAt w aS S) (hB : RawsAt w aB B) :
    Calls Try.prog 8 #[.int .i64 hold, .slice aN N.length cN, .slice aS S.length cS, .agg p.cells, .slice aB B.length cB] w fun e w' => e = .returned (.bool true) ∧ Below w.heap.size w w' := by
  obtain ⟨wp, hwp⟩ : ∃ W, W = w.alloc (.cells p.cells 62) := ⟨_, rfl⟩
  have hbp : Below w.heap.size w wp := by rw [hwp]; exact below_alloc _ _
  have zp : wp.heap.size = w.heap.size + 1 := by rw [hwp]; simp
  have boxp : wp.heap[w.heap.size]? = some (.cells p.cells 62 (0, 0)) := by rw [hwp]; exact block_alloc_new _ _
  have cM := fun W (hb : Below w.heap.size w W) => made_any hold true false N aN cN W hh hlN (hN.below hb)
  have cV := lives_any wp
  have HSs : Hid (RawsAt w aS S) := hS
  have HBs : Hid (RawsAt w aB B) := hB
  clear hN hS hB
  unfold RawD.cells at hwp boxp ⊢
  rw [hwp] at cV
  go_enter Try.func8, Try.ntmps8
  go_wp2_with (first
    | (go_at_call 22; refine (cM _ hb1').mono ?_; rintro e w2 ⟨Y, F0, rfl, B0, f0, hb2⟩)
    | (go_at_call 21; refine cV.mono ?_; rintro e w1 ⟨rfl, hb1⟩; rw [← hwp] at hb1; have hb1' : Below w.heap.size w w1 := below_trans hbp hb1))
  have hb12 := below_trans hb1 hb2
  have HB0 : Hid (BSt F0 w2 Y (runA (madeA hold N) (S.take 0))) := B0
  have HF0 : Hid (∀ b, F0 b → wp.heap.size ≤ b) := fun b h => Nat.le_trans hb1.size (f0 b h)
  clear B0 f0 cM cV
  generalize madeA hold N = a0 at *
  go_loopw [13] (fun i wr => ∃ (k : Nat) (F : Nat → Prop), k ≤ S.length ∧ i = .int .i64 k ∧ BSt F wr Y (runA a0 (S.take k)) ∧ (∀ b, F b → wp.heap.size ≤ b) ∧ Below wp.heap.size wp wr) (fun i _ => S.length - (intOf i).toNat)
  case atStart => exact ⟨0, F0, Nat.zero_le _, rfl, HB0.out, HF0.out, hb12⟩
  case round =>
    clear HB0 HF0 hb1 hb2 hb12 hb1'
    obtain ⟨k, F, hk, rfl, B1, hF, hbw⟩ := hrel
    have HF : Hid (∀ b, F b → wp.heap.size ≤ b) := hF
    clear hF
    by_cases hlt : k < S.length
    · obtain ⟨sb, off, rfl, hbl, hok, s0, s1, s2, s3, s4, s5⟩ := (HSs.out.below (below_trans hbp hbw)) k hlt
      have HNx : Hid (runA a0 (S.take (k + 1)) = (S[k].happen (runA a0 (S.take k))).2) := runA_succ _ _ hlt
      generalize S[k] = r at *
      have cA := happens_any B1 r hok
      unfold repV RawD.cells at cA
      clear B1
      go_wp2_with (go_at_call 23; refine cA.mono ?_; rintro e w3 ⟨G, oo, oc, rfl, L1, R1⟩)
      go_roundw
      case rel => exact ⟨k + 1, G, by omega, by go_num, by rw [HNx.out]; exact L1.st, L1.lowF hbw HF.out, L1.low hbw HF.out⟩
      case measure => simp [intOf]; omega
    · have hkn : k = S.length := by omega
      subst hkn
      rw [List.take_length] at B1
      generalize runA a0 S = a1 at *
      have boxw := (hbw.block _ (by omega)).trans boxp
      have fw := fun o => frozen_of_block (i := o) boxw
      have q0 : wr.cell? ⟨w.heap.size, 0, none⟩ = some (.int .i64 p.kind) := by rw [cell_of_block boxw]; rfl
      have q1 : wr.cell? ⟨w.heap.size, 1, none⟩ = some (.int .i64 p.name) := by rw [cell_of_block boxw]; rfl
      have q2 : wr.cell? ⟨w.heap.size, 2, none⟩ = some (.int .i64 p.node) := by rw [cell_of_block boxw]; rfl
      have q3 : wr.cell? ⟨w.heap.size, 3, none⟩ = some (.int .i64 p.needs) := by rw [cell_of_block boxw]; rfl
      have q4 : wr.cell? ⟨w.heap.size, 4, none⟩ = some (.int .i64 p.flags) := by rw [cell_of_block boxw]; rfl
      have q5 : wr.cell? ⟨w.heap.size, 5, none⟩ = some (.int .i64 p.links) := by rw [cell_of_block boxw]; rfl
      obtain ⟨wS, hwS⟩ : ∃ W, W = (wr.setCell ⟨w.heap.size, 0, none⟩ (.int .i64 0)).setCell ⟨w.heap.size, 1, none⟩ (.int .i64 7) := ⟨_, rfl⟩
      have kS : Kept (fun b => b = w.heap.size) wr wS := by rw [hwS]; exact ((Kept.refl (fun b => b = w.heap.size) wr).setCell (p := ⟨w.heap.size, 0, none⟩) (fun _ => rfl) _).setCell (p := ⟨w.heap.size, 1, none⟩) (fun _ => rfl) _
      have BS : BSt F wS Y a1 := B1.kept kS fun b hb e => by have := HF.out b hb; omega
      have hbS : Below w.heap.size w wS := (below_trans hbp hbw).trans (kS.below (by have := hbw.size; omega) fun i hi e => by omega)
      have cP := kpod_val2 p.moot (moot_ok hp) wS
      obtain ⟨v, hv⟩ : ∃ v, v = p.moot.podV := ⟨_, rfl⟩
      rw [← hv] at cP
      unfold RawD.cells RawD.moot at cP
      unfold PodD.cells Lst.val at cP
      dsimp only at cP
      rw [hwS] at cP
      obtain ⟨rp, a2, hra⟩ : ∃ rp a2, a1.sched ⟨#[109, 111, 111, 116]⟩ v = (rp, a2) := ⟨_, _, rfl⟩
      have HRA : Hid (a1.sched ⟨#[109, 111, 111, 116]⟩ v = (rp, a2)) := hra
      have hnl := BS.fine.nn
      have hrl := sched_len a1 ⟨#[109, 111, 111, 116]⟩ v hnl
      rw [hra] at hrl
      dsimp only at hrl
      clear hv hra
      have zS : w.heap.size < wS.heap.size := by have := hbw.size; have := kS.size; omega
      have HBS : Hid (BSt F wS Y a1) := BS
      have HFS : Hid (∀ b, F b → b < wS.heap.size) := BS.lt
      clear BS B1 boxw
      go_upto_if 56 with (first
        | (go_at_call 29; refine cP.mono ?_; rintro e w4 ⟨pd, rfl, okp, hpn, hpv, hb4, hpl⟩; rw [← hwS] at hb4 hpl; have hb5 := below_alloc w4 (.cells (pd.renamed ⟨#[109, 111, 111, 116]⟩).cells 33); have cS := spec_sched ((HBS.out.below hb4).below hb5) (pd.renamed ⟨#[109, 111, 111, 116]⟩) (renamed_ok (okp.below hb5) _ (by decide)); rw [show (pd.renamed ⟨#[109, 111, 111, 116]⟩).name = ⟨#[109, 111, 111, 116]⟩ from rfl, show (pd.renamed ⟨#[109, 111, 111, 116]⟩).val = v from hpv, HRA.out] at cS; have okr : Hid ((pd.renamed ⟨#[109, 111, 111, 116]⟩).ok (w4.alloc (.cells (pd.renamed ⟨#[109, 111, 111, 116]⟩).cells 33))) := (renamed_ok (okp.below hb5) _ (by decide)); unfold repV PodD.cells PodD.renamed Lst.val at cS; dsimp only at cS)
        | (go_at_call 33; refine cS.mono ?_; rintro e w6 ⟨F6, oo, oc, rfl, L6, R6⟩))
      obtain ⟨w5, hw5⟩ : ∃ W, W = w4.alloc (.cells (pd.renamed ⟨#[109, 111, 111, 116]⟩).cells 33) := ⟨_, rfl⟩
      have L6' : Left F w5 Y a2 F6 w6 := by rw [hw5]; exact L6
      have R6' : RepAt F6 w5 w6 rp oo oc := by rw [hw5]; exact R6
      obtain ⟨pr, hpr⟩ : ∃ x, x = pd.renamed ⟨#[109, 111, 111, 116]⟩ := ⟨_, rfl⟩
      have okr' : pr.ok w5 := by rw [hpr, hw5]; exact okr.out
      have box5 : w5.heap[w4.heap.size]? = some (.cells pr.cells 33 (0, 0)) := by rw [hw5, hpr]; exact block_alloc_new _ _
      have z5 : w5.heap.size = w4.heap.size + 1 := by rw [hw5]; simp
      have z4 := hb4.size
      have nF4 : ¬ F w4.heap.size := fun h => by have := HFS.out _ h; omega
      have offr : pr.off F := fun x hx _ q hq h => by have h1 := HFS.out _ h; have h2 := hpl x (by rw [hpr] at hx; exact hx) q hq; omega
      obtain ⟨ok6, off6⟩ := L6'.podOk okr' offr
      have box6 := L6'.blk box5 nF4
      have n46 := L6'.off (by omega : w4.heap.size < w5.heap.size) nF4
      have hF6 : ∀ b, F6 b → w.heap.size ≤ b := L6'.lowF (by rw [hw5]; exact hbS.trans ((below_trans hb4 (below_alloc _ _)).mono (by omega))) (fun b hb => by have := HF.out b hb; omega)
      have hb6 : Below w.heap.size w w6 := L6'.low (by rw [hw5]; exact hbS.trans ((below_trans hb4 (below_alloc _ _)).mono (by omega))) (fun b hb => by have := HF.out b hb; omega)
      obtain ⟨w7, hw7⟩ : ∃ W, W = w6.alloc (.cells #[.int .i64 rp.err, .string (bs rp.node), .int .i64 rp.score, .slice oo rp.reasons.length oc, .int .i64 rp.fresh] 59) := ⟨_, rfl⟩
      have hb67 : Below w6.heap.size w6 w7 := by rw [hw7]; exact below_alloc _ _
      have z7 : w7.heap.size = w6.heap.size + 1 := by rw [hw7]; simp
      have B7 : BSt F6 w7 Y a2 := L6'.st.below hb67
      have box7 : w7.heap[w6.heap.size]? = some (.cells (repCells rp oo oc) 59 (0, 0)) := by rw [hw7]; exact block_alloc_new _ _
      have box47 : w7.heap[w4.heap.size]? = some (.cells pr.cells 33 (0, 0)) := (hb67.block _ (lt_of_block box6)).trans box6
      have n67 : ¬ F6 w6.heap.size := fun h => by have := L6'.st.lt _ h; omega
      have rsn7 := (Kept.of_below (F := noBlock) hb67).ownsRow R6'.rsn fun _ _ => id
      have rn7 : ∀ b, (Value.slice oo rp.reasons.length oc).ownBlock = some b → ¬ F6 b := fun b hb => (R6'.rnew b hb).2
      have ok7 := ok6.below hb67
      have hb7 : Below w.heap.size w w7 := hb6.trans (hb67.mono hb6.size)
      have prn : pr.name = ⟨#[109, 111, 111, 116]⟩ := by rw [hpr]; rfl
      have prv : pr.val = v := by rw [hpr]; exact hpv
      have prc : pr.cells = #[.string ⟨#[109, 111, 111, 116]⟩, .int .i64 pr.n0, .int .i64 pr.n1, .int .i64 pr.n2, .int .i64 pr.port, .slice pr.labels.a pr.labels.L.length pr.labels.cap, .slice pr.select.a pr.select.L.length pr.select.cap, .slice pr.bears.a pr.bears.L.length pr.bears.cap, .slice pr.near.a pr.near.L.length pr.near.cap, .slice pr.apart.a pr.apart.L.length pr.apart.cap] := by rw [hpr]; rfl
      have HA3 : Hid (a1.tried ⟨#[109, 111, 111, 116]⟩ v = if rp.err = 0 then a2.drop (ky ⟨#[109, 111, 111, 116]⟩) else a2) := by
        show _ = _
        unfold Abs.tried
        rw [HRA.out]
      have hsp := HBS.out.fine.sp
      have HC3 : Hid ((a1.tried ⟨#[109, 111, 111, 116]⟩ v).core = a1.core) := tried_core hsp _ _
      have HB7 : Hid (BSt F6 w7 Y a2) := B7
      rw [← hw7]
      have r0 := repC box7
      generalize w6.heap.size = x15 at *
      generalize w4.heap.size = x14 at *
      clear hpr hw7 hw5 okr okr' L6 L6' R6 R6' B7 cS cP box5 box6 offr hb4 hb5 hpl hpn hpv okp kS hwS q0 q1 q2 q3 q4 q5 fw hb6 hb67 ok6 z5 z4 z7 hbS zS HFS HBS hsp HF hbw
      go_cut [] from 46 to 58 (fun wx => ∃ F7, Left F6 w7 Y (a1.tried ⟨#[109, 111, 111, 116]⟩ v) F7 wx)
      case first =>
        have cD := spec_drop HB7.out ⟨#[109, 111, 111, 116]⟩ (by decide)
        by_cases he : rp.err = 0
        · go_wp2_with (go_at_call 32; refine cD.mono ?_; rintro e w8 ⟨F8, rfl, L8⟩)
          go_meet
          rw [HA3.out, if_pos he]
          exact ⟨F8, L8⟩
        · have heb : (rp.err == 0) = false := by simpa using he
          go_wp2
          go_meet
          rw [HA3.out, if_neg he]
          exact ⟨F6, Left.of_below HB7.out (Below.refl _ _)⟩
      case rest =>
        obtain ⟨F7, L7⟩ := hcut
        have hC3 := HC3.out
        have HL7 : Hid _ := L7
        clear L7 HC3 HA3
        generalize a1.tried ⟨#[109, 111, 111, 116]⟩ v = a3 at *
        have HL7 : Hid (Left F6 w7 Y a3 F7 wc) := HL7.out
        have cT := spec_state HL7.out.st
        unfold stV at cT
        go_wp2_with (go_at_call 25; refine cT.mono ?_; rintro e w8 ⟨o1, k1, p1, j1, rfl, S8, hb8⟩)
        obtain ⟨w9, hw9⟩ : ∃ W, W = w8.alloc (.cells #[.int .i64 a3.now, .slice o1 a3.N.length k1, .slice p1 a3.P.length j1, .int .i64 a3.W.length] 67) := ⟨_, rfl⟩
        have hb89 : Below w8.heap.size w8 w9 := by rw [hw9]; exact below_alloc _ _
        have z9 : w9.heap.size = w8.heap.size + 1 := by rw [hw9]; simp
        have hbc9 : Below wc.heap.size wc w9 := below_trans hb8 hb89
        have L9 : Left F6 w7 Y a3 F7 w9 := HL7.out.behind hbc9
        have B9 := L9.st
        have x16 : w9.heap[w8.heap.size]? = some (.cells #[.int .i64 a3.now, .slice o1 a3.N.length k1, .slice p1 a3.P.length j1, .int .i64 a3.W.length] 67 (0, 0)) := by rw [hw9]; exact block_alloc_new _ _
        have S9 := S8.onward hb89
        have F7c := HL7.out.st.lt
        have n16 : ¬ F7 w8.heap.size := fun h => by have := F7c _ h; have := hb8.size; omega
        have u9 : ∀ b, (Value.slice o1 a3.N.length k1).ownBlock = some b → ¬ F7 b := fun b hb h => by have := F7c _ h; have := S8.unew b hb; omega
        have v9 : ∀ b, (Value.slice p1 a3.P.length j1).ownBlock = some b → ¬ F7 b := fun b hb h => by have := F7c _ h; have := S8.lnew b hb; omega
        have x15' := L9.blk box7 n67
        have x14' := L9.blk box47 n46
        have rsn9 := L9.kept.ownsRow rsn7 rn7
        obtain ⟨ok9, off9⟩ := L9.podOk ok7 off6
        have m15 : ¬ F7 x15 := L9.off (lt_of_block box7) n67
        have m14 : ¬ F7 x14 := L9.off (lt_of_block box47) n46
        have rn9 : ∀ b, (Value.slice oo rp.reasons.length oc).ownBlock = some b → ¬ F7 b := fun b hb => L9.off (row_lt rsn7 hb) (rn7 b hb)
        have hb9 : Below w.heap.size w w9 := L9.low hb7 hF6
        have hF7 : ∀ b, F7 b → w.heap.size ≤ b := L9.lowF hb7 hF6
        have HBs' : Hid (RawsAt w aB B) := HBs.out
        rw [← hw9]
        obtain ⟨x16b, hx16⟩ : ∃ x, x = w8.heap.size := ⟨_, rfl⟩
        rw [← hx16] at x16 n16 ⊢
        have HR : Hid ((w9.heap[x16b]? = some (.cells #[.int .i64 a3.now, .slice o1 a3.N.length k1, .slice p1 a3.P.length j1, .int .i64 a3.W.length] 67 (0, 0)) ∧ ¬ F7 x16b) ∧ (StAt wc w9 a3 o1 k1 p1 j1 ∧ (∀ b, (Value.slice o1 a3.N.length k1).ownBlock = some b → ¬ F7 b) ∧ ∀ b, (Value.slice p1 a3.P.length j1).ownBlock = some b → ¬ F7 b) ∧ (w9.heap[x15]? = some (.cells (repCells rp oo oc) 59 (0, 0)) ∧ ¬ F7 x15) ∧ (w9.heap[x14]? = some (.cells pr.cells 33 (0, 0)) ∧ ¬ F7 x14) ∧ (w9.ownsRow 0 103 2 (.slice oo rp.reasons.length oc) rp.reasons.length (rp.reasons.flatMap rsnRow) ∧ ∀ b, (Value.slice oo rp.reasons.length oc).ownBlock = some b → ¬ F7 b) ∧ (pr.ok w9 ∧ pr.off F7)) := ⟨⟨x16, n16⟩, ⟨S9, u9, v9⟩, ⟨x15', m15⟩, ⟨x14', m14⟩, ⟨rsn9, rn9⟩, ⟨ok9, off9⟩⟩
        have HB9 : Hid (BSt F7 w9 Y a3) := B9
        have HLow : Hid (Below w.heap.size w w9 ∧ ∀ b, F7 b → w.heap.size ≤ b) := ⟨hb9, hF7⟩
        have hC3' : a3.core = a1.core := hC3
        have HPr : Hid (pr.name = ⟨#[109, 111, 111, 116]⟩ ∧ pr.val = v ∧ pr.cells = #[.string ⟨#[109, 111, 111, 116]⟩, .int .i64 pr.n0, .int .i64 pr.n1, .int .i64 pr.n2, .int .i64 pr.port, .slice pr.labels.a pr.labels.L.length pr.labels.cap, .slice pr.select.a pr.select.L.length pr.select.cap, .slice pr.bears.a pr.bears.L.length pr.bears.cap, .slice pr.near.a pr.near.L.length pr.near.cap, .slice pr.apart.a pr.apart.L.length pr.apart.cap]) := ⟨prn, prv, prc⟩
        have hf3 := B9.fine
        have HCc : Hid (a3.core = a1.core) := hC3'
        clear hC3 hC3' x16 n16 S9 S8 u9 v9 x15' x14' rsn9 ok9 off9 m15 m14 rn9 hb9 hF7 B9 L9 hw9 hx16 F7c HL7 cT hb8 hb89 hbc9 z9 prn prv prc box7 box47 n67 n46 rsn7 rn7 ok7 off6 hb7 hF6 HB7 r0 HBs
        go_loopw [17] (fun i wr => ∃ (k : Nat) (F : Nat → Prop) (a' : Abs), k ≤ B.length ∧ i = .int .i64 k ∧ Left F7 w9 Y a' F wr ∧ a'.core = a3.core) (fun i _ => B.length - (intOf i).toNat)
        case atStart => exact ⟨0, F7, a3, Nat.zero_le _, rfl, Left.of_below HB9.out (Below.refl _ _), rfl⟩
        case round =>
          obtain ⟨k, F, ac, hk, rfl, LL, hac⟩ := hrel
          have HLL : Hid (Left F7 w9 Y ac F wr) := LL
          have HAC : Hid (ac.core = a3.core) := hac
          have hbw' := LL.low HLow.out.1 HLow.out.2
          clear LL hac
          by_cases hlt : k < B.length
          · obtain ⟨sb, off, rfl, hbl, hok, s0, s1, s2, s3, s4, s5⟩ := (HBs'.out.below hbw') k hlt
            generalize B[k] = r at *
            have cP2 := kpod_val r hok wr
            unfold RawD.cells at cP2
            unfold PodD.cells Lst.val at cP2
            obtain ⟨v2, hv2⟩ : ∃ x, x = r.podV := ⟨_, rfl⟩
            rw [← hv2] at cP2
            obtain ⟨rq, a4, hrq⟩ : ∃ rq a4, ac.sched ⟨#[111, 116, 104, 101, 114]⟩ v2 = (rq, a4) := ⟨_, _, rfl⟩
            have HRQ : Hid (ac.sched ⟨#[111, 116, 104, 101, 114]⟩ v2 = (rq, a4)) := hrq
            have HTr : Hid ((ac.tried ⟨#[111, 116, 104, 101, 114]⟩ v2).core = a3.core ∧ (rq.err = 0 → a4.dropErr (ky ⟨#[111, 116, 104, 101, 114]⟩) = 0) ∧ ac.tried ⟨#[111, 116, 104, 101, 114]⟩ v2 = if rq.err = 0 then a4.drop (ky ⟨#[111, 116, 104, 101, 114]⟩) else a4) := by
              refine ⟨(tried_core HLL.out.st.fine.sp _ _).trans HAC.out, fun h => ?_, ?_⟩
              · have := (sched_drop HLL.out.st.fine.sp ⟨#[111, 116, 104, 101, 114]⟩ v2 (by rw [hrq]; exact h)).2
                rw [hrq] at this
                exact this
              · unfold Abs.tried
                rw [hrq]
            clear hv2 hrq
            by_cases he : rq.err = 0
            · go_wp2_with (first
                | (go_at_call 29; refine cP2.mono ?_; rintro e w10 ⟨pd, rfl, okp, hpn, hpv, hb10⟩; have hb11 := below_alloc w10 (.cells (pd.renamed ⟨#[111, 116, 104, 101, 114]⟩).cells 33); have cS := spec_sched ((HLL.out.st.below hb10).below hb11) (pd.renamed ⟨#[111, 116, 104, 101, 114]⟩) (renamed_ok (okp.below hb11) _ (by decide)); rw [show (pd.renamed ⟨#[111, 116, 104, 101, 114]⟩).name = ⟨#[111, 116, 104, 101, 114]⟩ from rfl, show (pd.renamed ⟨#[111, 116, 104, 101, 114]⟩).val = v2 from hpv, HRQ.out] at cS; unfold repV PodD.cells PodD.renamed Lst.val at cS; dsimp only at cS)
                | (go_at_call 33; refine cS.mono ?_; rintro e w12 ⟨F12, o2, k2, rfl, L12, R12⟩; have hb13 := fun o => below_alloc w12 o; have cD := fun o => spec_drop (L12.st.below (hb13 o)) ⟨#[111, 116, 104, 101, 114]⟩ (by decide); rw [HTr.out.2.1 he] at cD)
                | (go_at_call 32; refine (cD _).mono ?_; rintro e w14 ⟨F14, rfl, L14⟩))
              go_roundw
              case rel =>
                refine ⟨k + 1, F14, ac.tried ⟨#[111, 116, 104, 101, 114]⟩ v2, by omega, by go_num, ?_, HTr.out.1⟩
                rw [HTr.out.2.2, if_pos he]
                exact (((HLL.out.behind (below_trans hb10 hb11)).then L12).behind (hb13 _)).then L14
              case measure => simp [intOf]; omega
            · have heb : (rq.err == 0) = false := by simpa using he
              go_wp2_with (first
                | (go_at_call 29; refine cP2.mono ?_; rintro e w10 ⟨pd, rfl, okp, hpn, hpv, hb10⟩; have hb11 := below_alloc w10 (.cells (pd.renamed ⟨#[111, 116, 104, 101, 114]⟩).cells 33); have cS := spec_sched ((HLL.out.st.below hb10).below hb11) (pd.renamed ⟨#[111, 116, 104, 101, 114]⟩) (renamed_ok (okp.below hb11) _ (by decide)); rw [show (pd.renamed ⟨#[111, 116, 104, 101, 114]⟩).name = ⟨#[111, 116, 104, 101, 114]⟩ from rfl, show (pd.renamed ⟨#[111, 116, 104, 101, 114]⟩).val = v2 from hpv, HRQ.out] at cS; unfold repV PodD.cells PodD.renamed Lst.val at cS; dsimp only at cS)
                | (go_at_call 33; refine cS.mono ?_; rintro e w12 ⟨F12, o2, k2, rfl, L12, R12⟩; have hb13 := below_alloc w12 (.cells #[.int .i64 rq.err, .string (bs rq.node), .int .i64 rq.score, .slice o2 rq.reasons.length k2, .int .i64 rq.fresh] 59)))
              go_roundw
              case rel =>
                refine ⟨k + 1, F12, ac.tried ⟨#[111, 116, 104, 101, 114]⟩ v2, by omega, by go_num, ?_, HTr.out.1⟩
                rw [HTr.out.2.2, if_neg he]
                exact ((HLL.out.behind (below_trans hb10 hb11)).then L12).behind hb13
              case measure => simp [intOf]; omega
          · have hbB : k = B.length := by omega
            clear hbB hk
            have LL := HLL.out
            obtain ⟨⟨x16, n16⟩, ⟨S9, u9, v9⟩, ⟨x15', m15⟩, ⟨x14', m14⟩, ⟨rsn9, rn9⟩, ⟨ok9, off9⟩⟩ := HR.out
            have y16 := LL.blk x16 n16
            have y15 := LL.blk x15' m15
            have y14 := LL.blk x14' m14
            have k16 := LL.off (lt_of_block x16) n16
            have k15 := LL.off (lt_of_block x15') m15
            have k14 := LL.off (lt_of_block x14') m14
            have rsnr := LL.kept.ownsRow rsn9 rn9
            have rnr : ∀ b, (Value.slice oo rp.reasons.length oc).ownBlock = some b → ¬ F b := fun b hb => LL.off (row_lt rsn9 hb) (rn9 b hb)
            obtain ⟨okr, offr⟩ := LL.podOk ok9 off9
            have usr := LL.kept.ownsRow S9.us u9
            have lsr := LL.kept.ownsRow S9.ls v9
            have hFr := LL.lowF HLow.out.1 HLow.out.2
            have cT2 : Calls Try.prog 25 #[.pointer (some ⟨Y, 0, none⟩)] wr fun e w' => ∃ o2 k2 p2 j2, e = .returned (.agg #[.int .i64 a3.now, .slice o2 a3.N.length k2, .slice p2 a3.P.length j2, .int .i64 a3.W.length]) ∧ StAt wr w' a3 o2 k2 p2 j2 ∧ Below wr.heap.size wr w' := by
              refine (spec_state LL.st).mono ?_
              rintro e w' ⟨o2, k2, p2, j2, he, hS, hb⟩
              exact ⟨o2, k2, p2, j2, by rw [he, stV_core HAC.out]; rfl, hS.core HAC.out, hb⟩
            obtain ⟨fr2, a5, h5⟩ : ∃ fr2 a5, ac.sched ⟨#[109, 111, 111, 116]⟩ v = ({ rp with fresh := fr2 }, a5) := by
              have hc := sched_core (HAC.out.trans HCc.out) ⟨#[109, 111, 111, 116]⟩ v
              rw [HRA.out] at hc
              refine ⟨(ac.sched ⟨#[109, 111, 111, 116]⟩ v).1.fresh, (ac.sched ⟨#[109, 111, 111, 116]⟩ v).2, ?_⟩
              have : (ac.sched ⟨#[109, 111, 111, 116]⟩ v).1 = { rp with fresh := (ac.sched ⟨#[109, 111, 111, 116]⟩ v).1.fresh } := by
                unfold Rep.core at hc
                generalize (ac.sched ⟨#[109, 111, 111, 116]⟩ v).1 = z at *
                cases z
                simp only [Rep.mk.injEq, and_true] at hc
                obtain ⟨h1, h2, h3, h4⟩ := hc
                simp [h1, h2, h3, h4]
              exact Prod.ext this rfl
            have HLst : Hid (BSt F wr Y ac) := LL.st
            have HS5 : Hid (ac.sched ⟨#[109, 111, 111, 116]⟩ v = ({ rp with fresh := fr2 }, a5)) := h5
            have HQ : Hid ((w9.ownsRow 0 103 2 (.slice oo rp.reasons.length oc) rp.reasons.length (rp.reasons.flatMap rsnRow))) := rsn9
            have HUs : Hid _ := usr
            have HLs : Hid _ := lsr
            have HRr : Hid _ := rsnr
            have HRn : Hid _ := rnr
            have HOk : Hid (pr.ok wr ∧ pr.off F) := ⟨okr, offr⟩
            have HFr : Hid (∀ b, F b → w.heap.size ≤ b) := hFr
            have HFlt : Hid (∀ b, F b → b < wr.heap.size) := LL.st.lt
            have l16 := lt_of_block y16
            have l15 := lt_of_block y15
            have l14 := lt_of_block y14
            have hN3 : a3.N.length ≤ 1000 := by have := hf3.nn; omega
            have hP3 : a3.P.length ≤ 1000 := by have := hf3.np; omega
            have HK16 : Hid _ := y16
            have HK15 : Hid _ := y15
            have HK14 : Hid _ := y14
            clear LL x16 n16 S9 u9 v9 x15' m15 x14' m14 rsn9 rn9 ok9 off9 usr lsr rsnr rnr okr offr hFr h5 y16 y15 y14 HQ
            go_wp2_with (first
              | (go_at_call 25; refine cT2.mono ?_; rintro e w20 ⟨o2, k2, p2, j2, rfl, S20, hb20⟩; have hb21 := below_trans hb20 (below_alloc w20 (.cells #[.int .i64 a3.now, .slice o2 a3.N.length k2, .slice p2 a3.P.length j2, .int .i64 a3.W.length] 67)); have b16 := (hb21.block _ l16).trans HK16.out; obtain ⟨t0, t1, t2, t3⟩ := stC b16; have cE := sameState_any a3 _ o1 o2 p1 p2 k1 k2 j1 j2 hN3 hP3 ((Kept.of_below (F := noBlock) hb21).ownsRow HUs.out fun _ _ => id) ((Kept.of_below (F := noBlock) (below_alloc w20 (.cells #[.int .i64 a3.now, .slice o2 a3.N.length k2, .slice p2 a3.P.length j2, .int .i64 a3.W.length] 67))).ownsRow S20.us fun _ _ => id) ((Kept.of_below (F := noBlock) hb21).ownsRow HLs.out fun _ _ => id) ((Kept.of_below (F := noBlock) (below_alloc w20 (.cells #[.int .i64 a3.now, .slice o2 a3.N.length k2, .slice p2 a3.P.length j2, .int .i64 a3.W.length] 67))).ownsRow S20.ls fun _ _ => id); unfold stV at cE)
              | (go_at_call 26; refine cE.mono ?_; rintro e w22 ⟨rfl, hb22'⟩; have hb22 := below_trans hb21 hb22'; have b14 := (hb22.block _ l14).trans HK14.out; rw [HPr.out.2.2] at b14; have cS3 := spec_sched (HLst.out.below hb22) pr (HOk.out.1.below hb22); rw [HPr.out.1, HPr.out.2.1, HS5.out, HPr.out.2.2] at cS3; unfold repV at cS3; dsimp only at cS3; have c0 : w22.cell? ⟨x14, 0, none⟩ = some (.string ⟨#[109, 111, 111, 116]⟩) := (by rw [cell_of_block b14]; rfl); have c1 : w22.cell? ⟨x14, 1, none⟩ = some (.int .i64 pr.n0) := (by rw [cell_of_block b14]; rfl); have c2 : w22.cell? ⟨x14, 2, none⟩ = some (.int .i64 pr.n1) := (by rw [cell_of_block b14]; rfl); have c3 : w22.cell? ⟨x14, 3, none⟩ = some (.int .i64 pr.n2) := (by rw [cell_of_block b14]; rfl); have c4 : w22.cell? ⟨x14, 4, none⟩ = some (.int .i64 pr.port) := (by rw [cell_of_block b14]; rfl); have c5 : w22.cell? ⟨x14, 5, none⟩ = some (.slice pr.labels.a pr.labels.L.length pr.labels.cap) := (by rw [cell_of_block b14]; rfl); have c6 : w22.cell? ⟨x14, 6, none⟩ = some (.slice pr.select.a pr.select.L.length pr.select.cap) := (by rw [cell_of_block b14]; rfl); have c7 : w22.cell? ⟨x14, 7, none⟩ = some (.slice pr.bears.a pr.bears.L.length pr.bears.cap) := (by rw [cell_of_block b14]; rfl); have c8 : w22.cell? ⟨x14, 8, none⟩ = some (.slice pr.near.a pr.near.L.length pr.near.cap) := (by rw [cell_of_block b14]; rfl); have c9 : w22.cell? ⟨x14, 9, none⟩ = some (.slice pr.apart.a pr.apart.L.length pr.apart.cap) := (by rw [cell_of_block b14]; rfl))
              | (go_at_call 33; refine cS3.mono ?_; rintro e w23 ⟨F23, o3, k3, rfl, L23, R23⟩; have b15 := L23.blk ((hb22.block _ l15).trans HK15.out) k15; have lz := lt_of_block b15; obtain ⟨z0, z1, z2, z3, z4, z5⟩ := repC b15; have y0 := fun o => ((below_alloc w23 o).cell (p := ⟨x15, 0, none⟩) lz).trans z0; have y1 := fun o => ((below_alloc w23 o).cell (p := ⟨x15, 1, none⟩) lz).trans z1; have y2 := fun o => ((below_alloc w23 o).cell (p := ⟨x15, 2, none⟩) lz).trans z2; have y3 := fun o => ((below_alloc w23 o).cell (p := ⟨x15, 3, none⟩) lz).trans z3; have y4 := fun o => ((below_alloc w23 o).cell (p := ⟨x15, 4, none⟩) lz).trans z4; have cR := fun o => sameReply_any rp (w23.alloc o) oo o3 oc k3 hrl ((Kept.of_below (F := noBlock) (below_alloc w23 o)).ownsRow (L23.kept.ownsRow ((Kept.of_below (F := noBlock) hb22).ownsRow HRr.out fun _ _ => id) HRn.out) fun _ _ => id) ((Kept.of_below (F := noBlock) (below_alloc w23 o)).ownsRow R23.rsn fun _ _ => id); unfold repV at cR)
              | (go_at_call 24; refine (cR _).mono ?_; rintro e w25 ⟨rfl, hb25⟩))
            go_ret
            refine ⟨rfl, ?_⟩
            have q1 := hbw'.size
            have q2 := hb22.size
            have q3 := L23.kept.size
            exact ((hbw'.trans (hb22.mono q1)).trans (L23.kept.below (Nat.le_trans q1 q2) fun i hi h => by have := HFr.out i h; omega)).trans (((below_alloc w23 _).mono (Nat.le_trans q1 (Nat.le_trans q2 q3))).trans (hb25.mono (by simp; omega)))

end Go.Proofs.Ytchddaafibjmgaa
