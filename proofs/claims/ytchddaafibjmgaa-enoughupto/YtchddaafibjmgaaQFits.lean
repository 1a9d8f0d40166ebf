/-
  Fits of the program and of the document's answer, each walked: both say whether every label of the first list is among the second.
-/
import Derived.Test.YtchddaafibjmgaaQA1
namespace Go.Proofs.Ytchddaafibjmgaa
open Go.RowKit

set_option maxHeartbeats 400000 in
theorem index_any (L : List Lab) (x : Lab) (a : Option Addr) (cap : Nat) (w : World) (hl : L.length ≤ 4398046511104) (h : LabsAt w a L) :
    Calls Try.prog 58 #[.slice a L.length cap, .agg #[.string x.1, .string x.2]] w fun e w' =>
      (∃ r : Int, e = .returned (.int .i64 r) ∧ decide (0 ≤ r) = labHas L x) ∧ Below w.heap.size w w' := by
  go_enter Try.func58, Try.ntmps58
  go_wp2
  go_loopw [8] (fun i wr => ∃ k n : Nat, k ≤ L.length ∧ i = .int .i64 k ∧ wr = (w.alloc (.cells #[.string x.1, .string x.2] 51)).drewN n ∧ labHas (L.take k) x = false) (fun i _ => L.length - (intOf i).toNat)
  case atStart => exact ⟨0, 0, Nat.zero_le _, rfl, rfl, rfl⟩
  case round =>
    obtain ⟨k, n, hk, rfl, rfl, hno⟩ := hrel
    have Hno : Hid (labHas (L.take k) x = false) := hno
    clear hno
    by_cases hlt : k < L.length
    · obtain ⟨b, off, rfl, hc⟩ := h.head (by omega)
      obtain ⟨hc1, hc2⟩ := hc k hlt
      have hb : b < w.heap.size := World.block_lt_of_cell? w _ hc1
      have htk := labHas_take (x := x) hlt
      have Htk : Hid (labHas (L.take (k + 1)) x = (labHas (L.take k) x || labEq x (labAt L k))) := htk
      clear htk
      cases hE : labEq x (labAt L k)
      · have heq := fun w => (eql_api x.1 x.2 (labAt L k).1 (labAt L k).2 w).trans (congrArg (fun q => Result.ok (Value.bool q) w) hE)
        have HE : Hid (labEq x (labAt L k) = false) := hE
        clear hE
        go_wp2
        go_quiet (fail)
        go_wp2
        go_roundw
        case rel => exact ⟨k + 1, n + nq, by omega, by go_num, rfl, by rw [Htk.out, HE.out, Hno.out]; rfl⟩
        case measure => simp [intOf]; omega
      · have heq := fun w => (eql_api x.1 x.2 (labAt L k).1 (labAt L k).2 w).trans (congrArg (fun q => Result.ok (Value.bool q) w) hE)
        have HE : Hid (labHas L x = true) := labHas_of_at hlt hE
        clear hE
        go_wp2
        go_quiet (fail)
        go_wp2
        go_ret
        exact ⟨⟨k, rfl, by rw [HE.out]; simp⟩, below_drewN (below_drewN (below_alloc _ _) _) _⟩
    · go_wp2
      go_ret
      exact ⟨⟨_, rfl, by have h0 := Hno.out; rw [List.take_of_length_le (by omega)] at h0; rw [h0]; rfl⟩, below_drewN (below_alloc _ _) _⟩

set_option maxHeartbeats 400000 in
theorem contains_any (L : List Lab) (x : Lab) (a : Option Addr) (cap : Nat) (w : World) (hl : L.length ≤ 4398046511104) (h : LabsAt w a L) :
    Calls Try.prog 42 #[.slice a L.length cap, .agg #[.string x.1, .string x.2]] w fun e w' => e = .returned (.bool (labHas L x)) ∧ Below w.heap.size w w' := by
  go_enter Try.func42, Try.ntmps42
  go_wp2_with (go_at_call 58; refine (index_any L x a cap _ hl (h.below (below_alloc _ _))).mono ?_; rintro e w' ⟨⟨r, rfl, hr⟩, hb⟩; have Hr : Hid (decide (0 ≤ r) = labHas L x) := hr; clear hr)
  go_ret
  exact ⟨by rw [← Hr.out]; rfl, below_trans (below_alloc _ _) hb⟩

set_option maxHeartbeats 400000 in
theorem fits_any (l L : List Lab) (a a' : Option Addr) (cap cap' : Nat) (w : World) (hl : l.length ≤ 4398046511104) (hL : L.length ≤ 4398046511104) (h : LabsAt w a l) (h' : LabsAt w a' L) :
    Calls Try.prog 18 #[.slice a l.length cap, .slice a' L.length cap'] w fun e w' => e = .returned (.bool (labFits l L)) ∧ Below w.heap.size w w' := by
  go_enter Try.func18, Try.ntmps18
  go_wp2
  go_loopw [9] (fun i wr => ∃ k : Nat, k ≤ l.length ∧ i = .int .i64 k ∧ Below w.heap.size w wr ∧ labFits (l.take k) L = true) (fun i _ => l.length - (intOf i).toNat)
  case atStart => exact ⟨0, Nat.zero_le _, rfl, Below.refl _ _, rfl⟩
  case round =>
    obtain ⟨k, hk, rfl, hbw, hno⟩ := hrel
    have Hno : Hid (labFits (l.take k) L = true) := hno
    clear hno
    by_cases hlt : k < l.length
    · have hr := h.below hbw
      have hr' := h'.below hbw
      obtain ⟨b, off, rfl, hc⟩ := hr.head (by omega)
      obtain ⟨hc1, hc2⟩ := hc k hlt
      have hb : b < wr.heap.size := World.block_lt_of_cell? wr _ hc1
      have Htk : Hid (labFits (l.take (k + 1)) L = (labFits (l.take k) L && labHas L (labAt l k))) := labFits_take hlt
      clear hc
      cases hE : labHas L (labAt l k)
      · have HE : Hid (labHas L (labAt l k) = false) := hE
        clear hE
        go_wp2_with (go_at_call 42; refine (contains_any L (labAt l k) a' cap' _ hL (hr'.below (below_alloc _ _))).mono ?_; rintro e w' ⟨rfl, hb'⟩; rw [HE.out])
        go_ret
        exact ⟨by rw [labFits_of_at hlt HE.out]; rfl, below_trans hbw (below_trans (below_alloc _ _) hb')⟩
      · have HE : Hid (labHas L (labAt l k) = true) := hE
        clear hE
        go_wp2_with (go_at_call 42; refine (contains_any L (labAt l k) a' cap' _ hL (hr'.below (below_alloc _ _))).mono ?_; rintro e w' ⟨rfl, hb'⟩; rw [HE.out])
        go_roundw
        case rel => exact ⟨k + 1, by omega, by go_num, below_trans hbw (below_trans (below_alloc _ _) hb'), by rw [Htk.out, HE.out, Hno.out]; rfl⟩
        case measure => simp [intOf]; omega
    · go_wp2
      go_ret
      exact ⟨by have h0 := Hno.out; rw [List.take_of_length_le (by omega)] at h0; rw [h0]; rfl, hbw⟩

set_option maxHeartbeats 400000 in
theorem rfits_any (l L : List Lab) (a a' : Option Addr) (cap cap' : Nat) (w : World) (hl : l.length ≤ 4398046511104) (hL : L.length ≤ 4398046511104) (h : LabsAt w a l) (h' : LabsAt w a' L) :
    Calls Try.prog 20 #[.slice a l.length cap, .slice a' L.length cap'] w fun e w' => e = .returned (.bool (labFits l L)) ∧ ∃ n, w' = w.drewN n := by
  go_enter Try.func20, Try.ntmps20
  go_wp2
  go_loopw [5] (fun i wr => ∃ k n : Nat, k ≤ l.length ∧ i = .int .i64 k ∧ wr = w.drewN n ∧ labFits (l.take k) L = true) (fun i _ => l.length - (intOf i).toNat)
  case atStart => exact ⟨0, 0, Nat.zero_le _, rfl, rfl, rfl⟩
  case round =>
    obtain ⟨k, n, hk, rfl, rfl, hno⟩ := hrel
    have Hno : Hid (labFits (l.take k) L = true) := hno
    clear hno
    by_cases hlt : k < l.length
    · obtain ⟨b, off, rfl, hc⟩ := h.head (by omega)
      obtain ⟨hc1, hc2⟩ := hc k hlt
      have Htk : Hid (labFits (l.take (k + 1)) L = (labFits (l.take k) L && labHas L (labAt l k))) := labFits_take hlt
      clear hc
      go_wp2
      go_loopw [6, 7] (fun f j wr => ∃ (g : Bool) (m n : Nat), m ≤ L.length ∧ j = .int .i64 m ∧ f = .bool g ∧ wr = w.drewN n ∧ labHas (L.take m) (labAt l k) = g) (fun _ j _ => L.length - (intOf j).toNat)
      case atStart => exact ⟨false, 0, n, Nat.zero_le _, rfl, rfl, rfl, rfl⟩
      case round =>
        obtain ⟨g, m, n', hm, rfl, rfl, rfl, hg⟩ := hrel
        have Hg : Hid (labHas (L.take m) (labAt l k) = g) := hg
        clear hg
        by_cases hlt' : m < L.length
        · obtain ⟨b', off', rfl, hc'⟩ := h'.head (by omega)
          obtain ⟨hc1', hc2'⟩ := hc' m hlt'
          clear hc'
          have Htk' : Hid (labHas (L.take (m + 1)) (labAt l k) = (labHas (L.take m) (labAt l k) || labEq (labAt l k) (labAt L m))) := labHas_take hlt'
          have heq := fun w => (eql_ref (labAt L m).1 (labAt L m).2 (labAt l k).1 (labAt l k).2 w)
          cases g
          · go_wp2
            go_quiet (fail)
            go_wp2
            go_roundw
            case rel => exact ⟨_, m + 1, _, by omega, by go_num, rfl, rfl, by rw [Htk'.out, Hg.out, Bool.false_or, labEq_comm]⟩
            case measure => simp [intOf]; omega
          · go_wp2
            go_quiet (fail)
            go_wp2
            go_roundw
            case rel => exact ⟨_, m + 1, _, by omega, by go_num, rfl, rfl, by rw [Htk'.out, Hg.out, Bool.true_or]⟩
            case measure => simp [intOf]; omega
        · have hg' := Hg.out
          rw [List.take_of_length_le (by omega)] at hg'
          have HG : Hid (labHas L (labAt l k) = g) := hg'
          clear hg'
          cases g
          · go_wp2
            go_ret
            exact ⟨by rw [labFits_of_at hlt HG.out]; rfl, _, rfl⟩
          · go_wp2
            go_roundw
            case rel => exact ⟨k + 1, _, by omega, by go_num, rfl, by rw [Htk.out, HG.out, Hno.out]; rfl⟩
            case measure => simp [intOf]; omega
    · go_wp2
      go_ret
      exact ⟨by have h0 := Hno.out; rw [List.take_of_length_le (by omega)] at h0; rw [h0]; rfl, _, rfl⟩

end Go.Proofs.Ytchddaafibjmgaa
