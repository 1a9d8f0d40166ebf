/-
  sameReply and sameState at two that are the same: they say so.
  made and lives, walked.
-/
import Derived.Test.YtchddaafibjmgaaQA21
import Derived.BigQuiet
import Derived.ChangeKeysEq
namespace Go.Proofs.Ytchddaafibjmgaa
open Go.RowKit Go.Maps

theorem flat_getK {α : Type} (f : α → List Value) (s : Nat) (hf : ∀ x, (f x).length = s) : ∀ (xs : List α) (k j : Nat) (hk : k < xs.length), j < s → (xs.flatMap f)[k * s + j]? = (f xs[k])[j]?
  | x :: xs, 0, j, _, hj => by
    rw [List.flatMap_cons, List.getElem?_append_left (by rw [hf]; omega)]
    simp
  | x :: xs, k + 1, j, hk, hj => by
    rw [List.flatMap_cons, List.getElem?_append_right (by rw [hf, Nat.add_mul]; omega), hf, show (k + 1) * s + j - s = k * s + j from by rw [Nat.add_mul]; omega]
    simpa using flat_getK f s hf xs k j (by simpa using hk) hj

theorem own_cellK {w : World} {base : Nat} {e : TypeId} {ao : Option Addr} {s m cap n : Nat} {xs : List Value} (h : w.ownsRow base e s (.slice ao m cap) n xs) (hn : 0 < n) :
    ∃ g, ao = some ⟨g, 0, none⟩ ∧ g < w.heap.size ∧ (∀ i, i < n * s → w.cell? ⟨g, i, none⟩ = xs[i]?) ∧ (∀ i, w.frozen? ⟨g, i, none⟩ = false) := by
  rcases h.2 with ⟨_, rfl⟩ | ⟨g, cap', cur, hv, _, hgg, _, _, _, htk⟩
  · omega
  · simp only [Value.slice.injEq] at hv
    refine ⟨g, hv.1, lt_of_block hgg, fun i hi => ?_, fun i => frozen_of_block hgg⟩
    rw [cell_of_block hgg, ← htk, List.getElem?_take, if_pos hi]
    simp

theorem neq_rsn (s : ByteArray) (n : Int) (w : World) : (binOp .neq 103 (.agg #[.string s, .int .i64 n]) (.agg #[.string s, .int .i64 n])).run Try.prog w = .ok (.bool false) w := by
  have u9 := Try.underlying9
  have a9 := Try.isAgg9
  have z9 := Try.sizeOf9
  have u3 := Try.underlying3
  have a3 := Try.isAgg3
  have z3 := Try.sizeOf3
  have hS : Try.prog.underlying 103 = some (.struct (Try.prog.fieldsOf 103)) := by kernel_rfl
  have hp : Try.prog.stoodInHeld 103 = false := by kernel_rfl
  rw [run_neq_struct, show (10000 : Nat) = 9999 + 1 from rfl, run_equalIn_agg w 9999 103 _ _ hS hp]
  simp only [Program.fieldsOf, Try.underlying103]
  go_simp

theorem neq_lies (s z : ByteArray) (b : Bool) (n : Int) (w : World) : (binOp .neq 80 (.agg #[.string s, .string z, .bool b, .int .i64 n]) (.agg #[.string s, .string z, .bool b, .int .i64 n])).run Try.prog w = .ok (.bool false) w := by
  have u9 := Try.underlying9
  have a9 := Try.isAgg9
  have z9 := Try.sizeOf9
  have u3 := Try.underlying3
  have a3 := Try.isAgg3
  have z3 := Try.sizeOf3
  have u4 := Try.underlying4
  have a4 := Try.isAgg4
  have z4 := Try.sizeOf4
  have hS : Try.prog.underlying 80 = some (.struct (Try.prog.fieldsOf 80)) := by kernel_rfl
  have hp : Try.prog.stoodInHeld 80 = false := by kernel_rfl
  rw [run_neq_struct, show (10000 : Nat) = 9999 + 1 from rfl, run_equalIn_agg w 9999 80 _ _ hS hp]
  simp only [Program.fieldsOf, Try.underlying80]
  go_simp

theorem eq_three (a b c : Int) (w : World) : (Op.equalIn 9999 30 (.agg #[.int .i64 a, .int .i64 b, .int .i64 c]) (.agg #[.int .i64 a, .int .i64 b, .int .i64 c])).run Try.prog w = .ok true w := by
  have u3 := Try.underlying3
  have a3 := Try.isAgg3
  have z3 := Try.sizeOf3
  have hc : Try.prog.cellsOf 3 = 1 := by kernel_rfl
  obtain ⟨i, hi⟩ : ∃ i, Try.prog.info? 3 = some i := by
    cases h : Try.prog.info? 3 with
    | none => have : (Try.prog.info? 3).isSome = true := by kernel_rfl
              rw [h] at this; cases this
    | some i => exact ⟨i, rfl⟩
  rw [show (9999 : Nat) = 9998 + 1 from rfl, run_equalIn_array (P := Try.prog) w 9998 _ _ Try.underlying30 hi, hc]
  show (Op.eqItems 9998 3 1 _ _ [0, 1, 2]).run Try.prog w = _
  simp only [Op.eqItems]
  go_simp

theorem neq_use (s : ByteArray) (a b c n : Int) (w : World) : (binOp .neq 76 (.agg #[.string s, .int .i64 a, .int .i64 b, .int .i64 c, .int .i64 n]) (.agg #[.string s, .int .i64 a, .int .i64 b, .int .i64 c, .int .i64 n])).run Try.prog w = .ok (.bool false) w := by
  have u9 := Try.underlying9
  have a9 := Try.isAgg9
  have z9 := Try.sizeOf9
  have u3 := Try.underlying3
  have a3 := Try.isAgg3
  have z3 := Try.sizeOf3
  have u5 := Try.underlying30
  have a5 := Try.isAgg30
  have z5 := Try.sizeOf30
  have e5 := eq_three a b c
  have hS : Try.prog.underlying 76 = some (.struct (Try.prog.fieldsOf 76)) := by kernel_rfl
  have hp : Try.prog.stoodInHeld 76 = false := by kernel_rfl
  rw [run_neq_struct, show (10000 : Nat) = 9999 + 1 from rfl, run_equalIn_agg w 9999 76 _ _ hS hp]
  simp only [Program.fieldsOf, Try.underlying76]
  go_simp

set_option maxRecDepth 100000 in
set_option maxHeartbeats 2000000 in
theorem sameReply_any (r : Rep) (w : World) (o1 o2 : Option Addr) (k1 k2 : Nat) (hn : r.reasons.length ≤ 1000) (h1 : w.ownsRow 0 103 2 (.slice o1 r.reasons.length k1) r.reasons.length (r.reasons.flatMap rsnRow)) (h2 : w.ownsRow 0 103 2 (.slice o2 r.reasons.length k2) r.reasons.length (r.reasons.flatMap rsnRow)) :
    Calls Try.prog 24 #[repV r o1 k1, repV r o2 k2] w fun e w' => e = .returned (.bool true) ∧ Below w.heap.size w w' := by
  unfold repV
  have HO : Hid (∀ k, k < r.reasons.length → ∃ g1 g2, o1 = some ⟨g1, 0, none⟩ ∧ o2 = some ⟨g2, 0, none⟩ ∧ g1 < w.heap.size ∧ g2 < w.heap.size ∧ ∃ (s : ByteArray) (n : Int), w.cell? ⟨g1, k * 2, none⟩ = some (.string s) ∧ w.cell? ⟨g1, k * 2 + 1, none⟩ = some (.int .i64 n) ∧ w.cell? ⟨g2, k * 2, none⟩ = some (.string s) ∧ w.cell? ⟨g2, k * 2 + 1, none⟩ = some (.int .i64 n)) := by
    intro k hk
    obtain ⟨g1, e1, l1, c1, _⟩ := own_cellK h1 (by omega)
    obtain ⟨g2, e2, l2, c2, _⟩ := own_cellK h2 (by omega)
    have f0 := flat_getK rsnRow 2 (fun _ => rfl) r.reasons k 0 hk (by omega)
    have f1 := flat_getK rsnRow 2 (fun _ => rfl) r.reasons k 1 hk (by omega)
    refine ⟨g1, g2, e1, e2, l1, l2, bs r.reasons[k].1, r.reasons[k].2, ?_, ?_, ?_, ?_⟩
    · rw [c1 _ (by omega)]; exact f0
    · rw [c1 _ (by omega)]; exact f1
    · rw [c2 _ (by omega)]; exact f0
    · rw [c2 _ (by omega)]; exact f1
  clear h1 h2
  have hb2 : Below w.heap.size w ((w.alloc (.cells #[.int .i64 r.err, .string (bs r.node), .int .i64 r.score, .slice o1 r.reasons.length k1, .int .i64 r.fresh] 59)).alloc (.cells #[.int .i64 r.err, .string (bs r.node), .int .i64 r.score, .slice o2 r.reasons.length k2, .int .i64 r.fresh] 59)) := below_trans (below_alloc _ _) (below_alloc _ _)
  go_enter Try.func24, Try.ntmps24
  go_wp2
  go_loopw [5] (fun i wr => ∃ k n : Nat, k ≤ r.reasons.length ∧ i = .int .i64 k ∧ wr = ((w.alloc (.cells #[.int .i64 r.err, .string (bs r.node), .int .i64 r.score, .slice o1 r.reasons.length k1, .int .i64 r.fresh] 59)).alloc (.cells #[.int .i64 r.err, .string (bs r.node), .int .i64 r.score, .slice o2 r.reasons.length k2, .int .i64 r.fresh] 59)).drewN n) (fun i _ => r.reasons.length - (intOf i).toNat)
  case atStart => exact ⟨0, 0, Nat.zero_le _, rfl, rfl⟩
  case round =>
    obtain ⟨k, n, hk, rfl, rfl⟩ := hrel
    by_cases hlt : k < r.reasons.length
    · obtain ⟨g1, g2, rfl, rfl, l1, l2, s, m, a0, a1, b0, b1⟩ := HO.out k hlt
      have hq := neq_rsn s m
      go_wp2
      go_quiet (fail)
      go_wp2
      go_roundw
      case rel => exact ⟨k + 1, n + nq, by omega, by go_num, rfl⟩
      case measure => simp [intOf]; omega
    · go_wp2
      go_ret
      exact ⟨rfl, below_drewN hb2 _⟩

set_option maxRecDepth 100000 in
set_option maxHeartbeats 4000000 in
theorem sameState_any (a : Abs) (w : World) (o1 o2 p1 p2 : Option Addr) (k1 k2 j1 j2 : Nat) (hn : a.N.length ≤ 1000) (hp : a.P.length ≤ 1000) (h1 : w.ownsRow 0 76 5 (.slice o1 a.N.length k1) a.N.length (a.N.flatMap fun p => useRowA a.P p.1)) (h2 : w.ownsRow 0 76 5 (.slice o2 a.N.length k2) a.N.length (a.N.flatMap fun p => useRowA a.P p.1))
    (h3 : w.ownsRow 0 80 4 (.slice p1 a.P.length j1) a.P.length (a.P.flatMap liesRowA)) (h4 : w.ownsRow 0 80 4 (.slice p2 a.P.length j2) a.P.length (a.P.flatMap liesRowA)) :
    Calls Try.prog 26 #[stV a o1 k1 p1 j1, stV a o2 k2 p2 j2] w fun e w' => e = .returned (.bool true) ∧ Below w.heap.size w w' := by
  unfold stV
  have HO : Hid (∀ k, k < a.N.length → ∃ g1 g2, o1 = some ⟨g1, 0, none⟩ ∧ o2 = some ⟨g2, 0, none⟩ ∧ g1 < w.heap.size ∧ g2 < w.heap.size ∧ ∃ (s : ByteArray) (n0 n1 n2 n3 : Int), (w.cell? ⟨g1, k * 5, none⟩ = some (.string s) ∧ w.cell? ⟨g1, k * 5 + 1, none⟩ = some (.int .i64 n0) ∧ w.cell? ⟨g1, k * 5 + 2, none⟩ = some (.int .i64 n1) ∧ w.cell? ⟨g1, k * 5 + 3, none⟩ = some (.int .i64 n2) ∧ w.cell? ⟨g1, k * 5 + 4, none⟩ = some (.int .i64 n3)) ∧ w.cell? ⟨g2, k * 5, none⟩ = some (.string s) ∧ w.cell? ⟨g2, k * 5 + 1, none⟩ = some (.int .i64 n0) ∧ w.cell? ⟨g2, k * 5 + 2, none⟩ = some (.int .i64 n1) ∧ w.cell? ⟨g2, k * 5 + 3, none⟩ = some (.int .i64 n2) ∧ w.cell? ⟨g2, k * 5 + 4, none⟩ = some (.int .i64 n3)) := by
    intro k hk
    obtain ⟨g1, e1, l1, c1, _⟩ := own_cellK h1 (by omega)
    obtain ⟨g2, e2, l2, c2, _⟩ := own_cellK h2 (by omega)
    have f := fun j hj => flat_getK (fun p : Bytes × NodeV => useRowA a.P p.1) 5 (fun _ => rfl) a.N k j hk hj
    refine ⟨g1, g2, e1, e2, l1, l2, bs a.N[k].1, (usedOf a.P a.N[k].1).1, (usedOf a.P a.N[k].1).2.1, (usedOf a.P a.N[k].1).2.2, cntOf a.P a.N[k].1, ⟨?_, ?_, ?_, ?_, ?_⟩, ?_, ?_, ?_, ?_, ?_⟩
    · rw [c1 _ (by omega)]; exact f 0 (by omega)
    · rw [c1 _ (by omega)]; exact f 1 (by omega)
    · rw [c1 _ (by omega)]; exact f 2 (by omega)
    · rw [c1 _ (by omega)]; exact f 3 (by omega)
    · rw [c1 _ (by omega)]; exact f 4 (by omega)
    · rw [c2 _ (by omega)]; exact f 0 (by omega)
    · rw [c2 _ (by omega)]; exact f 1 (by omega)
    · rw [c2 _ (by omega)]; exact f 2 (by omega)
    · rw [c2 _ (by omega)]; exact f 3 (by omega)
    · rw [c2 _ (by omega)]; exact f 4 (by omega)
  have HP : Hid (∀ k, k < a.P.length → ∃ g1 g2, p1 = some ⟨g1, 0, none⟩ ∧ p2 = some ⟨g2, 0, none⟩ ∧ g1 < w.heap.size ∧ g2 < w.heap.size ∧ ∃ (s z : ByteArray) (b : Bool) (n : Int), (w.cell? ⟨g1, k * 4, none⟩ = some (.string s) ∧ w.cell? ⟨g1, k * 4 + 1, none⟩ = some (.string z) ∧ w.cell? ⟨g1, k * 4 + 2, none⟩ = some (.bool b) ∧ w.cell? ⟨g1, k * 4 + 3, none⟩ = some (.int .i64 n)) ∧ w.cell? ⟨g2, k * 4, none⟩ = some (.string s) ∧ w.cell? ⟨g2, k * 4 + 1, none⟩ = some (.string z) ∧ w.cell? ⟨g2, k * 4 + 2, none⟩ = some (.bool b) ∧ w.cell? ⟨g2, k * 4 + 3, none⟩ = some (.int .i64 n)) := by
    intro k hk
    obtain ⟨g1, e1, l1, c1, _⟩ := own_cellK h3 (by omega)
    obtain ⟨g2, e2, l2, c2, _⟩ := own_cellK h4 (by omega)
    have f := fun j hj => flat_getK liesRowA 4 (fun _ => rfl) a.P k j hk hj
    refine ⟨g1, g2, e1, e2, l1, l2, bs a.P[k].1, bs a.P[k].2.node, a.P[k].2.bound, a.P[k].2.since, ⟨?_, ?_, ?_, ?_⟩, ?_, ?_, ?_, ?_⟩
    · rw [c1 _ (by omega)]; exact f 0 (by omega)
    · rw [c1 _ (by omega)]; exact f 1 (by omega)
    · rw [c1 _ (by omega)]; exact f 2 (by omega)
    · rw [c1 _ (by omega)]; exact f 3 (by omega)
    · rw [c2 _ (by omega)]; exact f 0 (by omega)
    · rw [c2 _ (by omega)]; exact f 1 (by omega)
    · rw [c2 _ (by omega)]; exact f 2 (by omega)
    · rw [c2 _ (by omega)]; exact f 3 (by omega)
  clear h1 h2 h3 h4
  have hb2 : Below w.heap.size w ((w.alloc (.cells #[.int .i64 a.now, .slice o1 a.N.length k1, .slice p1 a.P.length j1, .int .i64 a.W.length] 67)).alloc (.cells #[.int .i64 a.now, .slice o2 a.N.length k2, .slice p2 a.P.length j2, .int .i64 a.W.length] 67)) := below_trans (below_alloc _ _) (below_alloc _ _)
  go_enter Try.func26, Try.ntmps26
  go_wp2
  go_loopw [5] (fun i wr => ∃ k n : Nat, k ≤ a.N.length ∧ i = .int .i64 k ∧ wr = ((w.alloc (.cells #[.int .i64 a.now, .slice o1 a.N.length k1, .slice p1 a.P.length j1, .int .i64 a.W.length] 67)).alloc (.cells #[.int .i64 a.now, .slice o2 a.N.length k2, .slice p2 a.P.length j2, .int .i64 a.W.length] 67)).drewN n) (fun i _ => a.N.length - (intOf i).toNat)
  case atStart => exact ⟨0, 0, Nat.zero_le _, rfl, rfl⟩
  case round =>
    obtain ⟨k, n, hk, rfl, rfl⟩ := hrel
    by_cases hlt : k < a.N.length
    · obtain ⟨g1, g2, rfl, rfl, l1, l2, s, m0, m1, m2, m3, ⟨a0, a1, a2, a3, a4⟩, b0, b1, b2, b3, b4⟩ := HO.out k hlt
      have hq := neq_use s m0 m1 m2 m3
      go_wp2
      go_quiet (fail)
      go_wp2
      go_roundw
      case rel => exact ⟨k + 1, n + nq, by omega, by go_num, rfl⟩
      case measure => simp [intOf]; omega
    · go_wp2
      go_loopw [6] (fun i wr => ∃ k n : Nat, k ≤ a.P.length ∧ i = .int .i64 k ∧ wr = ((w.alloc (.cells #[.int .i64 a.now, .slice o1 a.N.length k1, .slice p1 a.P.length j1, .int .i64 a.W.length] 67)).alloc (.cells #[.int .i64 a.now, .slice o2 a.N.length k2, .slice p2 a.P.length j2, .int .i64 a.W.length] 67)).drewN n) (fun i _ => a.P.length - (intOf i).toNat)
      case atStart => exact ⟨0, n, Nat.zero_le _, rfl, rfl⟩
      case round =>
        obtain ⟨k', n', hk', rfl, rfl⟩ := hrel
        by_cases hlt' : k' < a.P.length
        · obtain ⟨g1, g2, rfl, rfl, l1, l2, s, z, b, m, ⟨a0, a1, a2, a3⟩, b0, b1, b2, b3⟩ := HP.out k' hlt'
          have hq := neq_lies s z b m
          go_wp2
          go_quiet (fail)
          go_wp2
          go_roundw
          case rel => exact ⟨k' + 1, n' + nq, by omega, by go_num, rfl⟩
          case measure => simp [intOf]; omega
        · go_wp2
          go_ret
          exact ⟨rfl, below_drewN hb2 _⟩

end Go.Proofs.Ytchddaafibjmgaa

namespace Go.Proofs.Ytchddaafibjmgaa
open Go.RowKit Go.Maps

/-- A list of raw numbers in memory. -/
def RawsAt (w : World) (a : Option Addr) (L : List RawD) : Prop :=
  ∀ (k : Nat) (h : k < L.length), ∃ b off, a = some ⟨b, off, none⟩ ∧ b < w.heap.size ∧ L[k].ok ∧ w.cell? ⟨b, off + k * 6, none⟩ = some (.int .i64 L[k].kind) ∧ w.cell? ⟨b, off + k * 6 + 1, none⟩ = some (.int .i64 L[k].name) ∧ w.cell? ⟨b, off + k * 6 + 2, none⟩ = some (.int .i64 L[k].node) ∧ w.cell? ⟨b, off + k * 6 + 3, none⟩ = some (.int .i64 L[k].needs) ∧ w.cell? ⟨b, off + k * 6 + 4, none⟩ = some (.int .i64 L[k].flags) ∧ w.cell? ⟨b, off + k * 6 + 5, none⟩ = some (.int .i64 L[k].links)

theorem RawsAt.below {w w' : World} {a : Option Addr} {L : List RawD} (h : RawsAt w a L) (hb : Below w.heap.size w w') : RawsAt w' a L := by
  intro k hk
  obtain ⟨b, off, e, hlt, hok, h0, h1, h2, h3, h4, h5⟩ := h k hk
  exact ⟨b, off, e, Nat.lt_of_lt_of_le hlt hb.size, hok, by rw [hb.cell hlt]; exact h0, by rw [hb.cell hlt]; exact h1, by rw [hb.cell hlt]; exact h2, by rw [hb.cell hlt]; exact h3, by rw [hb.cell hlt]; exact h4, by rw [hb.cell hlt]; exact h5⟩

def abs0 (hold : Int) : Abs := ⟨1 + pickI hold 20, 0, [], [], [], []⟩
def putsA (a : Abs) (L : List RawD) : Abs := L.foldl (fun a r => a.put r.nodeName r.nodeV) a
def madeA (hold : Int) (L : List RawD) : Abs := putsA (abs0 hold) L

theorem putsA_succ (a : Abs) (L : List RawD) {k : Nat} (h : k < L.length) : putsA a (L.take (k + 1)) = (putsA a (L.take k)).put L[k].nodeName L[k].nodeV := by
  unfold putsA
  rw [List.take_succ_eq_append_getElem h, List.foldl_append]
  rfl

set_option maxRecDepth 100000 in
set_option maxHeartbeats 4000000 in
theorem made_any (hold : Int) (rem whole : Bool) (L : List RawD) (a : Option Addr) (cap : Nat) (w : World) (hh : i64 hold) (hl : L.length ≤ 4398046511104) (hL : RawsAt w a L) :
    Calls Try.prog 22 #[.int .i64 hold, .bool rem, .bool whole, .slice a L.length cap] w fun e w' => ∃ Y F, e = .returned (.pointer (some ⟨Y, 0, none⟩)) ∧ BSt F w' Y (madeA hold L) ∧ (∀ b, F b → w.heap.size ≤ b) ∧ Below w.heap.size w w' := by
  have c1 := fun W => pick_any hold 20 W (by omega) (by omega) hh.1 hh.2
  have hp := pickI_bound hold (n := 20) (by omega)
  have HA : Hid (abs0 hold = ⟨1 + pickI hold 20, 0, [], [], [], []⟩) := rfl
  generalize pickI hold 20 = hp20 at *
  have c2 := fun W => spec_new (1 + hp20) rem whole W (by omega) (by omega)
  have c3 := fun (r : RawD) (hr : r.ok) W => knode_val r hr W
  go_enter Try.func22, Try.ntmps22
  go_wp2_with (first
    | (go_at_call 28; refine (c1 _).mono ?_; rintro e w1 ⟨rfl, hw⟩; have hw := hw.symm; subst hw)
    | (go_at_call 44; refine (c2 _).mono ?_; rintro e w1 ⟨Y, rfl, B1, hb1⟩))
  have B1' : BSt (grow (fun _ => False) w w1) w1 Y (putsA (abs0 hold) (L.take 0)) := by
    show BSt _ _ _ (abs0 hold)
    rw [HA.out]
    exact B1
  have HB1 : Hid _ := B1'
  clear B1 B1' HA c1 c2
  go_loopw [11] (fun i wr => ∃ (k : Nat) (F : Nat → Prop), k ≤ L.length ∧ i = .int .i64 k ∧ BSt F wr Y (putsA (abs0 hold) (L.take k)) ∧ (∀ b, F b → w.heap.size ≤ b) ∧ Below w.heap.size w wr) (fun i _ => L.length - (intOf i).toNat)
  case atStart => exact ⟨0, _, Nat.zero_le _, rfl, HB1.out, fun b h => h.elim (fun h => h.elim) (fun h => h.1), hb1⟩
  case round =>
    clear HB1 hb1
    obtain ⟨k, F, hk, rfl, B, hF, hbw⟩ := hrel
    have HB : Hid (BSt F wr Y (putsA (abs0 hold) (L.take k))) := B
    have HF : Hid (∀ b, F b → w.heap.size ≤ b) := hF
    clear B hF
    by_cases hlt : k < L.length
    · obtain ⟨b, off, rfl, hbl, hok, h0, h1, h2, h3, h4, h5⟩ := (hL.below hbw) k hlt
      have HN : Hid (putsA (abs0 hold) (L.take (k + 1)) = (putsA (abs0 hold) (L.take k)).put L[k].nodeName L[k].nodeV) := putsA_succ _ _ hlt
      generalize L[k] = r at *
      have cN := c3 r hok wr
      unfold RawD.cells at cN
      go_wp2_with (first
        | (go_at_call 27; refine cN.mono ?_; rintro e w2 ⟨n, rfl, okn, hnn, hnv, hb2⟩; have cP := spec_put (HB.out.below hb2) n okn; rw [hnn, hnv] at cP)
        | (go_at_call 43; refine cP.mono ?_; rintro e w3 ⟨F3, rfl, L3⟩))
      go_roundw
      case rel =>
        refine ⟨k + 1, F3, by omega, by go_num, by rw [HN.out]; exact L3.st, fun b hb => ?_, ?_⟩
        · rcases L3.less b hb with h | h
          · exact HF.out b h
          · have := hbw.size
            have := hb2.size
            omega
        · refine (hbw.trans (hb2.mono hbw.size)).trans (L3.kept.below (Nat.le_trans hbw.size hb2.size) fun i hi h => ?_)
          have := HF.out i h
          omega
      case measure => simp [intOf]; omega
    · have hkn : k = L.length := by omega
      subst hkn
      have HB' := HB.out
      rw [List.take_length] at HB'
      have HB2 : Hid _ := HB'
      clear HB' HB
      go_wp2
      go_ret
      exact ⟨Y, F, rfl, HB2.out, HF.out, hbw⟩

/-! ### lives -/
def nodeL : NodeD := ⟨⟨#[110]⟩, 4, 0, 0, ⟨none, [], 0⟩, ⟨none, [], 0⟩⟩
def podL : PodD := ⟨⟨#[112]⟩, 1, 0, 0, 0, ⟨none, [], 0⟩, ⟨none, [], 0⟩, ⟨none, [], 0⟩, ⟨none, [], 0⟩, ⟨none, [], 0⟩⟩

theorem lstL_ok (w : World) : (⟨none, [], 0⟩ : Lst).ok w := ⟨by simp, by simp, LabsAt.nil _ _, fun x hx => by simp at hx⟩
theorem nodeL_ok (w : World) : nodeL.ok w := ⟨by decide, fun x hx => by simp only [nodeL, NodeD.lists, List.mem_cons, List.not_mem_nil, or_false] at hx; rcases hx with rfl | rfl <;> exact lstL_ok w⟩
theorem podL_ok (w : World) : podL.ok w := ⟨by decide, fun x hx => by simp only [podL, PodD.lists, List.mem_cons, List.not_mem_nil, or_false] at hx; rcases hx with rfl | rfl | rfl | rfl | rfl <;> exact lstL_ok w⟩

theorem lives_rep : (((abs0 4).put nodeL.name nodeL.val).sched podL.name podL.val).1 = ⟨0, [110], 75, [], 1⟩ := by kernel_rfl

set_option maxRecDepth 100000 in
set_option maxHeartbeats 4000000 in
theorem lives_any (w : World) : Calls Try.prog 21 #[] w fun e w' => e = .returned (.bool true) ∧ Below w.heap.size w w' := by
  have c1 := fun W => made_any 4 true false [] none 0 W ⟨by omega, by omega⟩ (by simp) (fun k h => by simp at h)
  have c2 := fun {F : Nat → Prop} {W : World} {Y : Nat} (B : BSt F W Y (madeA 4 [])) => (spec_put B nodeL (nodeL_ok W) : Calls Try.prog 43 #[.pointer (some ⟨Y, 0, none⟩), .agg #[.string ⟨#[110]⟩, .int .i64 4, .int .i64 0, .int .i64 0, .slice none 0 0, .slice none 0 0]] W fun e w' => ∃ F', e = .returned (.int .i64 ((madeA 4 []).putErr nodeL.name nodeL.val)) ∧ Left F W Y ((madeA 4 []).put nodeL.name nodeL.val) F' w')
  have c3 := fun {F : Nat → Prop} {W : World} {Y : Nat} (B : BSt F W Y ((madeA 4 []).put nodeL.name nodeL.val)) => spec_sched B podL (podL_ok W)
  have hrep : (Abs.sched ((madeA 4 []).put nodeL.name nodeL.val) podL.name podL.val).1 = ⟨0, [110], 75, [], 1⟩ := lives_rep
  rw [hrep] at c3
  have c3' := fun {F : Nat → Prop} {W : World} {Y : Nat} (B : BSt F W Y ((madeA 4 []).put nodeL.name nodeL.val)) => ((c3 B).mono fun e w' h => by
      obtain ⟨F', oo, oc, he, L, _⟩ := h
      exact ⟨F', oo, oc, he, L.st, L.less, L.kept⟩ : Calls Try.prog 33 #[.pointer (some ⟨Y, 0, none⟩), .agg #[.string ⟨#[112]⟩, .int .i64 1, .int .i64 0, .int .i64 0, .int .i64 0, .slice none 0 0, .slice none 0 0, .slice none 0 0, .slice none 0 0, .slice none 0 0]] W fun e w' => ∃ F' oo oc, e = .returned (.agg #[.int .i64 0, .string ⟨#[110]⟩, .int .i64 75, .slice oo 0 oc, .int .i64 1]) ∧ BSt F' w' Y _ ∧ (∀ b, F' b → grow F W w' b) ∧ Kept F W w')
  clear c3 hrep
  go_enter Try.func21, Try.ntmps21
  go_wp2_with (first
    | (go_at_call 22; refine (c1 _).mono ?_; rintro e w1 ⟨Y, F, rfl, B1, hF1, hb1⟩; have HB : Hid _ := B1; clear B1)
    | (go_at_call 43; refine (c2 HB.out).mono ?_; rintro e w2 ⟨F2, rfl, L2⟩)
    | (go_at_call 33; refine (c3' L2.st).mono ?_; rintro e w3 ⟨F3, oo, oc, rfl, B3, l3, k3⟩))
  go_ret
  refine ⟨rfl, hb1.trans ((L2.kept.below hb1.size fun i hi h => by have := hF1 i h; omega).trans ((k3.below (Nat.le_trans hb1.size L2.kept.size) fun i hi h => ?_).trans ((below_alloc _ _).mono (Nat.le_trans hb1.size (Nat.le_trans L2.kept.size k3.size)))))⟩
  rcases L2.less i h with h | h
  · have := hF1 i h; omega
  · have := hb1.size; omega

end Go.Proofs.Ytchddaafibjmgaa
