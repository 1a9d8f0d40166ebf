/-
  The program's small functions on nodes: hasNode, admits, copied, zone, areNeighbours.
  The program's zone and areNeighbours, walked.
  The program's Berth behind one write.
-/
import Derived.Test.YtchddaafibjmgaaQA3
import Derived.Test.YtchddaafibjmgaaQA1
import Derived.Maps.OwnSet
import Derived.Maps.OwnOps
import Derived.Deep.LoopGhost
namespace Go.Proofs.Ytchddaafibjmgaa
open Go.RowKit Go.Maps

theorem zeroNode (w : World) : (zeroValue 130).run Try.prog w = .ok (.agg #[.int .i64 0, .int .i64 0, .int .i64 0, .slice none 0 0, .slice none 0 0]) w := by kernel_rfl
theorem zeroPod (w : World) : (zeroValue 117).run Try.prog w = .ok (.pointer none) w := by kernel_rfl

theorem NodeAt.shape {F : Nat → Prop} {w : World} {v : Value} {n : NodeV} (h : NodeAt F w v n) : ∃ b1 c1 b2 c2, v = .agg #[.int .i64 n.r0, .int .i64 n.r1, .int .i64 n.r2, .slice (some ⟨b1, 0, none⟩) n.labels.length c1, .slice (some ⟨b2, 0, none⟩) n.taints.length c2] ∧
    F b1 ∧ F b2 ∧ (Lst.mk (some ⟨b1, 0, none⟩) n.labels c1).ok w ∧ (Lst.mk (some ⟨b2, 0, none⟩) n.taints c2).ok w := by
  obtain ⟨lv, tv, rfl, ⟨b1, c1, u1, rfl, f1, _, o1⟩, ⟨b2, c2, u2, rfl, f2, _, o2⟩⟩ := h
  exact ⟨b1, c1, b2, c2, rfl, f1, f2, o1, o2⟩

section
variable {F : Nat → Prop} {w : World} {Y : Nat} {hd : Head} {g : Gh}

theorem BMem.cN (H : BMem F w Y hd g) : w.cell? ⟨Y, 4, none⟩ = some (.map (some g.bn)) := by rw [cell_of_block H.box]; rfl
theorem BMem.cP (H : BMem F w Y hd g) : w.cell? ⟨Y, 5, none⟩ = some (.map (some g.bp)) := by rw [cell_of_block H.box]; rfl
theorem BMem.cF (H : BMem F w Y hd g) : w.cell? ⟨Y, 6, none⟩ = some (.map (some g.bf)) := by rw [cell_of_block H.box]; rfl
theorem BMem.cV (H : BMem F w Y hd g) : w.cell? ⟨Y, 7, none⟩ = some (.map (some g.bv)) := by rw [cell_of_block H.box]; rfl
theorem BMem.cC (H : BMem F w Y hd g) : w.cell? ⟨Y, 9, none⟩ = some (.chan (some g.bc)) := by rw [cell_of_block H.box]; rfl
theorem BMem.cA (H : BMem F w Y hd g) : w.cell? ⟨Y, 8, none⟩ = some (.map (some g.ba)) := by rw [cell_of_block H.box]; rfl

theorem BMem.getN (H : BMem F w Y hd g) {k : Bytes} {x : Value × NodeV} (h : getL g.NN k = some x) : getL (mapV (·.1) g.NN) k = some x.1 ∧ NodeAt F w x.1 x.2 := by
  refine ⟨by rw [getL_mapV, h]; rfl, H.nn _ (getL_mem h)⟩

theorem BMem.getP (H : BMem F w Y hd g) {k : Bytes} {x : Nat × LiesV} (h : getL g.PP k = some x) : getL (mapV (fun x => ptrV x.1) g.PP) k = some (.pointer (some ⟨x.1, 0, none⟩)) ∧ PodAt F w x.1 x.2 := by
  refine ⟨by rw [getL_mapV, h]; rfl, H.pp _ (getL_mem h)⟩

set_option maxRecDepth 100000 in
set_option maxHeartbeats 400000 in
theorem hasNode_any (H : BMem F w Y hd g) (s : ByteArray) (hs : s.size ≤ maxLen) :
    Calls Try.prog 59 #[.pointer (some ⟨Y, 0, none⟩), .string s] w fun e w' => e = .returned (.bool (getL g.NN (ky s)).isSome) ∧ Below w.heap.size w w' := by
  have hx := H.cN
  cases hg : getL g.NN (ky s) with
  | none =>
    have h1 : getL (mapV (·.1) g.NN) (ky s) = none := by rw [getL_mapV, hg]; rfl
    clear hg
    go_enter Try.func59, Try.ntmps59
    go_wp2_with (at_lookup; refine wpL_look_none _ rfl _ _ 104 rfl 9 130 strK Try.underlying104 (zeroNode _) g.bn _ rfl H.nd _ (ky s) rfl (keyS s hs) h1 ?_)
    go_ret
    exact ⟨rfl, below_alloc _ _⟩
  | some x =>
    obtain ⟨h1, h2⟩ := H.getN hg
    obtain ⟨b1, c1, b2, c2, h3, -⟩ := h2.shape
    rw [h3] at h1
    clear hg h2 h3
    go_enter Try.func59, Try.ntmps59
    go_wp2_with (at_lookup; refine wpL_look_some _ rfl _ _ 104 rfl 9 130 strK Try.underlying104 (zeroNode _) g.bn _ rfl H.nd _ (ky s) rfl (keyS s hs) _ h1 ?_)
    go_ret
    exact ⟨rfl, below_alloc _ _⟩

/-- May a pod of this name be there? -/
def Gh.admits (g : Gh) (k : Bytes) : Int := if (getL g.PP k).isSome then 5 else if 128 ≤ g.PP.length then 6 else 0

set_option maxRecDepth 100000 in
set_option maxHeartbeats 400000 in
theorem padmits_any (H : BMem F w Y hd g) (s : ByteArray) (hs : s.size ≤ maxLen) :
    Calls Try.prog 52 #[.pointer (some ⟨Y, 0, none⟩), .string s] w fun e w' => e = .returned (.int .i64 (g.admits (ky s))) ∧ w' = w := by
  have hx := H.cP
  cases hg : getL g.PP (ky s) with
  | none =>
    have h1 : getL (mapV (fun x => ptrV x.1) g.PP) (ky s) = none := by rw [getL_mapV, hg]; rfl
    have hl := mapV_length (fun x : Nat × LiesV => ptrV x.1) g.PP
    by_cases hP' : 128 ≤ g.PP.length
    · have HE : Hid (g.admits (ky s) = 6) := by show g.admits _ = 6; simp [Gh.admits, hg, hP']
      clear hg
      rw [← hl] at hP'
      clear hl
      go_enter Try.func52, Try.ntmps52
      go_wp2_with (first
        | (at_lookup; refine wpL_look_none _ rfl _ _ 105 rfl 9 117 strK Try.underlying105 (zeroPod _) g.bp _ rfl H.pd _ (ky s) rfl (keyS s hs) h1 ?_)
        | (at_len; refine wpL_len _ rfl _ 105 rfl 9 117 Try.underlying105 g.bp _ rfl H.pd ?_))
      go_ret
      exact ⟨by rw [HE.out]; rfl, rfl⟩
    · have HE : Hid (g.admits (ky s) = 0) := by show g.admits _ = 0; simp [Gh.admits, hg, hP']
      clear hg
      rw [← hl] at hP'
      clear hl
      go_enter Try.func52, Try.ntmps52
      go_wp2_with (first
        | (at_lookup; refine wpL_look_none _ rfl _ _ 105 rfl 9 117 strK Try.underlying105 (zeroPod _) g.bp _ rfl H.pd _ (ky s) rfl (keyS s hs) h1 ?_)
        | (at_len; refine wpL_len _ rfl _ 105 rfl 9 117 Try.underlying105 g.bp _ rfl H.pd ?_))
      go_ret
      exact ⟨by rw [HE.out]; rfl, rfl⟩
  | some x =>
    obtain ⟨h1, -⟩ := H.getP hg
    have HE : Hid (g.admits (ky s) = 5) := by show g.admits _ = 5; simp [Gh.admits, hg]
    clear hg
    go_enter Try.func52, Try.ntmps52
    go_wp2_with (at_lookup; refine wpL_look_some _ rfl _ _ 105 rfl 9 117 strK Try.underlying105 (zeroPod _) g.bp _ rfl H.pd _ (ky s) rfl (keyS s hs) _ h1 ?_)
    go_ret
    exact ⟨by rw [HE.out]; rfl, rfl⟩

end

/-! ### copied -/
theorem labCells_at {w : World} {b off : Nat} {L : List Lab} (hc : ∀ k, k < L.length → w.cell? ⟨b, off + k * 2, none⟩ = some (.string (labAt L k).1) ∧ w.cell? ⟨b, off + k * 2 + 1, none⟩ = some (.string (labAt L k).2)) :
    ∀ j v, (labCells L)[j]? = some v → w.cell? ((⟨b, off, none⟩ : Addr).add j) = some v := by
  intro j v hv
  have hj : j < 2 * L.length := by rw [← labCells_length]; exact (List.getElem?_eq_some_iff.1 hv).1
  have ha : (⟨b, off, none⟩ : Addr).add j = ⟨b, off + j, none⟩ := by
    unfold Addr.add
    split
    · rename_i h; rw [h]; rfl
    · rfl
  rw [ha]
  obtain ⟨k, rfl | rfl⟩ : ∃ k, j = k * 2 ∨ j = k * 2 + 1 := ⟨j / 2, by omega⟩
  · have h1 := (labCells_get L k (by omega)).1
    rw [hv] at h1
    rw [h1]
    exact (hc k (by omega)).1
  · have h1 := (labCells_get L k (by omega)).2
    rw [hv] at h1
    rw [h1]
    exact (hc k (by omega)).2

theorem labCells_one (L : List Lab) : ∀ v ∈ labCells L, v.oneCell' = true := by
  intro v hv
  unfold labCells at hv
  rw [List.mem_flatMap] at hv
  obtain ⟨x, _, hx⟩ := hv
  simp at hx
  rcases hx with rfl | rfl <;> rfl

theorem labsAt_setCells {w : World} {b n : Nat} {c : Array Value} {t : TypeId} (L : List Lab) (hb : w.heap[b]? = some (.cells c t (0, 0))) (hs : c.size = n * 2) (hn : n = L.length) : LabsAt (w.setCells b 0 (labCells L)) (some ⟨b, 0, none⟩) L := by
  subst hn
  have hin := World.cell?_setCells_in b (labCells L) 0 w (fun j hj => by
    rw [labCells_length] at hj
    rw [cell_of_block hb, Array.getElem?_eq_getElem (by omega)]
    rfl)
  intro k hk
  obtain ⟨h1, h2⟩ := labCells_get L k hk
  have l1 := (List.getElem?_eq_some_iff.1 h1)
  have l2 := (List.getElem?_eq_some_iff.1 h2)
  obtain ⟨l1, e1⟩ := l1
  obtain ⟨l2, e2⟩ := l2
  refine ⟨b, 0, rfl, ?_, ?_⟩
  · rw [hin (k * 2) l1, e1]
  · rw [show 0 + k * 2 + 1 = 0 + (k * 2 + 1) from by omega, hin (k * 2 + 1) l2, e2]

/-- A list of labels that a call has made. -/
def Made (w w' : World) (v : Value) (l : List Lab) : Prop := ∃ b cap, v = .slice (some ⟨b, 0, none⟩) l.length cap ∧ w.heap.size ≤ b ∧ OwnList (fun x => x = b) w' v l

theorem Made.own {w w' : World} {v : Value} {l : List Lab} {F : Nat → Prop} (h : Made w w' v l) (hF : ∀ b, w.heap.size ≤ b → b < w'.heap.size → F b) : OwnList F w' v l := by
  obtain ⟨b, cap, rfl, hb, ⟨b', cap', cur, e, rfl, h2, h3⟩⟩ := h
  simp only [Value.slice.injEq, true_and] at e
  subst e
  exact ⟨b', cap, cur, rfl, hF _ hb (lt_of_block h2), h2, h3⟩

set_option maxRecDepth 100000 in
set_option maxHeartbeats 400000 in
theorem copied_any (x : Lst) (w : World) (h : x.ok w) (hn : x.L.length ≤ 1000) :
    Calls Try.prog 61 #[x.val] w fun e w' => ∃ b cap, e = .returned (.slice (some ⟨b, 0, none⟩) x.L.length cap) ∧ w.heap.size ≤ b ∧ OwnList (fun y => y = b) w' (.slice (some ⟨b, 0, none⟩) x.L.length cap) x.L ∧ Below w.heap.size w w' := by
  obtain ⟨i0, hi, hz0, hz1, hz2⟩ := info_parts Try.infoLab
  have hsz : (Try.prog.info? 51).map (·.size) = some 2 := by rw [hi]; simp [hz1]
  obtain ⟨a, L, cap⟩ := x
  unfold Lst.val
  dsimp only at hn ⊢
  obtain ⟨o1, o2, o3, o4⟩ := h
  dsimp only at o1 o2 o3 o4
  by_cases h0 : 0 < L.length
  · obtain ⟨b, off, rfl, hc⟩ := o3.head h0
    have hb := World.block_lt_of_cell? w _ (hc 0 h0).1
    dsimp only at hb
    have Hc : Hid (∀ w1, Below w.heap.size w w1 → ∀ j v, (labCells L)[j]? = some v → w1.cell? ((⟨b, off, none⟩ : Addr).add j) = some v) := by
      intro w1 hb1
      exact labCells_at fun k hk => ⟨by rw [hb1.cell (p := ⟨b, off + k * 2, none⟩) hb]; exact (hc k hk).1, by rw [hb1.cell (p := ⟨b, off + k * 2 + 1, none⟩) hb]; exact (hc k hk).2⟩
    clear hc
    go_enter Try.func61, Try.ntmps61
    go_wp2_with (at_make; refine wpList_make_row _ rfl _ _ 31 rfl 51 i0 _ 2 Try.underlying31 hi hz0 hz1 _ _ _ _ L.length rfl rfl (by omega) (by omega) (by rw [hz2]; omega) (by unfold maxLen; omega) ?_; intro w1 hn1 hb1; have hcp := fun ty => run_copy_sized (P := Try.prog) w1 31 31 ty 51 w.heap.size 0 L.length L.length ⟨b, off, none⟩ L.length cap (labCells L) 2 L.length Try.underlying31 hsz (Nat.min_self _) (by rw [labCells_length]; omega) (Hc.out w1 hb1) (fun j hj => by rw [labCells_length] at hj; rw [cell_of_block hn1, Array.getElem?_eq_getElem (by rw [size_madeCells]; omega)]; rfl) (fun j _ => frozen_of_block hn1) (labCells_one L))
    go_ret
    refine ⟨_, _, rfl, Nat.le_refl _, ⟨_, _, _, rfl, rfl, block_setCells _ _ hn1, o1, Nat.le_refl _, labsAt_setCells L hn1 (size_madeCells _ _) rfl, o4⟩, below_setCells (Nat.le_refl _) _ _ hb1⟩
  · have hL : L = [] := List.eq_nil_of_length_eq_zero (by omega)
    subst hL
    go_enter Try.func61, Try.ntmps61
    go_wp2_with (at_make; refine wpList_make_row _ rfl _ _ 31 rfl 51 i0 _ 2 Try.underlying31 hi hz0 hz1 _ _ _ _ 0 rfl rfl (by rfl) (by rfl) (by rw [hz2]; omega) (by unfold maxLen; omega) ?_; intro w1 hn1 hb1; have hcp := fun ty => run_copy_zero (P := Try.prog) w1 31 31 ty 51 (some ⟨w.heap.size, 0, none⟩) a 0 0 0 cap Try.underlying31 i0 hi rfl)
    go_ret
    exact ⟨_, _, rfl, Nat.le_refl _, ⟨_, _, _, rfl, rfl, hn1, o1, Nat.le_refl _, LabsAt.nil _ _, o4⟩, hb1⟩

end Go.Proofs.Ytchddaafibjmgaa

namespace Go.Proofs.Ytchddaafibjmgaa
open Go.RowKit Go.Maps

set_option maxRecDepth 100000 in
set_option maxHeartbeats 400000 in
theorem pzone_any (r0 r1 r2 : Int) (a a2 : Option Addr) (L : List Lab) (c n2 c2 : Nat) (w : World) (hl : L.length ≤ 4398046511104) (o3 : LabsAt w a L) :
    Calls Try.prog 82 #[.agg #[.int .i64 r0, .int .i64 r1, .int .i64 r2, .slice a L.length c, .slice a2 n2 c2]] w fun e w' => e = .returned (.string (zoneOf L)) ∧ Below w.heap.size w w' := by
  go_enter Try.func82, Try.ntmps82
  go_wp2
  go_loopw [8] (fun i wr => ∃ k : Nat, k ≤ L.length ∧ i = .int .i64 k ∧ Below w.heap.size w wr ∧ zoneOf (L.drop k) = zoneOf L) (fun i _ => L.length - (intOf i).toNat)
  case atStart => exact ⟨0, Nat.zero_le _, rfl, below_alloc _ _, by simp⟩
  case round =>
    obtain ⟨k, hk, rfl, hbw, hz⟩ := hrel
    have Hz : Hid (zoneOf (L.drop k) = zoneOf L) := hz
    clear hz
    by_cases hlt : k < L.length
    · have hd := zoneOf_drop L k hlt
      obtain ⟨b, off, rfl, hc⟩ := (o3.below hbw).head (by omega)
      obtain ⟨hc1, hc2⟩ := hc k hlt
      have hb := World.block_lt_of_cell? wr _ hc1
      dsimp only at hb
      clear hc
      have Hd : Hid (zoneOf (L.drop k) = if (labAt L k).1.toList == zoneB.toList then (labAt L k).2 else zoneOf (L.drop (k + 1))) := hd
      clear hd
      cases hE : ((labAt L k).1.toList == zoneB.toList)
      · have HS : Hid (zoneOf (L.drop (k + 1)) = zoneOf L) := by show zoneOf _ = _; rw [← Hz.out, Hd.out, hE]; rfl
        rw [zoneB_list] at hE
        go_wp2
        go_roundw
        case rel => exact ⟨k + 1, by omega, by go_num, below_trans hbw (below_alloc _ _), HS.out⟩
        case measure => simp [intOf]; omega
      · have HS : Hid (zoneOf L = (labAt L k).2) := by show zoneOf _ = _; rw [← Hz.out, Hd.out, hE]; rfl
        rw [zoneB_list] at hE
        go_wp2
        go_ret
        exact ⟨by rw [HS.out]; rfl, below_trans hbw (below_alloc _ _)⟩
    · have h0 := Hz.out
      rw [List.drop_eq_nil_of_le (by omega)] at h0
      have H0 : Hid (zoneOf L = ⟨#[]⟩) := h0.symm
      clear h0
      go_wp2
      go_ret
      exact ⟨by rw [H0.out]; rfl, hbw⟩

/-- The zone of the node of a name; none: the empty text. -/
def zoneAt (nodes : List (Bytes × NodeV)) (k : Bytes) : ByteArray := match getL nodes k with
  | some n => zoneOf n.labels
  | none => ⟨#[]⟩
/-- Are two nodes neighbours? -/
def nbrB (nodes : List (Bytes × NodeV)) (a b : Bytes) : Bool := (a == b) || (!(zoneAt nodes a).toList.isEmpty && ((zoneAt nodes a).toList == (zoneAt nodes b).toList))

section
variable {F : Nat → Prop} {w : World} {Y : Nat} {hd : Head} {g : Gh}

theorem zoneAt_some {k : Bytes} {x : Value × NodeV} (h : getL g.NN k = some x) : zoneAt g.nodes k = zoneOf x.2.labels := by
  unfold zoneAt Gh.nodes
  rw [getL_mapV, h]
  rfl
theorem zoneAt_none {k : Bytes} (h : getL g.NN k = none) : zoneAt g.nodes k = ⟨#[]⟩ := by
  unfold zoneAt Gh.nodes
  rw [getL_mapV, h]
  rfl

/-- What a look-up of a node gives: as far as its zone goes. -/
theorem BMem.lookN (H : BMem F w Y hd g) (s : ByteArray) (hs : s.size ≤ maxLen) : ∃ r0 r1 r2 a L c a2 n2 c2, LabsAt w a L ∧ zoneOf L = zoneAt g.nodes (ky s) ∧ List.length L ≤ 4398046511104 ∧
    ∀ w1, Below w.heap.size w w1 → (Instr.lookup 104 (.map (some g.bn)) (.string s) false).run Try.prog w1 = .ok (.agg #[.int .i64 r0, .int .i64 r1, .int .i64 r2, .slice a (List.length L) c, .slice a2 n2 c2]) w1 := by
  have run : ∀ w1, Below w.heap.size w w1 → (Instr.lookup 104 (.map (some g.bn)) (.string s) false).run Try.prog w1 = .ok ((getL (mapV (·.1) g.NN) (ky s)).getD (.agg #[.int .i64 0, .int .i64 0, .int .i64 0, .slice none 0 0, .slice none 0 0])) w1 :=
    fun w1 hb => (H.below hb).nd.look strK Try.underlying104 (zeroNode w1) (keyS s hs)
  cases h : getL g.NN (ky s) with
  | none =>
    refine ⟨0, 0, 0, none, [], 0, none, 0, 0, LabsAt.nil _ _, by rw [zoneAt_none h]; rfl, by simp, fun w1 hb => ?_⟩
    rw [run w1 hb, getL_mapV, h]
    rfl
  | some x =>
    obtain ⟨h1, h2⟩ := H.getN h
    obtain ⟨b1, c1, b2, c2, h3, _, _, o1, _⟩ := h2.shape
    refine ⟨x.2.r0, x.2.r1, x.2.r2, some ⟨b1, 0, none⟩, x.2.labels, c1, some ⟨b2, 0, none⟩, x.2.taints.length, c2, o1.2.2.1, (zoneAt_some h).symm, o1.1, fun w1 hb => ?_⟩
    rw [run w1 hb, h1, Option.getD_some, h3]

set_option maxRecDepth 100000 in
set_option maxHeartbeats 400000 in
theorem nbr_any (H : BMem F w Y hd g) (s t : ByteArray) (hs : s.size ≤ maxLen) (ht : t.size ≤ maxLen) :
    Calls Try.prog 72 #[.pointer (some ⟨Y, 0, none⟩), .string s, .string t] w fun e w' => e = .returned (.bool (nbrB g.nodes (ky s) (ky t))) ∧ Below w.heap.size w w' := by
  have hx := H.cN
  obtain ⟨r0, r1, r2, a, L, c, a2, n2, c2, o1, z1, l1, k1⟩ := H.lookN s hs
  obtain ⟨q0, q1, q2, d, M, e, d2, m2, e2, o2, z2, l2, k2⟩ := H.lookN t ht
  have c1 := fun w1 (hb : Below w.heap.size w w1) => pzone_any r0 r1 r2 a a2 L c n2 c2 w1 l1 (o1.below hb)
  have c3 := fun w1 (hb : Below w.heap.size w w1) => pzone_any q0 q1 q2 d d2 M e m2 e2 w1 l2 (o2.below hb)
  have k1 := k1 w (Below.refl _ _)
  have hY := (H.lt Y H.fy)
  have hE' : (ky s == ky t) = (s.toList == t.toList) := by rw [toList_ky, toList_ky]
  cases hE : (s.toList == t.toList)
  · cases hZ : (zoneOf L).toList.isEmpty
    · have HE : Hid (nbrB g.nodes (ky s) (ky t) = ((zoneOf L).toList == (zoneOf M).toList)) := by show nbrB _ _ _ = _; rw [nbrB, hE', hE, ← z1, ← z2, hZ]; rfl
      clear z1 z2 hE'
      go_enter Try.func72, Try.ntmps72
      go_wp2_with (first
        | (go_at_call 82; refine (c3 w1 hb1).mono ?_; rintro e w2 ⟨rfl, hb2⟩)
        | (go_at_call 82; refine (c1 w (Below.refl _ _)).mono ?_; rintro e w1 ⟨rfl, hb1⟩; have y1 := fun o => hb1.cell (p := ⟨Y, o, none⟩) hY; have kk := k2 w1 hb1))
      go_ret
      exact ⟨by rw [HE.out]; rfl, below_trans hb1 hb2⟩
    · have HE : Hid (nbrB g.nodes (ky s) (ky t) = false) := by show nbrB _ _ _ = _; rw [nbrB, hE', hE, ← z1, hZ]; rfl
      clear z1 z2 hE'
      go_enter Try.func72, Try.ntmps72
      go_wp2_with (go_at_call 82; refine (c1 w (Below.refl _ _)).mono ?_; rintro e w1 ⟨rfl, hb1⟩)
      go_ret
      exact ⟨by rw [HE.out]; rfl, hb1⟩
  · have HE : Hid (nbrB g.nodes (ky s) (ky t) = true) := by show nbrB _ _ _ = _; rw [nbrB, hE', hE]; rfl
    clear z1 z2 hE'
    go_enter Try.func72, Try.ntmps72
    go_wp2_with (go_at_call 82; refine (c1 w (Below.refl _ _)).mono ?_; rintro e w1 ⟨rfl, hb1⟩)
    go_ret
    exact ⟨by rw [HE.out]; rfl, hb1⟩

end

end Go.Proofs.Ytchddaafibjmgaa

namespace Go.Proofs.Ytchddaafibjmgaa
open Go.RowKit Go.Maps

section
variable {F F' : Nat → Prop} {w w' : World} {Y : Nat} {hd : Head} {g : Gh}

theorem nodup_inj {α β : Type} {f : α → β} : ∀ {l : List α}, (l.map f).Nodup → ∀ {a b : α}, a ∈ l → b ∈ l → f a = f b → a = b
  | [], _, a, _, h, _, _ => by simp at h
  | x :: r, h, a, b, ha, hb, e => by
    rw [List.map_cons, List.nodup_cons] at h
    rcases List.mem_cons.1 ha with h1 | h1 <;> rcases List.mem_cons.1 hb with h2 | h2
    · rw [h1, h2]
    · exact absurd (List.mem_map.2 ⟨b, h2, by rw [← e, h1]⟩) h.1
    · exact absurd (List.mem_map.2 ⟨a, h1, by rw [e, h2]⟩) h.1
    · exact nodup_inj h.2 h1 h2 e

theorem BMem.inA (_ : BMem F w Y hd g) {p : Bytes × (Nat × List (Bytes × (Int × Int)))} (hp : p ∈ g.AA) : p.2.1 ∈ g.maps := List.mem_append_right _ (List.mem_map.2 ⟨p, hp, rfl⟩)

theorem BMem.ne5 (H : BMem F w Y hd g) : g.bn ≠ g.bp ∧ g.bn ≠ g.bf ∧ g.bn ≠ g.bv ∧ g.bn ≠ g.ba ∧ g.bp ≠ g.bf ∧ g.bp ≠ g.bv ∧ g.bp ≠ g.ba ∧ g.bf ≠ g.bv ∧ g.bf ≠ g.ba ∧ g.bv ≠ g.ba := by
  have d := H.dist
  unfold Gh.maps at d
  rw [List.nodup_append] at d
  have e := d.1
  simp only [List.nodup_cons, List.mem_cons, List.not_mem_nil, or_false, not_or] at e
  exact ⟨e.1.1, e.1.2.1, e.1.2.2.1, e.1.2.2.2, e.2.1.1, e.2.1.2.1, e.2.1.2.2, e.2.2.1.1, e.2.2.1.2, e.2.2.2.1⟩

theorem BMem.neA (H : BMem F w Y hd g) {p : Bytes × (Nat × List (Bytes × (Int × Int)))} (hp : p ∈ g.AA) : p.2.1 ≠ g.bn ∧ p.2.1 ≠ g.bp ∧ p.2.1 ≠ g.bf ∧ p.2.1 ≠ g.bv ∧ p.2.1 ≠ g.ba := by
  have d := H.dist
  unfold Gh.maps at d
  rw [List.nodup_append] at d
  have e := d.2.2
  have h : ∀ b ∈ [g.bn, g.bp, g.bf, g.bv, g.ba], p.2.1 ≠ b := fun b hb e' => e b hb p.2.1 (List.mem_map.2 ⟨p, hp, rfl⟩) e'.symm
  exact ⟨h _ (by simp), h _ (by simp), h _ (by simp), h _ (by simp), h _ (by simp)⟩

theorem BMem.nodupA (H : BMem F w Y hd g) : (g.AA.map (·.2.1)).Nodup := by
  have d := H.dist
  unfold Gh.maps at d
  rw [List.nodup_append] at d
  exact d.2.1

/-- One map has turned: all else stays. -/
theorem BMem.turn (H : BMem F w Y hd g) {b : Nat} (hb : b ∈ g.maps) (hk : Kept (fun x => x = b) w w') :
    (∀ b, F b → b < w'.heap.size) ∧ w'.heap[Y]? = some (.cells (boxCells hd g) 113 (0, 0)) ∧ (∀ p ∈ g.NN, NodeAt F w' p.2.1 p.2.2) ∧ (∀ p ∈ g.PP, PodAt F w' p.2.1 p.2.2) ∧ (∀ p ∈ g.VV, RowAt F w' p.2) ∧
      (∀ b', b' ≠ b → ∀ K L, MapAt Try.prog w K b' L → MapAt Try.prog w' K b' L) ∧ ChanAt F w' g.bc g.WW :=
  ⟨fun b hf => Nat.lt_of_lt_of_le (H.lt b hf) hk.size, by rw [hk.block Y (lt_of_block H.box) (H.ny hb)]; exact H.box, fun p hp => (H.nn p hp).kept hk (H.off hb _) (fun _ h => h),
    fun p hp => (H.pp p hp).kept hk (H.off hb _) ((H.pp p hp).off (H.off hb _)) (fun _ h => h), fun p hp => (H.vv p hp).kept hk (H.off hb _) (fun _ h => h), fun b' hne K L hm => hm.kept hk hne, H.ch.kept hk (H.ch.nmap (H.isMap hb)) (H.off hb _) (fun _ h => h)⟩

theorem BMem.setV (H : BMem F w Y hd g) (hk : Kept (fun x => x = g.bv) w w') {VV : List (Bytes × ViewG)} (hm : MapAt Try.prog w' 9 g.bv (mapV ViewG.val VV)) (hv : ∀ p ∈ VV, RowAt F w' p.2) : BMem F w' Y hd { g with VV := VV } := by
  have n := H.ne5
  obtain ⟨t1, t2, t3, t4, t5, t6, t7⟩ := H.turn (by simp [Gh.maps]) hk
  exact ⟨t1, H.fy, H.fm, t2, t6 _ n.2.2.1 _ _ H.nd, t6 _ n.2.2.2.2.2.1 _ _ H.pd, t6 _ n.2.2.2.2.2.2.2.1 _ _ H.fr, hm, t6 _ (Ne.symm n.2.2.2.2.2.2.2.2.2) _ _ H.an, t3, t4, hv, fun p hp => t6 _ (H.neA hp).2.2.2.1 _ _ (H.aa p hp), H.dist, H.ppd, t7⟩

theorem BMem.setF (H : BMem F w Y hd g) (hk : Kept (fun x => x = g.bf) w w') {FF : List (Bytes × Unit)} (hm : MapAt Try.prog w' 9 g.bf (mapV (fun _ => .agg #[]) FF)) : BMem F w' Y hd { g with FF := FF } := by
  have n := H.ne5
  obtain ⟨t1, t2, t3, t4, t5, t6, t7⟩ := H.turn (by simp [Gh.maps]) hk
  exact ⟨t1, H.fy, H.fm, t2, t6 _ n.2.1 _ _ H.nd, t6 _ n.2.2.2.2.1 _ _ H.pd, hm, t6 _ (Ne.symm n.2.2.2.2.2.2.2.1) _ _ H.vw, t6 _ (Ne.symm n.2.2.2.2.2.2.2.2.1) _ _ H.an, t3, t4, t5, fun p hp => t6 _ (H.neA hp).2.2.1 _ _ (H.aa p hp), H.dist, H.ppd, t7⟩

theorem BMem.setN (H : BMem F w Y hd g) (hk : Kept (fun x => x = g.bn) w w') {NN : List (Bytes × (Value × NodeV))} (hm : MapAt Try.prog w' 9 g.bn (mapV (·.1) NN)) (hv : ∀ p ∈ NN, NodeAt F w' p.2.1 p.2.2) : BMem F w' Y hd { g with NN := NN } := by
  have n := H.ne5
  obtain ⟨t1, t2, t3, t4, t5, t6, t7⟩ := H.turn (by simp [Gh.maps]) hk
  exact ⟨t1, H.fy, H.fm, t2, hm, t6 _ (Ne.symm n.1) _ _ H.pd, t6 _ (Ne.symm n.2.1) _ _ H.fr, t6 _ (Ne.symm n.2.2.1) _ _ H.vw, t6 _ (Ne.symm n.2.2.2.1) _ _ H.an, hv, t4, t5, fun p hp => t6 _ (H.neA hp).1 _ _ (H.aa p hp), H.dist, H.ppd, t7⟩

theorem BMem.setP (H : BMem F w Y hd g) (hk : Kept (fun x => x = g.bp) w w') {PP : List (Bytes × (Nat × LiesV))} (hm : MapAt Try.prog w' 9 g.bp (mapV (fun x => ptrV x.1) PP)) (hv : ∀ p ∈ PP, PodAt F w' p.2.1 p.2.2) (hd' : (PP.map (·.2.1)).Nodup) :
    BMem F w' Y hd { g with PP := PP } := by
  have n := H.ne5
  obtain ⟨t1, t2, t3, t4, t5, t6, t7⟩ := H.turn (by simp [Gh.maps]) hk
  exact ⟨t1, H.fy, H.fm, t2, t6 _ n.1 _ _ H.nd, hm, t6 _ (Ne.symm n.2.2.2.2.1) _ _ H.fr, t6 _ (Ne.symm n.2.2.2.2.2.1) _ _ H.vw, t6 _ (Ne.symm n.2.2.2.2.2.2.1) _ _ H.an, t3, hv, t5, fun p hp => t6 _ (H.neA hp).2.1 _ _ (H.aa p hp), H.dist, hd', t7⟩

/-- The answers of one kind have turned. -/
def setInner (AA : List (Bytes × (Nat × List (Bytes × (Int × Int))))) (k : Bytes) (l : List (Bytes × (Int × Int))) : List (Bytes × (Nat × List (Bytes × (Int × Int)))) := AA.map fun p => (p.1, (p.2.1, if p.1 == k then l else p.2.2))

theorem setInner_blocks (AA : List (Bytes × (Nat × List (Bytes × (Int × Int))))) (k : Bytes) (l : List (Bytes × (Int × Int))) : (setInner AA k l).map (·.2.1) = AA.map (·.2.1) := by simp [setInner]
theorem setInner_raw (AA : List (Bytes × (Nat × List (Bytes × (Int × Int))))) (k : Bytes) (l : List (Bytes × (Int × Int))) : mapV (fun x => Value.map (some x.1)) (setInner AA k l) = mapV (fun x => Value.map (some x.1)) AA := by simp [setInner, mapV]

theorem BMem.setI (H : BMem F w Y hd g) {k : Bytes} {x : Nat × List (Bytes × (Int × Int))} (hx : (k, x) ∈ g.AA) (hs : g.AA.Pairwise fun p q => p.1 ≠ q.1) (hk : Kept (fun b => b = x.1) w w') {l : List (Bytes × (Int × Int))} (hm : MapAt Try.prog w' 9 x.1 (mapV ansV l)) :
    BMem F w' Y hd { g with AA := setInner g.AA k l } := by
  have hin := H.inA hx
  obtain ⟨t1, t2, t3, t4, t5, t6, t7⟩ := H.turn hin hk
  have n := H.neA hx
  have hmaps : ({ g with AA := setInner g.AA k l } : Gh).maps = g.maps := by simp only [Gh.maps, setInner_blocks]
  refine ⟨t1, H.fy, fun b hb => H.fm b (by rw [← hmaps]; exact hb), t2, t6 _ (Ne.symm n.1) _ _ H.nd, t6 _ (Ne.symm n.2.1) _ _ H.pd, t6 _ (Ne.symm n.2.2.1) _ _ H.fr, t6 _ (Ne.symm n.2.2.2.1) _ _ H.vw, ?_, t3, t4, t5, ?_, by rw [hmaps]; exact H.dist, H.ppd, t7⟩
  · show MapAt _ _ _ _ (mapV _ (setInner g.AA k l))
    rw [setInner_raw]
    exact t6 _ (Ne.symm n.2.2.2.2) _ _ H.an
  · intro p hp
    obtain ⟨q, hq, rfl⟩ := List.mem_map.1 hp
    dsimp only
    by_cases e : q.1 = k
    · have hqx : q.2 = x := by
        have h1 := getL_of_mem hs (k := q.1) (v := q.2) hq
        have h2 := getL_of_mem hs hx
        rw [e, h2] at h1
        exact (Option.some.inj h1).symm
      rw [hqx, if_pos (by simpa using e)]
      exact hm
    · rw [if_neg (by simpa using e)]
      refine t6 _ (fun eb => e ?_) _ _ (H.aa q hq)
      rw [nodup_inj H.nodupA hq hx eb]

end

end Go.Proofs.Ytchddaafibjmgaa
