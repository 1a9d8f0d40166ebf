/-
  still, walked: all that was lent is as it was; it is written over then, and nothing is lent any more.
-/
import Derived.Test.YtchddaafibjmgaaQLend
import Derived.BigRegion
namespace Go.Proofs.Ytchddaafibjmgaa
open Go.RowKit

theorem labEq_refl (x : Lab) : labEq x x = true := by simp [labEq]

def zoneLab : Lab := (⟨#[122, 111, 110, 101]⟩, ⟨#[111, 116, 104, 101, 114]⟩)
/-- A list of which m are written over. -/
def overLabs (L : List Lab) (m : Nat) : List Lab := List.replicate m zoneLab ++ (lentLabs L).drop m

theorem overLabs_length (L : List Lab) (m : Nat) (h : m ≤ L.length + 8) : (overLabs L m).length = L.length + 8 := by
  simp only [overLabs, List.length_append, List.length_replicate, List.length_drop, lentLabs_length]; omega
theorem overLabs_at (L : List Lab) (m : Nat) : labAt (overLabs L m) m = labAt (lentLabs L) m := by
  unfold labAt overLabs
  rw [List.getElem?_append_right (by simp)]
  simp
theorem overLabs_succ (L : List Lab) (m : Nat) (h : m < L.length + 8) : (overLabs L m).set m zoneLab = overLabs L (m + 1) := by
  unfold overLabs
  rw [List.set_append_right _ _ (by simp), List.length_replicate, Nat.sub_self, List.drop_eq_getElem_cons (by rw [lentLabs_length]; exact h), List.set_cons_zero, List.replicate_succ', List.append_assoc]
  rfl

theorem still_fresh {its : List Item} {k : Nat} {it : Item} (h : (its.map (·.blk)).Nodup) (hlt : k < its.length) (e : it = its[k]) : ¬ ∃ it' ∈ its.take k, it'.blk = it.blk := by
  rintro ⟨it', hi, hb⟩
  obtain ⟨j, hj, e'⟩ := List.getElem_of_mem hi
  have hjk : j < k := by simp at hj; omega
  rw [List.getElem_take] at e'
  have := (List.pairwise_iff_getElem.1 h) j k (by simp; omega) (by simpa using hlt) hjk
  simp only [List.getElem_map] at this
  exact this (by rw [e', hb, e])

/-- What the rounds read, in whatever world that only lists ahead of j have turned. -/
theorem still_facts {X : Nat} {v1 : Value} {g2 c2 : Nat} {its : List Item} {w ws : World} {j k : Nat} (H : Lent w X v1 (.slice (some ⟨g2, 0, none⟩) its.length c2) its) (hK : Kept (fun b => ∃ it ∈ its.take j, it.blk = b) w ws) (hlt : k < its.length) :
    ws.heap[X]? = some (.cells #[v1, .slice (some ⟨g2, 0, none⟩) its.length c2] 38 (0, 0)) ∧ ws.cell? ⟨g2, k, none⟩ = some (its[k].want) ∧ LabsAt ws its[k].a its[k].L ∧ X < ws.heap.size ∧ g2 < ws.heap.size := by
  have hin : ∀ b, boxFoot X v1 (.slice (some ⟨g2, 0, none⟩) its.length c2) b → ¬ ∃ it ∈ its.take j, it.blk = b := fun b hb ⟨it, hi, e⟩ => H.neI it (List.mem_of_mem_take hi) (e ▸ hb)
  have hbox := (hK.block X (lt_of_block H.box) (hin X (.inl rfl))).trans H.box
  have hr2 := hK.ownsRow H.r2 (fun b hb => hin b (.inr (.inr hb)))
  obtain ⟨g, e, hg2, hc2⟩ := own_at hr2 (by omega)
  simp only [Option.some.injEq, Addr.mk.injEq, and_true] at e
  subst e
  refine ⟨hbox, by rw [hc2 k hlt]; simp [hlt], ?_, lt_of_block hbox, hg2⟩
  refine (H.want _ (List.getElem_mem hlt)).stays hK fun p e hF => H.apart _ (List.getElem_mem hlt) p e (.inr ?_)
  obtain ⟨it, hi, e⟩ := hF
  exact ⟨it, List.mem_of_mem_take hi, e⟩

theorem still_mem {its : List Item} {k : Nat} {it : Item} (hlt : k < its.length) (e : it = its[k]) : ∃ it' ∈ its.take (k + 1), it'.blk = it.blk :=
  ⟨it, by rw [List.take_succ_eq_append_getElem hlt, ← e]; simp, rfl⟩

theorem over_round {F : Nat → Prop} {w W1 : World} {blk m : Nat} {L : List Lab} (K : Kept F w W1) (hF : F blk) (hb : W1.heap[blk]? = some (.cells (labCells (overLabs L m)).toArray 51 (0, 0))) (hm : m < L.length + 8) :
    Kept F w ((W1.setCell ⟨blk, m * 2, none⟩ (.string ⟨#[122, 111, 110, 101]⟩)).setCell ⟨blk, m * 2 + 1, none⟩ (.string ⟨#[111, 116, 104, 101, 114]⟩)) ∧
      ((W1.setCell ⟨blk, m * 2, none⟩ (.string ⟨#[122, 111, 110, 101]⟩)).setCell ⟨blk, m * 2 + 1, none⟩ (.string ⟨#[111, 116, 104, 101, 114]⟩)).heap[blk]? = some (.cells (labCells (overLabs L (m + 1))).toArray 51 (0, 0)) := by
  refine ⟨(K.setCell (p := ⟨blk, m * 2, none⟩) (fun _ => hF) _).setCell (p := ⟨blk, m * 2 + 1, none⟩) (fun _ => hF) _, ?_⟩
  rw [← overLabs_succ L m hm]
  exact store_lab hb m zoneLab

theorem still_close {X : Nat} {v1 v2 : Value} {its : List Item} {w wr : World} {k : Nat} (hK : Kept (fun b => ∃ it ∈ its.take k, it.blk = b) w wr) (hb : wr.heap[X]? = some (.cells #[v1, v2] 38 (0, 0))) :
    Lent ((wr.setCell ⟨X, 0, none⟩ (.slice none 0 0)).setCell ⟨X, 1, none⟩ (.slice none 0 0)) X (.slice none 0 0) (.slice none 0 0) [] ∧
      Kept (lentFoot X v1 v2 its) w ((wr.setCell ⟨X, 0, none⟩ (.slice none 0 0)).setCell ⟨X, 1, none⟩ (.slice none 0 0)) := by
  refine ⟨⟨?_, World.ownsRow_nil _ _ _ _, World.ownsRow_nil _ _ _ _, by simp, by simp, by simp, by simp, by simp [Value.ownBlock], by simp [Value.ownBlock], by simp [Value.ownBlock], by simp, by simp⟩, ?_⟩
  · rw [block_setCell (block_setCell hb _)]; rfl
  · have := hK.mono (G := lentFoot X v1 v2 its) fun b _ ⟨it, hi, e⟩ => .inr ⟨it, List.mem_of_mem_take hi, e⟩
    exact (this.setCell (p := ⟨X, 0, none⟩) (fun _ => .inl (.inl rfl)) _).setCell (p := ⟨X, 1, none⟩) (fun _ => .inl (.inl rfl)) _

set_option maxRecDepth 100000 in
set_option maxHeartbeats 400000 in
theorem still_any (X : Nat) (v1 v2 : Value) (its : List Item) (w : World) (H : Lent w X v1 v2 its) (hits : its.length ≤ 100000) :
    Calls Try.prog 14 #[.pointer (some ⟨X, 0, none⟩)] w fun e w' => e = .returned (.bool true) ∧ Lent w' X (.slice none 0 0) (.slice none 0 0) [] ∧ Kept (lentFoot X v1 v2 its) w w' := by
  obtain ⟨a1, c1, rfl⟩ := slice_of_own H.r1
  obtain ⟨a2, c2, rfl⟩ := slice_of_own H.r2
  have hX := lt_of_block H.box
  have hx0 : w.cell? ⟨X, 0, none⟩ = some (.slice a1 its.length c1) := by rw [cell_of_block H.box]; rfl
  go_enter Try.func14, Try.ntmps14
  go_wp2
  go_loopw [3, 4] (fun ok i wr => ∃ k : Nat, k ≤ its.length ∧ i = .int .i64 k ∧ ok = .bool true ∧ Kept (fun b => ∃ it ∈ its.take k, it.blk = b) w wr) (fun _ i _ => its.length - (intOf i).toNat)
  case atStart => exact ⟨0, Nat.zero_le _, rfl, rfl, Kept.refl _ _⟩
  case round =>
    obtain ⟨k, hk, rfl, rfl, hK⟩ := hrel
    have hin : ∀ b, boxFoot X (.slice a1 its.length c1) (.slice a2 its.length c2) b → ¬ ∃ it ∈ its.take k, it.blk = b := fun b hb ⟨it, hi, e⟩ => H.neI it (List.mem_of_mem_take hi) (e ▸ hb)
    have hbox : wr.heap[X]? = _ := (hK.block X hX (hin X (.inl rfl))).trans H.box
    have hx0 : wr.cell? ⟨X, 0, none⟩ = some (.slice a1 its.length c1) := by rw [cell_of_block hbox]; rfl
    have hx1 : wr.cell? ⟨X, 1, none⟩ = some (.slice a2 its.length c2) := by rw [cell_of_block hbox]; rfl
    have hfx0 : wr.frozen? ⟨X, 0, none⟩ = false := frozen_of_block hbox
    have hfx1 : wr.frozen? ⟨X, 1, none⟩ = false := frozen_of_block hbox
    by_cases hlt : k < its.length
    · have hr1 := hK.ownsRow H.r1 (fun b hb => hin b (.inr (.inl hb)))
      have hr2 := hK.ownsRow H.r2 (fun b hb => hin b (.inr (.inr hb)))
      obtain ⟨g1, rfl, hg1, hc1⟩ := own_at hr1 (by omega)
      obtain ⟨g2, rfl, hg2, hc2⟩ := own_at hr2 (by omega)
      have hd1 : wr.cell? ⟨g1, k, none⟩ = some (its[k].out) := by rw [hc1 k hlt]; simp [hlt]
      have hd2 : wr.cell? ⟨g2, k, none⟩ = some (its[k].want) := by rw [hc2 k hlt]; simp [hlt]
      clear hc1 hc2 hr1 hr2
      obtain ⟨it, hit⟩ : ∃ it, it = its[k] := ⟨_, rfl⟩
      rw [← hit] at hd1 hd2
      have him : it ∈ its := hit ▸ List.getElem_mem hlt
      unfold Item.out at hd1
      unfold Item.want at hd2
      have Hit : Hid (it = its[k]) := hit
      clear hit hbox
      obtain ⟨hl0, hl1⟩ := H.len it him
      go_wp2
      have hb0 : wr.heap[it.blk]? = some (.cells (labCells (overLabs it.L 0)).toArray 51 (0, 0)) := by
        refine (hK.block _ (lt_of_block (H.out it him)) (still_fresh H.nodup hlt Hit.out)).trans ?_
        rw [H.out it him]; rfl
      have hK0 : Kept (fun b => ∃ it ∈ its.take (k + 1), it.blk = b) w wr := hK.mono fun b _ ⟨it, hi, e⟩ => ⟨it, List.mem_of_mem_take (i := k) (by rw [List.take_take, Nat.min_eq_left (by omega)]; exact hi), e⟩
      clear hx0 hx1 hfx0 hfx1 hd1 hd2
      go_loopw [3, 6] (fun ok i ws => ∃ m : Nat, m ≤ it.L.length + 8 ∧ i = .int .i64 m ∧ ok = .bool true ∧ Kept (fun b => ∃ it ∈ its.take (k + 1), it.blk = b) w ws ∧ ws.heap[it.blk]? = some (.cells (labCells (overLabs it.L m)).toArray 51 (0, 0))) (fun _ i _ => it.L.length + 8 - (intOf i).toNat)
      case atStart => exact ⟨0, Nat.zero_le _, rfl, rfl, hK0, hb0⟩
      case round =>
        obtain ⟨m, hm, rfl, rfl, hKs, hbs⟩ := hrel
        by_cases hmt : m < it.L.length + 8
        · obtain ⟨hbox, hd2, hW, hXs, hgs⟩ := still_facts H hKs hlt
          rw [← Hit.out] at hd2 hW
          unfold Item.want at hd2
          have hx1 : wr.cell? ⟨X, 1, none⟩ = some (.slice (some ⟨g2, 0, none⟩) its.length c2) := by rw [cell_of_block hbox]; rfl
          have hbl := lt_of_block hbs
          obtain ⟨hc1, hc2⟩ := labCells_get (overLabs it.L m) m (by rw [overLabs_length _ _ hm]; exact hmt)
          rw [overLabs_at] at hc1 hc2
          have he1 : wr.cell? ⟨it.blk, m * 2, none⟩ = some (.string (labAt (lentLabs it.L) m).1) := by rw [cell_of_block hbs]; simpa using hc1
          have he2 : wr.cell? ⟨it.blk, m * 2 + 1, none⟩ = some (.string (labAt (lentLabs it.L) m).2) := by rw [cell_of_block hbs]; simpa using hc2
          have hf1 : wr.frozen? ⟨it.blk, m * 2, none⟩ = false := frozen_of_block hbs
          have hf2 : wr.frozen? ⟨it.blk, m * 2 + 1, none⟩ = false := frozen_of_block hbs
          have HB : Hid (wr.heap[it.blk]? = some (.cells (labCells (overLabs it.L m)).toArray 51 (0, 0))) := hbs
          clear hc1 hc2 hbs hbox hb0
          by_cases hin' : m < it.L.length
          · obtain ⟨b, off, ha, hc⟩ := hW.head (by omega)
            obtain ⟨hc1, hc2⟩ := hc m hin'
            have hb' := World.block_lt_of_cell? wr _ hc1
            rw [ha] at hd2
            rw [lentLabs_low _ _ hin'] at he1 he2
            clear hc hW
            have heq := fun w => (eql_api (labAt it.L m).1 (labAt it.L m).2 (labAt it.L m).1 (labAt it.L m).2 w).trans (congrArg (fun q => Result.ok (Value.bool q) w) (labEq_refl (labAt it.L m)))
            go_wp2
            go_region
            go_wp2
            go_quiet (fail)
            go_wp2
            go_roundw
            case rel => exact ⟨m + 1, by omega, by go_num, rfl, over_round ((hKs.alloc _).drewN _) (still_mem hlt Hit.out) ((Below.heap_alloc _ _ _ hbl).trans HB.out) hmt⟩
            case measure => simp [intOf]; omega
          · rw [lentLabs_high _ _ (by omega) hmt] at he1 he2
            have heq := fun w => (eql_api spareLab.1 spareLab.2 spareLab.1 spareLab.2 w).trans (congrArg (fun q => Result.ok (Value.bool q) w) (labEq_refl spareLab))
            unfold spareLab spareB at he1 he2 heq
            clear hW
            go_wp2
            go_quiet (fail)
            go_wp2
            go_roundw
            case rel => exact ⟨m + 1, by omega, by go_num, rfl, over_round ((hKs.alloc _).drewN _) (still_mem hlt Hit.out) ((Below.heap_alloc _ _ _ hbl).trans HB.out) hmt⟩
            case measure => simp [intOf]; omega
        · go_wp2
          go_roundw
          case rel => exact ⟨k + 1, by omega, by go_num, rfl, hKs⟩
          case measure => simp [intOf]; omega
    · have Hbox : Hid (wr.heap[X]? = some (.cells #[.slice a1 its.length c1, .slice a2 its.length c2] 38 (0, 0))) := hbox
      clear hbox
      go_wp2
      go_ret
      exact ⟨rfl, still_close hK Hbox.out⟩

end Go.Proofs.Ytchddaafibjmgaa
