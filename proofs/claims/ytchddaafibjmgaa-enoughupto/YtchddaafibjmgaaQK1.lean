/-
  The statements' own small functions: pick, name, labels.
-/
import Derived.Test.YtchddaafibjmgaaQCheckP
import Derived.Test.YtchddaafibjmgaaQA1
import Derived.Laws.IdiomStrings
namespace Go.Proofs.Ytchddaafibjmgaa
open Go.RowKit

def pickI (c n : Int) : Int := if c < 0 then (-(c + 1)) % n else c % n

theorem pickI_bound (c : Int) {n : Int} (hn : 0 < n) : 0 ≤ pickI c n ∧ pickI c n < n := by
  unfold pickI
  split
  · exact ⟨Int.emod_nonneg _ (by omega), Int.emod_lt_of_pos _ hn⟩
  · exact ⟨Int.emod_nonneg _ (by omega), Int.emod_lt_of_pos _ hn⟩

set_option maxRecDepth 100000 in
set_option maxHeartbeats 400000 in
theorem pick_any (c n : Int) (w : World) (hn : 0 < n) (hn2 : n ≤ 1099511627776) (h1 : -9223372036854775808 ≤ c) (h2 : c ≤ 9223372036854775807) : Calls Try.prog 28 #[.int .i64 c, .int .i64 n] w fun e w' => e = .returned (.int .i64 (pickI c n)) ∧ w' = w := by
  have hb := pickI_bound c hn
  by_cases hc : c < 0
  · have HP : Hid (pickI c n = (-(c + 1)) % n) := by show _ = _; unfold pickI; rw [if_pos hc]
    have hm := HP.out ▸ hb
    go_enter Try.func28, Try.ntmps28
    go_wp2
    go_ret
    have e : -(c + 1).tmod n = (-(c + 1)) % n := by rw [← Int.neg_tmod, Int.tmod_eq_emod_of_nonneg (by omega)]
    exact ⟨by rw [HP.out, ← e]; rfl, rfl⟩
  · have HP : Hid (pickI c n = c % n) := by show _ = _; unfold pickI; rw [if_neg hc]
    have hm := HP.out ▸ hb
    go_enter Try.func28, Try.ntmps28
    go_wp2
    go_ret
    exact ⟨by rw [HP.out]; rfl, rfl⟩

def byt (n : Int) : UInt8 := UInt8.ofNat (97 + n % 26).toNat
theorem byt_nat (n : Int) : ((byt n).toNat : Int) = 97 + n % 26 := by
  unfold byt
  rw [UInt8.toNat_ofNat']
  have h1 := Int.emod_nonneg n (show (26 : Int) ≠ 0 by omega)
  have h2 := Int.emod_lt_of_pos n (show (0 : Int) < 26 by omega)
  omega

/-- A name out of a few. -/
def nameS (s : ByteArray) (n : Int) : ByteArray := s ++ ⟨#[byt n]⟩

set_option maxRecDepth 100000 in
set_option maxHeartbeats 400000 in
theorem kname_any (s : ByteArray) (n : Int) (w : World) (hn : 0 ≤ n) (hs : s.size ≤ 100) : Calls Try.prog 46 #[.string s, .int .i64 n] w fun e w' => e = .returned (.string (nameS s n)) ∧ Below w.heap.size w w' := by
  have hconv : (convert 132 9 (.slice (some ⟨w.heap.size, 0, none⟩) 1 1)).run Try.prog (w.alloc (.cells #[.int .u8 (97 + n % 26)] 5)) = .ok (.string ⟨#[byt n]⟩) (w.alloc (.cells #[.int .u8 (97 + n % 26)] 5)) := by
    refine run_convert_bytes_back (P := Try.prog) _ 132 9 5 ⟨w.heap.size, 0, none⟩ 1 [byt n] Try.underlying132 Try.underlying5 Try.underlying9 fun j hj => ?_
    have h0 : j = 0 := by simp at hj; omega
    subst h0
    have := cell_one_new' w (.int .u8 (97 + n % 26)) 5 w.heap.size rfl 0 _ rfl
    rw [this]
    simp only [List.getElem_cons_zero, byt_nat n]
  go_enter Try.func46, Try.ntmps46
  go_wp2
  go_ret
  exact ⟨rfl, below_alloc _ _⟩

theorem nameS_size (s : ByteArray) (n : Int) : (nameS s n).size = s.size + 1 := by
  unfold nameS
  rw [ByteArray.size_append]
  rfl

/-! ### rows of labels -/
theorem row_labs {w : World} {ao : Option Addr} {cap : Nat} {L : List Lab} (h : w.ownsRow 0 51 2 (.slice ao L.length cap) L.length (labCells L)) : LabsAt w ao L ∧ L.length ≤ cap := by
  rcases h.2 with ⟨hv, hx⟩ | ⟨g, cap', cur, hv, hb, hgg, h3, h4, h5, htk⟩
  · have hL : L = [] := List.eq_nil_of_length_eq_zero hx
    subst hL
    exact ⟨LabsAt.nil _ _, Nat.zero_le _⟩
  · simp only [Value.slice.injEq] at hv
    obtain ⟨rfl, _, rfl⟩ := hv
    refine ⟨fun k hk => ⟨g, 0, rfl, ?_, ?_⟩, h3⟩
    · rw [cell_of_block hgg, ← (labCells_get L k hk).1, ← htk, List.getElem?_take, if_pos (by omega)]
      simp
    · rw [cell_of_block hgg, ← (labCells_get L k hk).2, ← htk, List.getElem?_take, if_pos (by omega)]
      simp

theorem pair_new (w : World) (a b : Value) (t : TypeId) : ∀ (j : Nat) u, [a, b][j]? = some u → (w.alloc (.cells #[a, b] t)).cell? ((⟨w.heap.size, 0, none⟩ : Addr).add j) = some u := by
  intro j u hu
  have ha : (⟨w.heap.size, 0, none⟩ : Addr).add j = ⟨w.heap.size, j, none⟩ := by
    unfold Addr.add
    split
    · rename_i h; rw [h]
    · simp
  rw [ha, cell_of_block (block_alloc_new w _), ← hu]
  simp

/-- A row of labels of one's own, from block B on. -/
structure RowB (B : Nat) (w : World) (v : Value) (L : List Lab) : Prop where
  row : w.ownsRow 0 51 2 v L.length (labCells L)
  new : ∀ b, v.ownBlock = some b → B ≤ b

theorem RowB.nil (B : Nat) (w : World) : RowB B w (.slice none 0 0) [] := ⟨World.ownsRow_nil _ _ _ _, fun b h => by simp [Value.ownBlock] at h⟩

theorem RowB.kept {B : Nat} {w w' : World} {v : Value} {L : List Lab} (h : RowB B w v L) {G : Nat → Prop} (hk : Kept G w w') (hG : ∀ b, v.ownBlock = some b → ¬ G b) : RowB B w' v L := ⟨hk.ownsRow h.row hG, h.new⟩
theorem RowB.below {B : Nat} {w w' : World} {v : Value} {L : List Lab} (h : RowB B w v L) (hb : Below w.heap.size w w') : RowB B w' v L := h.kept (Kept.of_below (F := noBlock) hb) fun _ _ => id
theorem RowB.labs {B : Nat} {w : World} {L : List Lab} {ao : Option Addr} {cap : Nat} (h : RowB B w (.slice ao L.length cap) L) : LabsAt w ao L ∧ L.length ≤ cap := row_labs h.row

theorem labCells_app (L M : List Lab) : labCells (L ++ M) = labCells L ++ labCells M := by unfold labCells; rw [List.flatMap_append]
theorem labCells_one1 (L : List Lab) : ∀ v ∈ labCells L, v.oneCell' = true := by
  intro v hv
  unfold labCells at hv
  rw [List.mem_flatMap] at hv
  obtain ⟨x, _, hx⟩ := hv
  simp only [List.mem_cons, List.not_mem_nil, or_false] at hx
  rcases hx with rfl | rfl <;> rfl

theorem labs_new {w : World} {nb : Nat} {M : List Lab} (h : w.heap[nb]? = some (.cells (labCells M).toArray 51 (0, 0))) : ∀ (j : Nat) u, (labCells M)[j]? = some u → w.cell? ((⟨nb, 0, none⟩ : Addr).add j) = some u := by
  intro j u hu
  have ha : (⟨nb, 0, none⟩ : Addr).add j = ⟨nb, j, none⟩ := by
    unfold Addr.add
    split
    · rename_i h; rw [h]
    · simp
  rw [ha, cell_of_block h, ← hu]
  simp

/-- Labels are added to a row of one's own. -/
theorem wpList_append_labs {ops : Array Oper} {rest : List Oper} {o : Oper} {a : Act} {Q : Exit → Act → World → Prop} {w : World} (hgd : o.guard = none) (s x : Operand) (ho : o.op = .call { callee := .builtin .append, args := #[s, x], argTypes := #[31, 31] })
    {B : Nat} {v : Value} {L : List Lab} (hs : a.eval s = v) (hR : RowB B w v L) (hB : B ≤ w.heap.size) {nb c : Nat} {M : List Lab} (hx : a.eval x = .slice (some ⟨nb, 0, none⟩) M.length c) (hn : w.heap[nb]? = some (.cells (labCells M).toArray 51 (0, 0))) (hl : L.length + M.length ≤ 1000)
    (h : ∀ ao cap' w', RowB B w' (.slice ao (L.length + M.length) cap') (L ++ M) → Below B w w' → wpList Try.prog ops Q rest (a.put o.dst (.slice ao (L.length + M.length) cap')) w') : wpList Try.prog ops Q (o :: rest) a w := by
  obtain ⟨i0, hi, hz0, hz1, hz2⟩ := info_parts Try.infoLab
  refine wpList_append_row _ hgd s x 31 ho 51 i0 _ 2 32 Try.underlying31 hi hz0 hz1 hz2 rfl (by decide) v L.length _ hs hR.row ⟨nb, 0, none⟩ M.length c (labCells M) hx (by rw [labCells_length]; omega) (labs_new hn) (labCells_one1 M) (by unfold maxLen; omega) (by omega) ?_
  intro ao cap' w' r g f
  refine h ao cap' w' ⟨by rw [List.length_append, labCells_app]; exact r, fun b hb => ?_⟩ (((Kept.refl (fun b => v.ownBlock = some b) w).grown g fun k hk _ => hk).below hB fun i hi' he => by have := hR.new i he; omega)
  rcases f with f | f
  · exact hR.new b (by rw [← f]; exact hb)
  · exact Nat.le_trans hB (f b hb)

theorem run_append_labs {B : Nat} {w : World} {v : Value} {L : List Lab} (hR : RowB B w v L) (hB : B ≤ w.heap.size) {nb c : Nat} {M : List Lab} (hn : w.heap[nb]? = some (.cells (labCells M).toArray 51 (0, 0))) (hl : L.length + M.length ≤ 1000) :
    ∃ ao cap' w', (Builtin.append_ #[31, 31] 31 #[v, .slice (some ⟨nb, 0, none⟩) M.length c]).run Try.prog w = .ok (.slice ao (L.length + M.length) cap') w' ∧ RowB B w' (.slice ao (L.length + M.length) cap') (L ++ M) ∧ Below B w w' := by
  obtain ⟨i0, hi, hz0, hz1, hz2⟩ := info_parts Try.infoLab
  obtain ⟨v', w', hr, h2, h3, h4⟩ := run_append_row (P := Try.prog) w 31 31 51 i0 _ 2 32 Try.underlying31 hi hz0 hz1 hz2 rfl (by decide) v L.length _ hR.row ⟨nb, 0, none⟩ M.length c (labCells M) (by rw [labCells_length]; omega) (labs_new hn) (labCells_one1 M) (by unfold maxLen; omega) (by omega)
  obtain ⟨ao, cap', rfl⟩ := slice_of_own h2
  refine ⟨ao, cap', w', hr, ⟨by rw [List.length_append, labCells_app]; exact h2, fun b hb => ?_⟩, (((Kept.refl (fun b => v.ownBlock = some b) w).grown h3 fun k hk _ => hk).below hB fun i hi' he => by have := hR.new i he; omega)⟩
  rcases h4 with f | f
  · exact hR.new b (by rw [← f]; exact hb)
  · exact Nat.le_trans hB (f b hb)

/-- An append whose run is known, as one step of a region that draws. -/
theorem step_append_run1 {P : Program} {ops : Array Oper} {o : Oper} {a : Act} {w w' : World} {K : Act → World → Prop} {Q : Exit → Act → World → Prop} {E : Prop} {v' : Value}
    (hg : o.guard = none) (s x : Operand) (t : TypeId) (hop : o.op = Op.call { callee := Callee.builtin Builtin.append, args := #[s, x], argTypes := #[t, t] }) (sv xv : Value) (hs : a.eval s = sv) (hx : a.eval x = xv) (hrun : (Builtin.append_ #[t, t] o.type #[sv, xv]).run P w = .ok v' w')
    (hK : K (a.put o.dst v') w') : if Region.wanted o (yielded ops a.tmps) = true then Oper.wp P o a w K Q else E := by
  have hw : Region.wanted o (yielded ops a.tmps) = true := by simp [Region.wanted, hg]
  rw [if_pos hw]
  unfold Oper.wp
  simp [execOp, hop, resolve, invoke, builtin, hs, hx, hrun, Result.andThen]
  exact hK

def labsI (n : Int) : List Lab := (if n % 2 = 1 then [(⟨#[97, 112, 112]⟩, nameS ⟨#[118]⟩ (n / 2 % 2))] else []) ++ (if n / 4 % 2 = 1 then [(⟨#[116, 105, 101, 114]⟩, nameS ⟨#[116]⟩ (n / 8 % 2))] else [])

set_option maxRecDepth 100000 in
set_option maxHeartbeats 2000000 in
theorem klabels_any (n : Int) (w : World) (hn : 0 ≤ n) (hn2 : n ≤ 1099511627776) : Calls Try.prog 50 #[.int .i64 n] w fun e w' => ∃ ao cap, e = .returned (.slice ao (labsI n).length cap) ∧ RowB w.heap.size w' (.slice ao (labsI n).length cap) (labsI n) ∧ Below w.heap.size w w' := by
  have c1 := fun W => kname_any ⟨#[118]⟩ (n / 2 % 2) W (by omega) (by decide)
  have c2 := fun W => kname_any ⟨#[116]⟩ (n / 8 % 2) W (by omega) (by decide)
  have r0 := fun W => RowB.nil w.heap.size W
  by_cases h1 : n % 2 = 1
  · by_cases h2 : n / 4 % 2 = 1
    · have HL : Hid (labsI n = [(⟨#[97, 112, 112]⟩, nameS ⟨#[118]⟩ (n / 2 % 2))] ++ [(⟨#[116, 105, 101, 114]⟩, nameS ⟨#[116]⟩ (n / 8 % 2))]) := by show _ = _; unfold labsI; rw [if_pos h1, if_pos h2]
      generalize nameS ⟨#[118]⟩ (n / 2 % 2) = s1 at *
      generalize nameS ⟨#[116]⟩ (n / 8 % 2) = s2 at *
      go_enter Try.func50, Try.ntmps50
      go_wp2_with (first
        | (go_at_call_of 46 (Value.string ⟨#[118]⟩); refine (c1 _).mono ?_; rintro e w1 ⟨rfl, hb1⟩; have z1 := hb1.size)
        | (go_at_call_of 46 (Value.string ⟨#[116]⟩); refine (c2 _).mono ?_; rintro e w3 ⟨rfl, hb3⟩; have r3 := (r2.below hb3).below (below_alloc w3 (.cells #[.string ⟨#[116, 105, 101, 114]⟩, .string s2] 51)); have z3 := hb3.size)
        | (at_builtin; refine wpList_append_labs rfl (.tmp 7) (.tmp 13) rfl (L := []) (M := [(⟨#[97, 112, 112]⟩, s1)]) rfl (r0 _) (by simp; omega) rfl (block_alloc_new w1 _) (by simp) ?_; intro ao2 cap2 w2 r2 hb2; have z2 := hb2.size; simp only [World.size_alloc] at z2)
        | (at_builtin; refine wpList_append_labs rfl (.tmp 19) (.tmp 25) rfl (L := [(⟨#[97, 112, 112]⟩, s1)]) (M := [(⟨#[116, 105, 101, 114]⟩, s2)]) rfl r3 (by simp; omega) rfl (block_alloc_new w3 _) (by simp) ?_; intro ao4 cap4 w4 r4 hb4))
      go_ret
      rw [HL.out]
      exact ⟨_, _, rfl, r4, hb1.trans (((below_alloc w1 _).mono z1).trans (hb2.trans ((hb3.mono (by omega)).trans (((below_alloc w3 _).mono (by omega)).trans hb4))))⟩
    · have HL : Hid (labsI n = [(⟨#[97, 112, 112]⟩, nameS ⟨#[118]⟩ (n / 2 % 2))]) := by show _ = _; unfold labsI; rw [if_pos h1, if_neg h2]; rfl
      generalize nameS ⟨#[118]⟩ (n / 2 % 2) = s1 at *
      go_enter Try.func50, Try.ntmps50
      go_wp2_with (first
        | (go_at_call_of 46 (Value.string ⟨#[118]⟩); refine (c1 _).mono ?_; rintro e w1 ⟨rfl, hb1⟩; have z1 := hb1.size)
        | (at_builtin; refine wpList_append_labs rfl (.tmp 7) (.tmp 13) rfl (L := []) (M := [(⟨#[97, 112, 112]⟩, s1)]) rfl (r0 _) (by simp; omega) rfl (block_alloc_new w1 _) (by simp) ?_; intro ao2 cap2 w2 r2 hb2))
      go_ret
      rw [HL.out]
      exact ⟨_, _, rfl, r2, hb1.trans (((below_alloc w1 _).mono z1).trans hb2)⟩
  · by_cases h2 : n / 4 % 2 = 1
    · have HL : Hid (labsI n = [(⟨#[116, 105, 101, 114]⟩, nameS ⟨#[116]⟩ (n / 8 % 2))]) := by show _ = _; unfold labsI; rw [if_neg h1, if_pos h2]; rfl
      generalize nameS ⟨#[116]⟩ (n / 8 % 2) = s2 at *
      go_enter Try.func50, Try.ntmps50
      go_wp2_with (first
        | (go_at_call_of 46 (Value.string ⟨#[116]⟩); refine (c2 _).mono ?_; rintro e w1 ⟨rfl, hb1⟩; have z1 := hb1.size)
        | (at_builtin; refine wpList_append_labs rfl (.tmp 19) (.tmp 25) rfl (L := []) (M := [(⟨#[116, 105, 101, 114]⟩, s2)]) rfl (r0 _) (by simp; omega) rfl (block_alloc_new w1 _) (by simp) ?_; intro ao2 cap2 w2 r2 hb2))
      go_ret
      rw [HL.out]
      exact ⟨_, _, rfl, r2, hb1.trans (((below_alloc w1 _).mono z1).trans hb2)⟩
    · have HL : Hid (labsI n = []) := by show _ = _; unfold labsI; rw [if_neg h1, if_neg h2]; rfl
      go_enter Try.func50, Try.ntmps50
      go_wp2
      go_ret
      rw [HL.out]
      exact ⟨_, _, rfl, r0 w, Below.refl _ _⟩

end Go.Proofs.Ytchddaafibjmgaa
