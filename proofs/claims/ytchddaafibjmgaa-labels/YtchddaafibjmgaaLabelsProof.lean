/-
  Proved: for every two lists of labels the law Labels returns true and leaves both as they were. No condition.
-/
import Derived.Test.YtchddaafibjmgaaLabels
import Derived.ProofKit
import Derived.SizedLaws
import Derived.Deep.SlicePairs
namespace Go.Proofs.Ytchddaafibjmgaa
open Go.ChangeShapes Go.WideShapes Go.ChangeAt Go.RowKit

theorem Try.own : ownKnob Try.prog.godebug = none := by kernel_rfl
theorem Try.laidOut : laidOutB Try.prog = true := by kernel_rfl
theorem Try.cellsR : Try.prog.cellsOf 92 = 2 := by kernel_rfl
theorem Try.cellsStr : Try.prog.cellsOf 9 = 1 := by kernel_rfl
theorem Try.bytesR : Try.prog.bytesOf 92 = 32 := by kernel_rfl

/-- A slice of labels that is read. -/
theorem open_labs {H : Type} {enc : TypeId × Value → H} {W : World} {base fuel : Nat} {spare : Nat → Bool} {held : Bool} {cs : List Value} {x : DataW H × List MemPlace} (h : DataW.trod enc Try.prog W base spare held fuel 23 cs = some x) :
    ∃ a len cap L, cs = [.slice a len cap] ∧ L.length = len ∧ LabsAt W a L ∧ (x.1 = .nil ∧ len = 0 ∨ ∃ es sp, x.1 = .slice es sp ∧ es.length = len) := by
  rcases Deep.open_slice_pairs Try.underlying23 Try.underlying92 Try.cellsR rfl rfl Try.cellsStr Try.cellsStr h with ⟨rfl, rfl⟩ | ⟨a, len, cap, m, n, V0, V1, D0, D1, P0, P1, rfl, _, _, _, hm, rfl, hx⟩
  · exact ⟨none, 0, 0, [], rfl, rfl, LabsAt.nil _ _, .inl ⟨rfl, rfl⟩⟩
  · have hlm : len ≤ m := by rw [hm]; split <;> omega
    have each : ∀ i, i < len → ∃ q : Lab, V0 i = .string q.1 ∧ V1 i = .string q.2 := fun i hi => by
      obtain ⟨_, _, h0, h1⟩ := hx i (by omega)
      obtain ⟨s, e, _, _⟩ := DataW.trod_string Try.underlying9 h0
      obtain ⟨s', e', _, _⟩ := DataW.trod_string Try.underlying9 h1
      exact ⟨(s, s'), by simpa using e, by simpa using e'⟩
    obtain ⟨q, hq⟩ := Deep.choose_lt each
    refine ⟨some a, len, cap, (List.range len).map q, rfl, by simp, ?_, .inr ⟨_, _, rfl, by simp⟩⟩
    intro k hk
    have hk' : k < len := by simpa using hk
    obtain ⟨c0, c1, _, _⟩ := hx k (by omega)
    have hz : 0 < len := by omega
    obtain ⟨z0, _, _, _⟩ := hx 0 (by omega)
    obtain ⟨b, off, spot⟩ := a
    have hspot : spot = none := by simpa [Addr.add] using World.cell?_spot z0
    subst hspot
    rw [add_plain] at c0 c1
    have hl : labAt ((List.range len).map q) k = q k := by simp [labAt, hk']
    rw [hl]
    exact ⟨b, off, rfl, by rw [c0, (hq k hk').1], by rw [← Nat.add_assoc] at c1; rw [c1, (hq k hk').2]⟩

set_option maxRecDepth 100000 in
theorem labels_lifted (os : Os) (started : os.Started) (H : Type) (enc : TypeId × Value → H) :
    ReturnsInHanded {} Try.checked os 4 .any (Rows.labelsSpec.pre6 enc Try.prog Try.f4 Rows.labelsRow.domain false) (Rows.labelsSpec.post enc Try.prog Try.f4 false true false false) := by
  refine returnsInHanded_of_change_sized (C := Try.checked) Try.own started (by kernel_rfl) Try.func4
    (ChangeSpec.witness6 (enc := enc) (C := Try.checked) false ⟨#[], #[.slice none 0 0, .slice none 0 0], []⟩ 8 (by kernel_rfl) (by kernel_rfl) (by kernel_rfl) (by kernel_rfl)) ?_
  intro W base args ds gs before hval0 hW _ hsz0 _
  have hsz : (DataW.weightsEach Try.prog (Try.f4.params.toList ++ Rows.labelsSpec.plain.varTypes Try.prog) (ds ++ gs)).all (· ≤ reachBytes) = true := hsz0
  clear hsz0
  have hval : ∀ (j : Nat) t v, Try.f4.params[j]? = some t → args[j]? = some v → Value.okWide Try.prog W .any base t v := hval0
  have hW' := hW
  obtain ⟨p, q, hA0, hV, rfl, _, _⟩ := hW
  have hA : DataW.TrodAll enc Try.prog W 0 (fun _ => true) true Try.f4.params.toList args.toList ds p := hA0
  rw [Try.params4] at hA hval hsz
  obtain ⟨v0, v1, d0, d1, p0, p1, rfl, rfl, rfl, h0, h1⟩ := trodAll_two hA
  obtain ⟨rfl, rfl⟩ := trodVars_none hV
  obtain ⟨a0, l0, c0, rfl⟩ := okWide_slice Try.underlying23 (hval 0 23 v0 rfl rfl)
  obtain ⟨a1, l1, c1, rfl⟩ := okWide_slice Try.underlying23 (hval 1 23 v1 rfl rfl)
  have h0k := h0
  have h1k := h1
  obtain ⟨f0, hf0⟩ := h0
  obtain ⟨f1, hf1⟩ := h1
  clear hA0 hval0
  simp only [List.append_nil] at hW'
  have hlt0 : ∀ x ∈ p0, x.block < W.heap.size := fun x hx => by simpa using hW'.lt x (by simp [hx])
  have hlt1 : ∀ x ∈ p1, x.block < W.heap.size := fun x hx => by simpa using hW'.lt x (by simp [hx])
  obtain ⟨a, len, cap, L0, hcs, rfl, hL0, hd0⟩ := open_labs hf0
  simp [Value.cells] at hcs
  obtain ⟨rfl, rfl, rfl⟩ := hcs
  obtain ⟨a', len', cap', L1, hcs, rfl, hL1, hd1⟩ := open_labs hf1
  simp [Value.cells] at hcs
  obtain ⟨rfl, rfl, rfl⟩ := hcs
  have b0 : L0.length ≤ 4398046511104 := by
    rcases hd0 with ⟨_, h⟩ | ⟨es, sp, h, hl⟩
    · omega
    · have := sized_slice hsz (j := 0) (t := 23) (e := 92) (elems := es) (spare := sp) rfl (congrArg some h) Try.underlying23
      rw [Try.bytesR] at this
      simp only [reachBytes] at this
      omega
  have b1 : L1.length ≤ 4398046511104 := by
    rcases hd1 with ⟨_, h⟩ | ⟨es, sp, h, hl⟩
    · omega
    · have := sized_slice hsz (j := 1) (t := 23) (e := 92) (elems := es) (spare := sp) rfl (congrArg some h) Try.underlying23
      rw [Try.bytesR] at this
      simp only [reachBytes] at this
      omega
  refine (labels_any L0 L1 a0 a1 c0 c1 W b0 b1 hL0 hL1).mono fun e W' ⟨he, hb⟩ => ?_
  subst he
  have t0 := Below.trod Try.laidOut (by kernel_rfl) (of_decide_eq_true (by kernel_rfl)) h0k hb hlt0
  have t1 := Below.trod Try.laidOut (by kernel_rfl) (of_decide_eq_true (by kernel_rfl)) h1k hb hlt1
  exact ⟨_, rfl, _, _, _, [] ++ [], p0 ++ p1, [], hW', trodAll_mk1 (shut_bool Try.underlying4 true), trodAll_mk2 t0 t1, rfl, hb.frame _, fun h => by cases h⟩

theorem labels_holds : Rows.LabelsSaid :=
  OpenClaim.holds_of_wide 4 Try.f4 rfl rfl rfl rfl rfl rfl rfl ⟨rfl, rfl, rfl, rfl, rfl⟩ rfl rfl rfl rfl rfl (by kernel_rfl) Try.func4 (by kernel_rfl)
    (of_decide_eq_true (by kernel_rfl)) (by unfold Func.isWrapper; first | (rw [if_pos (by decide +kernel)]; kernel_rfl) | (rw [if_neg (by decide +kernel)]; exact ⟨rfl, rfl⟩))
    (fun os started H enc _ => labels_lifted os started H enc)

end Go.Proofs.Ytchddaafibjmgaa
