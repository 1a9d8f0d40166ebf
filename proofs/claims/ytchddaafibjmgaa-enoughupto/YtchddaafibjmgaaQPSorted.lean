/-
  slices.Sorted(maps.Keys(m)): the keys of a map, by rising names.
-/
import Derived.Test.YtchddaafibjmgaaQPJudge1
import Derived.Test.YtchddaafibjmgaaQIter
namespace Go.Proofs.Ytchddaafibjmgaa
open Go.RowKit Go.Maps

theorem before_lt : ∀ {a b : List UInt8}, bytesBefore a b = true → a < b
  | [], [], h => by simp [bytesBefore] at h
  | [], b :: s, _ => List.nil_lt_cons b s
  | a :: r, [], h => by simp [bytesBefore] at h
  | a :: r, b :: s, h => by
    rw [List.cons_lt_cons_iff]
    simp only [bytesBefore, Bool.or_eq_true, Bool.and_eq_true, decide_eq_true_eq, beq_iff_eq] at h
    rcases h with h | ⟨h1, h2⟩
    · exact .inl h
    · exact .inr ⟨h1, before_lt h2⟩

theorem sortedKeys_eq {α : Type} {L : List (Bytes × α)} (hs : SortedL L) {ss : List (List UInt8)} (hp : ss.Perm (L.map (·.1))) : ss.mergeSort (fun x y => decide (x ≤ y)) = L.map (·.1) := by
  have h1 : ss.mergeSort (fun x y => decide (x ≤ y)) = (L.map (·.1)).mergeSort (fun x y => decide (x ≤ y)) := mergeSort_of_perm hp
  rw [h1]
  apply List.mergeSort_of_pairwise
  rw [List.pairwise_map]
  exact List.Pairwise.imp (fun {p q} h => by simpa using List.le_of_lt (before_lt h)) hs

theorem strKeys_datOf (L : List (Bytes × Value)) : strKeys (datOf L) = L.map (·.1) := by
  simp [strKeys, entOf, strOf]

/-- The names of a list, as values. -/
def nameVals {α : Type} (L : List (Bytes × α)) : List Value := L.map fun p => .string (bs p.1)

theorem nameVals_length {α : Type} (L : List (Bytes × α)) : (nameVals L).length = L.length := by simp [nameVals]
theorem nameVals_mapV {α β : Type} (f : α → β) (L : List (Bytes × α)) : nameVals (mapV f L) = nameVals L := by simp [nameVals, mapV]

theorem keysN_any (b : Nat) (W : World) : Calls Try.prog 66 #[.map (some b)] W fun e w' => e = .returned (.func (.func 76) #[] #[.pointer (some ⟨W.heap.size, 0, none⟩)]) ∧ w' = W.alloc (.cells #[.map (some b)] 104) := callsIn_wide.1 (Try.maps_Keys_66 (some b) W)
theorem keysP_any (b : Nat) (W : World) : Calls Try.prog 67 #[.map (some b)] W fun e w' => e = .returned (.func (.func 77) #[] #[.pointer (some ⟨W.heap.size, 0, none⟩)]) ∧ w' = W.alloc (.cells #[.map (some b)] 105) := callsIn_wide.1 (Try.maps_Keys_67 (some b) W)

theorem ownsRow_zero {w : World} {base : Nat} {e : TypeId} {size : Nat} {v : Value} {n : Nat} {xs : List Value} (h : w.ownsRow base e size v n xs) : w.ownsRow 0 e size v n xs := by
  refine ⟨h.1, ?_⟩
  rcases h.2 with hn | ⟨g, cap, cur, rfl, _, r⟩
  · exact .inl hn
  · exact .inr ⟨g, cap, cur, rfl, Nat.zero_le _, r⟩

theorem sorted_tail {α : Type} {w w0 : World} {v : Value} {L : List (Bytes × α)} {ss : List (List UInt8)} (hs : SortedL L) (hp : ss.Perm (L.map (·.1))) (hrow : w.ownsRow w0.heap.size 9 1 v ss.length ((ss.mergeSort (fun x y => decide (x ≤ y))).map encStr)) :
    ∃ ao cap, v = .slice ao L.length cap ∧ w.ownsRow 0 9 1 (.slice ao L.length cap) L.length (nameVals L) := by
  have hl : ss.length = L.length := by rw [hp.length_eq, List.length_map]
  rw [sortedKeys_eq hs hp, hl] at hrow
  have hr := ownsRow_zero hrow
  obtain ⟨ao, cap, rfl⟩ := slice_of_own hr
  refine ⟨ao, cap, rfl, ?_⟩
  have : (L.map (·.1)).map encStr = nameVals L := by simp [nameVals, encStr, bs]
  rw [this] at hr
  exact hr

theorem sortedN_any {w : World} {b : Nat} {L : List (Bytes × Value)} (hown : MapAt Try.prog w 9 b L) (hl : L.length ≤ 100000) :
    Calls Try.prog 65 #[.func (.func 76) #[] #[.pointer (some ⟨w.heap.size, 0, none⟩)]] (w.alloc (.cells #[.map (some b)] 104)) fun e w' => ∃ ao cap, e = .returned (.slice ao L.length cap) ∧ w'.ownsRow 0 9 1 (.slice ao L.length cap) L.length (nameVals L) ∧ Below w.heap.size w w' := by
  refine (callsIn_wide.1 (Try.slices_Sorted_keys_65_66 b L.length (datOf L) rawElem w hown (by rw [size_datOf]; unfold maxLen; omega) (by rw [size_datOf]; omega))).mono ?_
  rintro e w' ⟨v, ss, rfl, hp, hrow, _, hb⟩
  rw [strKeys_datOf] at hp
  obtain ⟨ao, cap, rfl, hr⟩ := sorted_tail (hown.sorted strK) hp hrow
  exact ⟨ao, cap, rfl, hr, below_trans (below_alloc _ _) hb⟩

theorem sortedP_any {w : World} {b : Nat} {L : List (Bytes × Value)} (hown : MapAt Try.prog w 9 b L) (hl : L.length ≤ 100000) :
    Calls Try.prog 65 #[.func (.func 77) #[] #[.pointer (some ⟨w.heap.size, 0, none⟩)]] (w.alloc (.cells #[.map (some b)] 105)) fun e w' => ∃ ao cap, e = .returned (.slice ao L.length cap) ∧ w'.ownsRow 0 9 1 (.slice ao L.length cap) L.length (nameVals L) ∧ Below w.heap.size w w' := by
  refine (callsIn_wide.1 (Try.slices_Sorted_keys_65_67 b L.length (datOf L) rawElem w hown (by rw [size_datOf]; unfold maxLen; omega) (by rw [size_datOf]; omega))).mono ?_
  rintro e w' ⟨v, ss, rfl, hp, hrow, _, hb⟩
  rw [strKeys_datOf] at hp
  obtain ⟨ao, cap, rfl, hr⟩ := sorted_tail (hown.sorted strK) hp hrow
  exact ⟨ao, cap, rfl, hr, below_trans (below_alloc _ _) hb⟩

end Go.Proofs.Ytchddaafibjmgaa
