/-
  A kind as a map's key.
  Pods of one kind are the same but for their names.
-/
import Derived.Test.YtchddaafibjmgaaQPKind
import Derived.ChangeKeys
namespace Go.Proofs.Ytchddaafibjmgaa
open Go.RowKit Go.Maps

def toLit : Value → Lit
  | .int q n => .int q n
  | .string s => .string s.data.toList
  | _ => .bool false

def StrCells (cs : List Value) : Prop := ∀ v ∈ cs, ∃ s, v = .string s ∧ s.size ≤ maxLen

theorem StrCells.drop {cs : List Value} (h : StrCells cs) (n : Nat) : StrCells (cs.drop n) := fun v hv => h v (List.mem_of_mem_drop hv)
theorem StrCells.take {cs : List Value} (h : StrCells cs) (n : Nat) : StrCells (cs.take n) := fun v hv => h v (List.mem_of_mem_take hv)

theorem lits_str (d : Nat) {v : Value} (h : ∃ s, v = .string s ∧ s.size ≤ maxLen) : Try.prog.keyLits (d + 1) 9 [v] = some [toLit v] := by
  obtain ⟨s, rfl, hs⟩ := h
  simp [Program.keyLits, Try.underlying9, hs, toLit]

theorem lits_lab (d : Nat) {cs : List Value} (hl : cs.length = 2) (h : StrCells cs) : Try.prog.keyLits (d + 2) 51 cs = some (cs.map toLit) := by
  obtain ⟨a, b, rfl⟩ : ∃ a b, cs = [a, b] := by
    match cs, hl with
    | [a, b], _ => exact ⟨a, b, rfl⟩
  have ha := lits_str d (h a (by simp))
  have hb := lits_str d (h b (by simp))
  have c1 : Try.prog.cellsOf 51 = 2 := by kernel_rfl
  have c2 : Try.prog.cellsOf 9 = 1 := by kernel_rfl
  unfold Program.keyLits
  simp [Try.underlying51, c1, c2, ha, hb]

theorem mapM_some {α β : Type} {g : α → Option β} {f : α → β} : ∀ {l : List α}, (∀ i ∈ l, g i = some (f i)) → l.mapM g = some (l.map f)
  | [], _ => rfl
  | x :: r, h => by
    rw [List.mapM_cons, h x (by simp), mapM_some fun i hi => h i (by simp [hi])]
    rfl

theorem chunks (c : Nat) : ∀ (n : Nat) (cs : List Value), cs.length = n * c → ((List.range n).map fun i => ((cs.drop (i * c)).take c).map toLit).flatten = cs.map toLit
  | 0, cs, h => by
    have : cs = [] := List.eq_nil_of_length_eq_zero (by omega)
    subst this
    rfl
  | n + 1, cs, h => by
    rw [List.range_succ_eq_map, List.map_cons, List.flatten_cons, List.map_map]
    have ih := chunks c n (cs.drop c) (by rw [List.length_drop, h, Nat.add_mul]; omega)
    have e : (List.range n).map ((fun i => ((cs.drop (i * c)).take c).map toLit) ∘ Nat.succ) = (List.range n).map fun i => (((cs.drop c).drop (i * c)).take c).map toLit := by
      apply List.map_congr_left
      intro i _
      simp only [Function.comp_apply, List.drop_drop]
      rw [show i.succ * c = c + i * c by rw [Nat.succ_mul]; omega]
    rw [e, ih]
    simp only [Nat.zero_mul, List.drop_zero]
    rw [← List.map_append, List.take_append_drop]

theorem lits_arr {t e : TypeId} {n c d : Nat} (hu : Try.prog.underlying t = some (.array n e)) (ht : Try.prog.cellsOf t = n * c) (he : Try.prog.cellsOf e = c) (Q : Value → Prop)
    (h : ∀ cs : List Value, cs.length = c → (∀ v ∈ cs, Q v) → Try.prog.keyLits d e cs = some (cs.map toLit)) {cs : List Value} (hl : cs.length = n * c) (hq : ∀ v ∈ cs, Q v) :
    Try.prog.keyLits (d + 1) t cs = some (cs.map toLit) := by
  unfold Program.keyLits
  simp only [hu, ht, he, hl, if_true]
  rw [mapM_some (f := fun i => ((cs.drop (i * c)).take c).map toLit) fun i hi => h _ (by
    have hi := List.mem_range.1 hi
    have : (i + 1) * c ≤ n * c := Nat.mul_le_mul_right c hi
    rw [Nat.add_mul] at this
    rw [List.length_take, List.length_drop, hl]
    omega) fun v hv => hq v (List.mem_of_mem_drop (List.mem_of_mem_take hv))]
  rw [Option.map_some, chunks c n cs hl]

def IntCell (v : Value) : Prop := ∃ n : Int, v = .int .i64 n ∧ (Lit.int .i64 n).wf = true

theorem lits_int (d : Nat) {v : Value} (h : IntCell v) : Try.prog.keyLits (d + 1) 3 [v] = some [toLit v] := by
  obtain ⟨s, rfl, hs⟩ := h
  simp [Program.keyLits, Try.underlying3, hs, toLit]

/-- The cells of a kind. -/
structure KindCells (cs : List Value) : Prop where
  len : cs.length = 84
  ints : ∀ v ∈ cs.take 4, IntCell v
  strs : StrCells (cs.drop 4)

theorem lits_kind (d : Nat) {cs : List Value} (h : KindCells cs) : Try.prog.keyLits (d + 5) 152 cs = some (cs.map toLit) := by
  have hlen := h.len
  have hst : cs = cs.take 3 ++ ((cs.drop 3).take 1 ++ (cs.drop 4).take 80) := by
    have e1 : (cs.drop 4).take 80 = cs.drop 4 := List.take_of_length_le (by rw [List.length_drop]; omega)
    rw [e1, show cs.drop 4 = (cs.drop 3).drop 1 by rw [List.drop_drop], List.take_append_drop, List.take_append_drop]
  have l1 : Try.prog.keyLits (d + 4) 30 (cs.take 3) = some ((cs.take 3).map toLit) :=
    lits_arr (n := 3) (c := 1) Try.underlying30 (by kernel_rfl) (by kernel_rfl) IntCell (fun cs hc hq => by
      match cs, hc with
      | [a], _ => exact lits_int (d + 2) (hq a (by simp))) (by rw [List.length_take]; omega) fun v hv => h.ints v (List.take_subset_take_left cs (by omega) hv)
  have l2 : Try.prog.keyLits (d + 4) 3 ((cs.drop 3).take 1) = some (((cs.drop 3).take 1).map toLit) := by
    have hl1 : ((cs.drop 3).take 1).length = 1 := by rw [List.length_take, List.length_drop]; omega
    have hm : ∀ v ∈ (cs.drop 3).take 1, IntCell v := fun v hv => h.ints v (by
      rw [List.take_drop] at hv
      exact List.mem_of_mem_drop hv)
    match h1 : (cs.drop 3).take 1, hl1 with
    | [a], _ => exact lits_int (d + 3) (hm a (by rw [h1]; simp))
  have l3 : Try.prog.keyLits (d + 4) 150 ((cs.drop 4).take 80) = some (((cs.drop 4).take 80).map toLit) :=
    lits_arr (n := 5) (c := 16) Try.underlying150 (by kernel_rfl) (by kernel_rfl) (fun v => ∃ s, v = .string s ∧ s.size ≤ maxLen) (fun cs hc hq =>
      lits_arr (n := 8) (c := 2) Try.underlying149 (by kernel_rfl) (by kernel_rfl) (fun v => ∃ s, v = .string s ∧ s.size ≤ maxLen) (fun cs hc hq => lits_lab d hc hq) hc hq)
      (by rw [List.length_take, List.length_drop]; omega) (h.strs.take 80)
  have c1 : Try.prog.cellsOf 152 = 84 := by kernel_rfl
  have c2 : Try.prog.cellsOf 30 = 3 := by kernel_rfl
  have c3 : Try.prog.cellsOf 3 = 1 := by kernel_rfl
  have c4 : Try.prog.cellsOf 150 = 80 := by kernel_rfl
  unfold Program.keyLits
  simp [Try.underlying152, c1, c2, c3, c4, hlen, l1, l2, l3]
  have hm := congrArg (List.map toLit) hst
  simp only [List.map_append, List.map_take, List.map_drop] at hm
  exact hm.symm

/-- A kind's key. -/
def kindKey (C : Array Value) : Bytes := keyBytes (C.toList.map toLit)

theorem key_kind {C : Array Value} (h : KindCells C.toList) : keyOf Try.prog 152 (.agg C) = some (.string (kindKey C)) := by
  have hk : Try.prog.keyType 152 = true := by kernel_rfl
  have hs : Try.prog.types.size + 1 = (Try.prog.types.size - 4) + 5 := by
    have : 5 ≤ Try.prog.types.size := by
      have : decide (5 ≤ Try.prog.types.size) = true := by kernel_rfl
      exact of_decide_eq_true this
    omega
  have hsz : C.size = 84 := by simpa using h.len
  have c1 : Try.prog.cellsOf 152 = 84 := by kernel_rfl
  have hl := lits_kind (Try.prog.types.size - 4) h
  rw [← hs] at hl
  unfold keyOf
  simp only [Try.underlying152, hk, Value.formed, hsz, c1, Value.cells, hl, kindKey, beq_self_eq_true, Bool.and_self, if_true, Option.map_some]

theorem toLit_inj {v v' : Value} (h : IntCell v ∨ ∃ s, v = .string s ∧ s.size ≤ maxLen) (h' : IntCell v' ∨ ∃ s, v' = .string s ∧ s.size ≤ maxLen) (e : toLit v = toLit v') : v = v' := by
  rcases h with ⟨n, rfl, _⟩ | ⟨s, rfl, _⟩ <;> rcases h' with ⟨m, rfl, _⟩ | ⟨u, rfl, _⟩ <;> simp only [toLit, Lit.int.injEq, Lit.string.injEq, reduceCtorEq, true_and] at e
  · rw [e]
  · have e2 : s.data = u.data := Array.toList_inj.1 e
    cases s
    cases u
    simp only at e2
    rw [e2]

theorem KindCells.all {cs : List Value} (h : KindCells cs) : ∀ v ∈ cs, IntCell v ∨ ∃ s, v = .string s ∧ s.size ≤ maxLen := fun v hv => by
  rw [← List.take_append_drop 4 cs, List.mem_append] at hv
  rcases hv with hv | hv
  · exact .inl (h.ints v hv)
  · exact .inr (h.strs v hv)

theorem map_inj_on {α β : Type} {f : α → β} {Q : α → Prop} (hf : ∀ a b, Q a → Q b → f a = f b → a = b) : ∀ {l l' : List α}, (∀ a ∈ l, Q a) → (∀ a ∈ l', Q a) → l.map f = l'.map f → l = l'
  | [], [], _, _, _ => rfl
  | [], _ :: _, _, _, e => by simp at e
  | _ :: _, [], _, _, e => by simp at e
  | a :: r, b :: s, h, h', e => by
    simp only [List.map_cons, List.cons.injEq] at e
    rw [hf a b (h a (by simp)) (h' b (by simp)) e.1, map_inj_on hf (fun x hx => h x (by simp [hx])) (fun x hx => h' x (by simp [hx])) e.2]

theorem kindKey_inj {C C' : Array Value} (h : KindCells C.toList) (h' : KindCells C'.toList) (e : kindKey C = kindKey C') : C = C' := by
  have hl := keyLits_inj (lits_kind 0 h) (lits_kind 0 h') e
  exact Array.toList_inj.1 (map_inj_on (fun a b ha hb => toLit_inj ha hb) h.all h'.all hl)

end Go.Proofs.Ytchddaafibjmgaa

namespace Go.Proofs.Ytchddaafibjmgaa
open Go.RowKit Go.Maps

theorem setL_get : ∀ (cs : List Value) (C : Array Value) (o i : Nat), o + cs.length ≤ C.size → (setL C o cs)[i]? = if o ≤ i ∧ i < o + cs.length then cs[i - o]? else C[i]?
  | [], C, o, i, _ => by
    rw [setL, if_neg (by simp only [List.length_nil]; omega)]
  | v :: r, C, o, i, h => by
    simp only [List.length_cons] at h ⊢
    rw [setL, setL_get r _ _ _ (by simp; omega), Array.getElem?_setIfInBounds]
    by_cases h1 : o = i
    · subst h1
      rw [if_neg (by omega), if_pos rfl, if_pos (by omega), if_pos (by omega)]
      simp
    · by_cases h2 : o + 1 ≤ i ∧ i < o + 1 + r.length
      · rw [if_pos h2, if_pos (by omega), show i - o = (i - (o + 1)) + 1 by omega, List.getElem?_cons_succ]
      · rw [if_neg h2, if_neg h1, if_neg (by omega)]

/-- A cell of a list that is filled up to eight. -/
def kcell (L : List Lab) (i : Nat) : Value := ((labCells L)[i]?).getD (.string ⟨#[]⟩)

theorem kindTo_low {K0 : Array Value} (hK : K0.size = 84) {xs : List (List Lab)} (hl : ∀ L ∈ xs, L.length ≤ 8) {m i : Nat} (hm : m ≤ 5) (hi : i < 4 ∨ 4 + m * 16 ≤ i) : (kindTo K0 xs m)[i]? = K0[i]? := by
  induction m with
  | zero => rfl
  | succ m ih =>
    have h8 : (xs.getD m []).length ≤ 8 := by
      rw [List.getD_eq_getElem?_getD]
      cases h : xs[m]? with
      | none => simp
      | some L => exact hl L (List.mem_of_getElem? h)
    have hc := labCells_length (xs.getD m [])
    rw [kindTo, setL_get _ _ _ _ (by rw [kindTo_size, hK, hc]; omega), if_neg (by rw [hc]; omega), ih (by omega) (by omega)]

theorem kindTo_get {K0 : Array Value} (hK : K0.size = 84) (hz : ∀ i, 4 ≤ i → i < 84 → K0[i]? = some (.string ⟨#[]⟩)) {xs : List (List Lab)} (hl : ∀ L ∈ xs, L.length ≤ 8) {m j i : Nat} (hm : m ≤ 5) (hj : j < m) (hi : i < 16) :
    (kindTo K0 xs m)[4 + j * 16 + i]? = some (kcell (xs.getD j []) i) := by
  induction m with
  | zero => omega
  | succ m ih =>
    have h8 : (xs.getD m []).length ≤ 8 := by
      rw [List.getD_eq_getElem?_getD]
      cases h : xs[m]? with
      | none => simp
      | some L => exact hl L (List.mem_of_getElem? h)
    have hc := labCells_length (xs.getD m [])
    rw [kindTo, setL_get _ _ _ _ (by rw [kindTo_size, hK, hc]; omega)]
    by_cases h : j = m
    · subst h
      by_cases h1 : i < 2 * (xs.getD j []).length
      · rw [if_pos (by rw [hc]; omega), show 4 + j * 16 + i - (4 + j * 16) = i by omega]
        unfold kcell
        rw [List.getElem?_eq_getElem (by rw [hc]; exact h1)]
        rfl
      · rw [if_neg (by rw [hc]; omega), kindTo_low hK hl (by omega) (by omega), hz _ (by omega) (by omega)]
        unfold kcell
        rw [List.getElem?_eq_none (by rw [hc]; omega)]
        rfl
    · rw [if_neg (by rw [hc]; omega)]
      exact ih (by omega) (by omega)

theorem kind0_get (n0 n1 n2 port : Int) : (kind0 n0 n1 n2 port)[0]? = some (.int .i64 n0) ∧ (kind0 n0 n1 n2 port)[1]? = some (.int .i64 n1) ∧ (kind0 n0 n1 n2 port)[2]? = some (.int .i64 n2) ∧ (kind0 n0 n1 n2 port)[3]? = some (.int .i64 port) ∧ ∀ i, 4 ≤ i → i < 84 → (kind0 n0 n1 n2 port)[i]? = some (.string ⟨#[]⟩) := by
  have hs : Try.zeroCells152.size = 84 := by kernel_rfl
  have hz : ∀ i : Fin 84, 4 ≤ i.val → Try.zeroCells152[i.val]? = some (.string ⟨#[]⟩) := by
    have : (List.range 84).all (fun i => decide (i < 4) || (match Try.zeroCells152[i]? with | some (.string s) => s.data.toList.length == 0 | _ => false)) = true := by kernel_rfl
    intro i hi
    have h := List.all_eq_true.1 this i.val (List.mem_range.2 i.isLt)
    rw [Bool.or_eq_true] at h
    rcases h with h | h
    · simp at h; omega
    · split at h
      · rename_i s hs
        rw [hs]
        have h0 : s.data.toList = [] := List.eq_nil_of_length_eq_zero (by simpa using h)
        cases s with
        | mk d =>
          have : d = #[] := Array.toList_inj.1 h0
          rw [this]
      · cases h
  rw [kind0_over]
  refine ⟨?_, ?_, ?_, ?_, fun i h1 h2 => ?_⟩
  · simp [hs]
  · simp [hs]
  · simp [hs]
  · simp [hs]
  · rw [Array.getElem?_setIfInBounds_ne (by omega), Array.getElem?_setIfInBounds_ne (by omega), Array.getElem?_setIfInBounds_ne (by omega), Array.getElem?_setIfInBounds_ne (by omega)]
    exact hz ⟨i, h2⟩ h1

def kindArr (v : PodV) : Array Value := kindTo (kind0 v.n0 v.n1 v.n2 v.port) v.lists 5
/-- The key of a pod's kind. -/
def kindV (v : PodV) : Bytes := kindKey (kindArr v)

/-- What a pod keeps to, as far as its kind's key hangs on it. -/
structure PodV.Fine (v : PodV) : Prop where
  ints : ∀ n ∈ [v.n0, v.n1, v.n2, v.port], (Lit.int .i64 n).wf = true
  len : ∀ L ∈ v.lists, L.length ≤ 8
  labs : ∀ L ∈ v.lists, ∀ x ∈ L, 1 ≤ x.1.size ∧ x.1.size ≤ maxLen ∧ x.2.size ≤ maxLen

theorem labAt_mem {L : List Lab} {k : Nat} (h : k < L.length) : labAt L k ∈ L := by
  unfold labAt
  rw [List.getElem?_eq_getElem h]
  exact List.getElem_mem h

theorem kcell_str {L : List Lab} (h : ∀ x ∈ L, x.1.size ≤ maxLen ∧ x.2.size ≤ maxLen) (i : Nat) : ∃ s, kcell L i = .string s ∧ s.size ≤ maxLen := by
  unfold kcell
  by_cases hi : i < 2 * L.length
  · have hk : i / 2 < L.length := by omega
    have hg := labCells_get L (i / 2) hk
    have hx := h _ (labAt_mem hk)
    rcases Nat.mod_two_eq_zero_or_one i with h2 | h2
    · rw [show i = i / 2 * 2 by omega, hg.1]
      exact ⟨_, rfl, hx.1⟩
    · rw [show i = i / 2 * 2 + 1 by omega, hg.2]
      exact ⟨_, rfl, hx.2⟩
  · rw [List.getElem?_eq_none (by rw [labCells_length]; omega)]
    exact ⟨_, rfl, by unfold maxLen; decide⟩

theorem kindArr_size (v : PodV) : (kindArr v).size = 84 := by unfold kindArr; rw [kindTo_size, kind0_size]

theorem kindArr_low (v : PodV) (hf : v.Fine) : (kindArr v)[0]? = some (.int .i64 v.n0) ∧ (kindArr v)[1]? = some (.int .i64 v.n1) ∧ (kindArr v)[2]? = some (.int .i64 v.n2) ∧ (kindArr v)[3]? = some (.int .i64 v.port) := by
  obtain ⟨h0, h1, h2, h3, _⟩ := kind0_get v.n0 v.n1 v.n2 v.port
  unfold kindArr
  have hl := fun i (hi : i < 4) => kindTo_low (kind0_size v.n0 v.n1 v.n2 v.port) hf.len (m := 5) (Nat.le_refl _) (i := i) (.inl hi)
  exact ⟨by rw [hl 0 (by omega)]; exact h0, by rw [hl 1 (by omega)]; exact h1, by rw [hl 2 (by omega)]; exact h2, by rw [hl 3 (by omega)]; exact h3⟩

theorem kindArr_high (v : PodV) (hf : v.Fine) {j i : Nat} (hj : j < 5) (hi : i < 16) : (kindArr v)[4 + j * 16 + i]? = some (kcell (v.lists.getD j []) i) := by
  obtain ⟨_, _, _, _, hz⟩ := kind0_get v.n0 v.n1 v.n2 v.port
  exact kindTo_get (kind0_size _ _ _ _) hz hf.len (Nat.le_refl _) hj hi

theorem lists_getD_mem (v : PodV) {j : Nat} (hj : j < 5) : v.lists.getD j [] ∈ v.lists := by
  rw [List.getD_eq_getElem?_getD, List.getElem?_eq_getElem (show j < v.lists.length from hj)]
  exact List.getElem_mem _

theorem kindArr_cells (v : PodV) (hf : v.Fine) : KindCells (kindArr v).toList := by
  refine ⟨by simpa using kindArr_size v, fun x hx => ?_, fun x hx => ?_⟩
  · obtain ⟨i, hi⟩ := List.mem_iff_getElem?.1 hx
    rw [List.getElem?_take] at hi
    split at hi
    · rename_i h4
      obtain ⟨h0, h1, h2, h3⟩ := kindArr_low v hf
      rw [Array.getElem?_toList] at hi
      have hw := hf.ints
      simp only [List.mem_cons, List.not_mem_nil, or_false, forall_eq_or_imp, forall_eq] at hw
      rcases (by omega : i = 0 ∨ i = 1 ∨ i = 2 ∨ i = 3) with rfl | rfl | rfl | rfl
      · rw [h0] at hi; cases hi; exact ⟨_, rfl, hw.1⟩
      · rw [h1] at hi; cases hi; exact ⟨_, rfl, hw.2.1⟩
      · rw [h2] at hi; cases hi; exact ⟨_, rfl, hw.2.2.1⟩
      · rw [h3] at hi; cases hi; exact ⟨_, rfl, hw.2.2.2⟩
    · cases hi
  · obtain ⟨i, hi⟩ := List.mem_iff_getElem?.1 hx
    rw [List.getElem?_drop, Array.getElem?_toList] at hi
    have hlt : 4 + i < 84 := by
      rw [← kindArr_size v]
      exact (Array.getElem?_eq_some_iff.1 hi).1
    rw [show 4 + i = 4 + i / 16 * 16 + i % 16 by omega, kindArr_high v hf (by omega) (Nat.mod_lt _ (by omega))] at hi
    cases hi
    exact kcell_str (fun x hx => (hf.labs _ (lists_getD_mem v (by omega)) x hx).2) _

theorem kcell_inj {L L' : List Lab} (hl : L.length ≤ 8) (hl' : L'.length ≤ 8) (h : ∀ x ∈ L, 1 ≤ x.1.size) (h' : ∀ x ∈ L', 1 ≤ x.1.size) (e : ∀ i, i < 16 → kcell L i = kcell L' i) : L = L' := by
  have hin : ∀ {M : List Lab} {k : Nat}, k < M.length → kcell M (k * 2) = .string (labAt M k).1 ∧ kcell M (k * 2 + 1) = .string (labAt M k).2 := fun {M k} hk => by
    unfold kcell
    rw [(labCells_get M k hk).1, (labCells_get M k hk).2]
    exact ⟨rfl, rfl⟩
  have hout : ∀ {M : List Lab} {k : Nat}, M.length ≤ k → kcell M (k * 2) = .string ⟨#[]⟩ := fun {M k} hk => by
    unfold kcell
    rw [List.getElem?_eq_none (by rw [labCells_length]; omega)]
    rfl
  apply List.ext_getElem?
  intro k
  by_cases h1 : k < L.length
  · have e1 := e (k * 2) (by omega)
    rw [(hin h1).1] at e1
    by_cases h2 : k < L'.length
    · rw [(hin h2).1] at e1
      have e2 := e (k * 2 + 1) (by omega)
      rw [(hin h1).2, (hin h2).2] at e2
      have a1 : (labAt L k) = (labAt L' k) := Prod.ext (by simpa using e1) (by simpa using e2)
      unfold labAt at a1
      rw [List.getElem?_eq_getElem h1, List.getElem?_eq_getElem h2] at a1 ⊢
      simp only [Option.getD_some] at a1
      rw [a1]
    · rw [hout (by omega)] at e1
      have hx := h _ (labAt_mem h1)
      simp only [Value.string.injEq] at e1
      rw [e1] at hx
      exact absurd hx (by decide)
  · by_cases h2 : k < L'.length
    · have e1 := e (k * 2) (by omega)
      rw [(hin h2).1, hout (by omega)] at e1
      have hx := h' _ (labAt_mem h2)
      simp only [Value.string.injEq] at e1
      rw [← e1] at hx
      exact absurd hx (by decide)
    · rw [List.getElem?_eq_none (by omega), List.getElem?_eq_none (by omega)]

/-- Pods of one kind are the same but for their names. -/
theorem kindV_inj {v v' : PodV} (hf : v.Fine) (hf' : v'.Fine) (e : kindV v = kindV v') : v = v' := by
  have hC := kindKey_inj (kindArr_cells v hf) (kindArr_cells v' hf') e
  obtain ⟨a0, a1, a2, a3⟩ := kindArr_low v hf
  obtain ⟨b0, b1, b2, b3⟩ := kindArr_low v' hf'
  rw [hC] at a0 a1 a2 a3
  rw [a0] at b0
  rw [a1] at b1
  rw [a2] at b2
  rw [a3] at b3
  have hL : ∀ j, j < 5 → v.lists.getD j [] = v'.lists.getD j [] := fun j hj => by
    refine kcell_inj (hf.len _ (lists_getD_mem v hj)) (hf'.len _ (lists_getD_mem v' hj)) (fun x hx => (hf.labs _ (lists_getD_mem v hj) x hx).1) (fun x hx => (hf'.labs _ (lists_getD_mem v' hj) x hx).1) fun i hi => ?_
    have h1 := kindArr_high v hf hj hi
    rw [hC, kindArr_high v' hf' hj hi] at h1
    exact (Option.some.inj h1).symm
  have l0 := hL 0 (by omega)
  have l1 := hL 1 (by omega)
  have l2 := hL 2 (by omega)
  have l3 := hL 3 (by omega)
  have l4 := hL 4 (by omega)
  obtain ⟨x0, x1, x2, x3, y0, y1, y2, y3, y4⟩ := v
  obtain ⟨x0', x1', x2', x3', y0', y1', y2', y3', y4'⟩ := v'
  simp only [Option.some.injEq, Value.int.injEq, true_and] at b0 b1 b2 b3
  simp only [PodV.lists, List.getD_cons_zero, List.getD_cons_succ] at l0 l1 l2 l3 l4
  subst b0 b1 b2 b3 l0 l1 l2 l3 l4
  rfl

end Go.Proofs.Ytchddaafibjmgaa
