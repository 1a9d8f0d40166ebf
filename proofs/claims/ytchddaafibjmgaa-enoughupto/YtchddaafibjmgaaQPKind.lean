/-
  The program's kindOf, walked.
-/
import Derived.Test.YtchddaafibjmgaaQA12
import Derived.Deep.WholeRow
namespace Go.Proofs.Ytchddaafibjmgaa
open Go.RowKit Go.Maps

/-- The cells of a kind of which none is set. -/
def zeroK : Array Value := (List.replicate 4 (Value.int .i64 0) ++ List.replicate 80 (Value.string ⟨#[]⟩)).toArray
theorem zeroK_eq : zeroK = Try.zeroCells152 := by kernel_rfl
/-- The first four cells of a kind, over none. -/
def kind0 (n0 n1 n2 port : Int) : Array Value := (((zeroK.setIfInBounds 0 (.int .i64 n0)).setIfInBounds 1 (.int .i64 n1)).setIfInBounds 2 (.int .i64 n2)).setIfInBounds 3 (.int .i64 port)
theorem kind0_over (n0 n1 n2 port : Int) : kind0 n0 n1 n2 port = (((Try.zeroCells152.setIfInBounds 0 (.int .i64 n0)).setIfInBounds 1 (.int .i64 n1)).setIfInBounds 2 (.int .i64 n2)).setIfInBounds 3 (.int .i64 port) := by
  unfold kind0
  rw [zeroK_eq]

theorem kind0_size (n0 n1 n2 port : Int) : (kind0 n0 n1 n2 port).size = 84 := by
  rw [kind0_over]
  simp only [Array.size_setIfInBounds]
  kernel_rfl

theorem zeroCells_one : ∀ v ∈ Try.zeroCells152, v.oneCell' = true := by
  have : Try.zeroCells152.all (·.oneCell') = true := by kernel_rfl
  simpa using Array.all_eq_true'.1 this

theorem kind0_one (n0 n1 n2 port : Int) : (kind0 n0 n1 n2 port).all (·.oneCell') = true := by
  rw [Array.all_eq_true']
  intro v hv
  rw [kind0_over] at hv
  rcases Array.mem_or_eq_of_mem_setIfInBounds hv with hv | rfl
  · rcases Array.mem_or_eq_of_mem_setIfInBounds hv with hv | rfl
    · rcases Array.mem_or_eq_of_mem_setIfInBounds hv with hv | rfl
      · rcases Array.mem_or_eq_of_mem_setIfInBounds hv with hv | rfl
        · exact zeroCells_one v hv
        · rfl
      · rfl
    · rfl
  · rfl

/-- A list's labels into a row of eight. -/
theorem copy_labs (x : Lst) {w W : World} (h : x.ok w) (hn : x.L.length ≤ 8) (hb : Below w.heap.size w W) {B : Nat} {C : Array Value} {t : TypeId} (hB : W.heap[B]? = some (.cells C t (0, 0))) (o : Nat) (ho : o + 16 ≤ C.size) (ty : TypeId) :
    (Builtin.copy_ #[31, 31] ty #[.slice (some ⟨B, o, none⟩) 8 8, .slice x.a x.L.length x.cap]).run Try.prog W = .ok (.int .i64 x.L.length) (W.setCells B o (labCells x.L)) := by
  obtain ⟨i0, hi, hz0, hz1, hz2⟩ := info_parts Try.infoLab
  have hsz : (Try.prog.info? 51).map (·.size) = some 2 := by rw [hi]; simp [hz1]
  obtain ⟨a, L, cap⟩ := x
  dsimp only at hn ⊢
  obtain ⟨o1, o2, o3, o4⟩ := h
  dsimp only at o1 o2 o3 o4
  by_cases h0 : 0 < L.length
  · obtain ⟨b, off, rfl, hc⟩ := o3.head h0
    have hbl := World.block_lt_of_cell? w _ (hc 0 h0).1
    dsimp only at hbl
    have hsrc : ∀ j v, (labCells L)[j]? = some v → W.cell? ((⟨b, off, none⟩ : Addr).add j) = some v := labCells_at fun k hk => ⟨by rw [hb.cell (p := ⟨b, off + k * 2, none⟩) hbl]; exact (hc k hk).1, by rw [hb.cell (p := ⟨b, off + k * 2 + 1, none⟩) hbl]; exact (hc k hk).2⟩
    exact run_copy_sized (P := Try.prog) W 31 31 ty 51 B o 8 8 ⟨b, off, none⟩ L.length cap (labCells L) 2 L.length Try.underlying31 hsz (Nat.min_eq_left hn) (by rw [labCells_length]; omega) hsrc (fun j hj => by rw [labCells_length] at hj; rw [cell_of_block hB, Array.getElem?_eq_getElem (by omega)]; rfl) (fun j _ => frozen_of_block hB) (labCells_one L)
  · have hL : L = [] := List.eq_nil_of_length_eq_zero (by omega)
    subst hL
    exact run_copy_zero (P := Try.prog) W 31 31 ty 51 (some ⟨B, o, none⟩) a 8 8 0 cap Try.underlying31 i0 hi (by rfl)

def PodV.lists (v : PodV) : List (List Lab) := [v.labels, v.select, v.bears, v.near, v.apart]

/-- The kind's cells behind so many lists. -/
def kindTo (K0 : Array Value) (xs : List (List Lab)) : Nat → Array Value
  | 0 => K0
  | j + 1 => setL (kindTo K0 xs j) (4 + j * 16) (labCells (xs.getD j []))

theorem kindTo_size (K0 : Array Value) (xs : List (List Lab)) (j : Nat) : (kindTo K0 xs j).size = K0.size := by
  induction j with
  | zero => rfl
  | succ j ih => rw [kindTo, setL_size, ih]

theorem setL_one : ∀ (cs : List Value) (cur : Array Value) (o : Nat), cur.all (·.oneCell') = true → (∀ v ∈ cs, v.oneCell' = true) → (setL cur o cs).all (·.oneCell') = true
  | [], _, _, h, _ => h
  | v :: r, cur, o, h, h1 => by
    rw [setL]
    refine setL_one r _ _ ?_ fun x hx => h1 x (List.mem_cons_of_mem _ hx)
    rw [Array.all_eq_true'] at h ⊢
    intro x hx
    rcases Array.mem_or_eq_of_mem_setIfInBounds hx with hx | rfl
    · exact h x hx
    · exact h1 _ (List.mem_cons_self ..)

theorem kindTo_one {K0 : Array Value} (h : K0.all (·.oneCell') = true) (xs : List (List Lab)) (j : Nat) : (kindTo K0 xs j).all (·.oneCell') = true := by
  induction j with
  | zero => exact h
  | succ j ih => exact setL_one _ _ _ ih (labCells_one _)

theorem setCells_other {b x : Nat} : ∀ (cs : List Value) (o : Nat) {w : World}, x ≠ b → (w.setCells b o cs).heap[x]? = w.heap[x]?
  | [], _, _, _ => rfl
  | v :: r, o, w, h => by
    rw [World.setCells, setCells_other r (o + 1) h]
    exact block_setCell_other h _

theorem results_cell {fn : Func} {q : Tmp} {ty : TypeId} (h : fn.results = #[.cell q ty]) {tmps : Array Value} {P : Program} {w : World} {ad : Addr} {v : Value} (ha : tmps.getD q undef = .pointer (some ad)) (hl : (loadVar ty ad).run P w = .ok v w) : (results fn tmps).run P w = .ok v w := by
  simp only [results, h]
  simp [asAddr, hl, ha, -Array.getD_eq_getD_getElem?]

section
variable {P : Program} {w w' : World} {ops : Array Oper} {rest : List Oper} {o : Oper} {a : Act} {Q : Exit → Act → World → Prop}

theorem wpList_load_big (hgd : o.guard = none) (t : TypeId) (x : Operand) (hop : o.op = .load t x) (v r : Value) (hx : a.eval x = v) (hr : (Instr.loadAt t v).run P w = .ok r w) (h : wpList P ops Q rest (a.put o.dst r) w) : wpList P ops Q (o :: rest) a w := by
  refine wpList_plain hgd fun K hK' => ?_
  unfold Oper.wp
  simp [execOp, hop, hx, hr, Result.andThen]
  exact hK' _ _ h

theorem wpList_store_big (hgd : o.guard = none) (hdst : o.dst = none) (t : TypeId) (x y : Operand) (hop : o.op = .store t x y) (v r : Value) (hx : a.eval x = v) (hy : a.eval y = r) (hr : (Instr.storeAt t v r).run P w = .ok () w') (h : wpList P ops Q rest a w') : wpList P ops Q (o :: rest) a w := by
  refine wpList_plain hgd fun K hK' => ?_
  unfold Oper.wp
  simp [execOp, hop, hx, hy, hr, Result.andThen]
  exact hK' _ _ (by rw [hdst]; exact h)
end

set_option maxRecDepth 100000 in
set_option maxHeartbeats 4000000 in
theorem kind_any {w : World} (p : PodD) (hok : p.ok w) (hl : ∀ x ∈ p.lists, x.L.length ≤ 8) :
    Calls Try.prog 79 #[.agg p.cells] w fun e w' => e = .returned (.agg (kindTo (kind0 p.n0 p.n1 p.n2 p.port) p.val.lists 5)) ∧ Below w.heap.size w w' := by
  have hpc : p.cells = #[.string p.name, .int .i64 p.n0, .int .i64 p.n1, .int .i64 p.n2, .int .i64 p.port, .slice p.labels.a p.labels.L.length p.labels.cap, .slice p.select.a p.select.L.length p.select.cap, .slice p.bears.a p.bears.L.length p.bears.cap, .slice p.near.a p.near.L.length p.near.cap, .slice p.apart.a p.apart.L.length p.apart.cap] := rfl
  have hst : ∀ W : World, (storeCells ⟨W.heap.size, 0, none⟩ ((((Try.zeroCells152.toList.set 0 (.int .i64 p.n0)).set 1 (.int .i64 p.n1)).set 2 (.int .i64 p.n2)).set 3 (.int .i64 p.port))).run Try.prog (W.alloc (.cells Try.zeroCells152 152)) = .ok () (W.alloc (.cells (kind0 p.n0 p.n1 p.n2 p.port) 152)) := fun W => by
    have h := run_storeCells_new (P := Try.prog) W 152 Try.zeroCells152 (kind0 p.n0 p.n1 p.n2 p.port) (by rw [kind0_size]; kernel_rfl) (by rw [kind0_size]; kernel_rfl) (kind0_one _ _ _ _)
    have e : (kind0 p.n0 p.n1 p.n2 p.port).toList = (((Try.zeroCells152.toList.set 0 (.int .i64 p.n0)).set 1 (.int .i64 p.n1)).set 2 (.int .i64 p.n2)).set 3 (.int .i64 p.port) := by simp only [kind0_over, Array.toList_setIfInBounds]
    rw [e] at h
    exact h
  have hst1 := hst (((w.alloc (.cells #[.string p.name, .int .i64 p.n0, .int .i64 p.n1, .int .i64 p.n2, .int .i64 p.port, .slice p.labels.a p.labels.L.length p.labels.cap, .slice p.select.a p.select.L.length p.select.cap, .slice p.bears.a p.bears.L.length p.bears.cap, .slice p.near.a p.near.L.length p.near.cap, .slice p.apart.a p.apart.L.length p.apart.cap] 33)).alloc (.cells Try.zeroCells152 152)))
  simp only [World.size_alloc] at hst1
  rw [hpc]
  clear hst
  have hK0 := kind0_size p.n0 p.n1 p.n2 p.port
  have h1K := kind0_one p.n0 p.n1 p.n2 p.port
  generalize kind0 p.n0 p.n1 p.n2 p.port = K0 at hst1 hK0 h1K ⊢
  have HK1 : Hid (K0.all (·.oneCell') = true) := h1K
  clear h1K
  go_enter Try.func79, Try.ntmps79
  go_wp2
  clear hst1
  have hb0 : Below w.heap.size w (((w.alloc (.cells #[.string p.name, .int .i64 p.n0, .int .i64 p.n1, .int .i64 p.n2, .int .i64 p.port, .slice p.labels.a p.labels.L.length p.labels.cap, .slice p.select.a p.select.L.length p.select.cap, .slice p.bears.a p.bears.L.length p.bears.cap, .slice p.near.a p.near.L.length p.near.cap, .slice p.apart.a p.apart.L.length p.apart.cap] 33)).alloc (.cells Try.zeroCells152 152)).alloc (.cells K0 152)) := below_trans (below_trans (below_alloc _ _) (below_alloc _ _)) (below_alloc _ _)
  have hN1 : (((w.alloc (.cells #[.string p.name, .int .i64 p.n0, .int .i64 p.n1, .int .i64 p.n2, .int .i64 p.port, .slice p.labels.a p.labels.L.length p.labels.cap, .slice p.select.a p.select.L.length p.select.cap, .slice p.bears.a p.bears.L.length p.bears.cap, .slice p.near.a p.near.L.length p.near.cap, .slice p.apart.a p.apart.L.length p.apart.cap] 33)).alloc (.cells Try.zeroCells152 152)).alloc (.cells K0 152)).heap[w.heap.size + 1 + 1]? = some (.cells K0 152 (0, 0)) := by
    have h := block_alloc_new ((w.alloc (.cells #[.string p.name, .int .i64 p.n0, .int .i64 p.n1, .int .i64 p.n2, .int .i64 p.port, .slice p.labels.a p.labels.L.length p.labels.cap, .slice p.select.a p.select.L.length p.select.cap, .slice p.bears.a p.bears.L.length p.bears.cap, .slice p.near.a p.near.L.length p.near.cap, .slice p.apart.a p.apart.L.length p.apart.cap] 33)).alloc (.cells Try.zeroCells152 152)) (.cells K0 152)
    rwa [World.size_alloc, World.size_alloc] at h
  have hN2 : (((w.alloc (.cells #[.string p.name, .int .i64 p.n0, .int .i64 p.n1, .int .i64 p.n2, .int .i64 p.port, .slice p.labels.a p.labels.L.length p.labels.cap, .slice p.select.a p.select.L.length p.select.cap, .slice p.bears.a p.bears.L.length p.bears.cap, .slice p.near.a p.near.L.length p.near.cap, .slice p.apart.a p.apart.L.length p.apart.cap] 33)).alloc (.cells Try.zeroCells152 152)).alloc (.cells K0 152)).heap[w.heap.size + 1]? = some (.cells Try.zeroCells152 152 (0, 0)) := by
    have h := block_alloc_new (w.alloc (.cells #[.string p.name, .int .i64 p.n0, .int .i64 p.n1, .int .i64 p.n2, .int .i64 p.port, .slice p.labels.a p.labels.L.length p.labels.cap, .slice p.select.a p.select.L.length p.select.cap, .slice p.bears.a p.bears.L.length p.bears.cap, .slice p.near.a p.near.L.length p.near.cap, .slice p.apart.a p.apart.L.length p.apart.cap] 33)) (.cells Try.zeroCells152 152)
    rw [World.size_alloc] at h
    rw [(below_alloc ((w.alloc (.cells #[.string p.name, .int .i64 p.n0, .int .i64 p.n1, .int .i64 p.n2, .int .i64 p.port, .slice p.labels.a p.labels.L.length p.labels.cap, .slice p.select.a p.select.L.length p.select.cap, .slice p.bears.a p.bears.L.length p.bears.cap, .slice p.near.a p.near.L.length p.near.cap, .slice p.apart.a p.apart.L.length p.apart.cap] 33)).alloc (.cells Try.zeroCells152 152)) (.cells K0 152)).block (w.heap.size + 1) (by rw [World.size_alloc, World.size_alloc]; omega)]
    exact h
  go_loopw [22] (fun i wr => ∃ j : Nat, j ≤ 5 ∧ i = .int .i64 j ∧ Below w.heap.size w wr ∧ wr.heap[w.heap.size + 1 + 1]? = some (.cells (kindTo K0 p.val.lists j) 152 (0, 0)) ∧ wr.heap[w.heap.size + 1]? = some (.cells Try.zeroCells152 152 (0, 0))) (fun i _ => 5 - (intOf i).toNat)
  case atStart => exact ⟨0, by omega, rfl, hb0, hN1, hN2⟩
  case round =>
    clear hb0 hN1 hN2
    obtain ⟨j, hj, rfl, hbw, hB, hR⟩ := hrel
    have hj' : j = 0 ∨ j = 1 ∨ j = 2 ∨ j = 3 ∨ j = 4 ∨ j = 5 := by omega
    rcases hj' with rfl | rfl | rfl | rfl | rfl | rfl
    · have hcp := copy_labs p.labels (hok.2 _ (by simp [PodD.lists])) (hl _ (by simp [PodD.lists])) hbw hB 4 (by rw [kindTo_size]; omega)
      have hix : (Instr.index 170 (.agg #[.slice p.labels.a p.labels.L.length p.labels.cap, .slice p.select.a p.select.L.length p.select.cap, .slice p.bears.a p.bears.L.length p.bears.cap, .slice p.near.a p.near.L.length p.near.cap, .slice p.apart.a p.apart.L.length p.apart.cap]) (.int .i64 0)).run Try.prog wr = .ok (.slice p.labels.a p.labels.L.length p.labels.cap) wr := by kernel_rfl
      go_wp2
      go_roundw
      all_goals first
        | exact ⟨1, by omega, rfl, below_setCells (by omega) _ _ hbw, block_setCells _ _ hB, by rw [setCells_other _ _ (by omega)]; exact hR⟩
        | (simp [intOf])
    · have hcp := copy_labs p.select (hok.2 _ (by simp [PodD.lists])) (hl _ (by simp [PodD.lists])) hbw hB 20 (by rw [kindTo_size]; omega)
      have hix : (Instr.index 170 (.agg #[.slice p.labels.a p.labels.L.length p.labels.cap, .slice p.select.a p.select.L.length p.select.cap, .slice p.bears.a p.bears.L.length p.bears.cap, .slice p.near.a p.near.L.length p.near.cap, .slice p.apart.a p.apart.L.length p.apart.cap]) (.int .i64 1)).run Try.prog wr = .ok (.slice p.select.a p.select.L.length p.select.cap) wr := by kernel_rfl
      go_wp2
      go_roundw
      all_goals first
        | exact ⟨2, by omega, rfl, below_setCells (by omega) _ _ hbw, block_setCells _ _ hB, by rw [setCells_other _ _ (by omega)]; exact hR⟩
        | (simp [intOf])
    · have hcp := copy_labs p.bears (hok.2 _ (by simp [PodD.lists])) (hl _ (by simp [PodD.lists])) hbw hB 36 (by rw [kindTo_size]; omega)
      have hix : (Instr.index 170 (.agg #[.slice p.labels.a p.labels.L.length p.labels.cap, .slice p.select.a p.select.L.length p.select.cap, .slice p.bears.a p.bears.L.length p.bears.cap, .slice p.near.a p.near.L.length p.near.cap, .slice p.apart.a p.apart.L.length p.apart.cap]) (.int .i64 2)).run Try.prog wr = .ok (.slice p.bears.a p.bears.L.length p.bears.cap) wr := by kernel_rfl
      go_wp2
      go_roundw
      all_goals first
        | exact ⟨3, by omega, rfl, below_setCells (by omega) _ _ hbw, block_setCells _ _ hB, by rw [setCells_other _ _ (by omega)]; exact hR⟩
        | (simp [intOf])
    · have hcp := copy_labs p.near (hok.2 _ (by simp [PodD.lists])) (hl _ (by simp [PodD.lists])) hbw hB 52 (by rw [kindTo_size]; omega)
      have hix : (Instr.index 170 (.agg #[.slice p.labels.a p.labels.L.length p.labels.cap, .slice p.select.a p.select.L.length p.select.cap, .slice p.bears.a p.bears.L.length p.bears.cap, .slice p.near.a p.near.L.length p.near.cap, .slice p.apart.a p.apart.L.length p.apart.cap]) (.int .i64 3)).run Try.prog wr = .ok (.slice p.near.a p.near.L.length p.near.cap) wr := by kernel_rfl
      go_wp2
      go_roundw
      all_goals first
        | exact ⟨4, by omega, rfl, below_setCells (by omega) _ _ hbw, block_setCells _ _ hB, by rw [setCells_other _ _ (by omega)]; exact hR⟩
        | (simp [intOf])
    · have hcp := copy_labs p.apart (hok.2 _ (by simp [PodD.lists])) (hl _ (by simp [PodD.lists])) hbw hB 68 (by rw [kindTo_size]; omega)
      have hix : (Instr.index 170 (.agg #[.slice p.labels.a p.labels.L.length p.labels.cap, .slice p.select.a p.select.L.length p.select.cap, .slice p.bears.a p.bears.L.length p.bears.cap, .slice p.near.a p.near.L.length p.near.cap, .slice p.apart.a p.apart.L.length p.apart.cap]) (.int .i64 4)).run Try.prog wr = .ok (.slice p.apart.a p.apart.L.length p.apart.cap) wr := by kernel_rfl
      go_wp2
      go_roundw
      all_goals first
        | exact ⟨5, by omega, rfl, below_setCells (by omega) _ _ hbw, block_setCells _ _ hB, by rw [setCells_other _ _ (by omega)]; exact hR⟩
        | (simp [intOf])
    · have hld : (Instr.loadAt 152 (.pointer (some ⟨w.heap.size + 1 + 1, 0, none⟩))).run Try.prog wr = .ok (.agg (kindTo K0 p.val.lists 5)) wr := by
        simp only [Instr.loadAt, Instr.sureAddr, Sem.run_bind, Sem.run_pure, Result.andThen]
        exact run_loadVar_row _ _ _ _ _ _ _ hB Try.underlying152 rfl (by rw [kindTo_size, hK0]; kernel_rfl)
      have hsv : (Instr.storeAt 152 (.pointer (some ⟨w.heap.size + 1, 0, none⟩)) (.agg (kindTo K0 p.val.lists 5))).run Try.prog wr = .ok () (wr.setRow (w.heap.size + 1) (kindTo K0 p.val.lists 5)) := by
        simp only [Instr.storeAt, Instr.sureAddr, Sem.run_bind, Sem.run_pure, Result.andThen]
        exact run_storeVar_row _ _ _ _ _ _ hR (by rw [kindTo_size, hK0]; kernel_rfl) (by rw [kindTo_size, hK0]; kernel_rfl) (kindTo_one HK1.out _ _)
      go_wp2_with (first
        | (refine wpList_load_big rfl 152 _ rfl _ _ rfl hld ?_)
        | (refine wpList_store_big rfl rfl 152 _ _ rfl _ _ rfl rfl hsv ?_))
      have hl2 : (loadVar 152 ⟨w.heap.size + 1, 0, none⟩).run Try.prog (wr.setRow (w.heap.size + 1) (kindTo K0 p.val.lists 5)) = .ok (.agg (kindTo K0 p.val.lists 5)) (wr.setRow (w.heap.size + 1) (kindTo K0 p.val.lists 5)) := run_loadVar_row _ _ _ _ _ _ _ (setRow_heap _ _ _ _ _ _ hR) Try.underlying152 rfl (by rw [kindTo_size, hK0]; kernel_rfl)
      refine bodyPost_ret (v := .agg (kindTo K0 p.val.lists 5)) (results_cell rfl rfl hl2) rfl ⟨rfl, hbw.trans ⟨rfl, rfl, rfl, by simp [World.setRow], fun k hk => setRow_other _ _ _ _ (by omega)⟩⟩
end Go.Proofs.Ytchddaafibjmgaa
