/-
  For look: what is kept of the new views, and one step.
-/
import Derived.Test.YtchddaafibjmgaaQA11
namespace Go.Proofs.Ytchddaafibjmgaa
open Go.RowKit Go.Maps Go.ChangeMaps Go.MapKept

theorem Try.infoPR : (Try.prog.info? 117).map (fun i => (i.zero, i.size, i.bytes)) = some (some (.pointer none), 1, 8) := by kernel_rfl

theorem MapAt.clearAll {P : Program} {w : World} {k t e : TypeId} {b : Nat} {L : List (Bytes × Value)} (h : MapAt P w k b L) (ht : P.underlying t = some (.map k e)) :
    ∃ w', (∀ ty, (Builtin.clear_ #[t] ty #[.map (some b)]).run P w = .ok (.tuple #[]) w') ∧ MapAt P w' k b [] ∧ w.mapTurned w' b := by
  obtain ⟨es, clock, hb, F, hs, hD⟩ := h
  refine ⟨setBlock w b (.map #[] clock), fun ty => ?_, ⟨#[], clock, heap_setBlock_same hb _, ⟨by simp, stamped_empty clock, by simp⟩, Nat.le_refl _, rfl⟩, ⟨es, clock, #[], clock, hb, rfl⟩⟩
  simp [Builtin.clear_, run_underlying ht, MapKept.run_getObj_map hb, MapKept.run_setObj_map _ hb, Result.andThen, setBlock]

def emptyV : ViewG := ⟨0, 0, 0, .slice none 0 0, []⟩

/-- A node of which there is no view. -/
def cond (g : Gh) (k : Bytes) : Bool := (getL g.NN k).isSome && (getL g.VV k).isNone

theorem usedOf_snoc (l : List (Bytes × LiesV)) (p : Bytes × LiesV) (k : Bytes) : usedOf (l ++ [p]) k = if p.2.node == k then ((usedOf l k).1 + p.2.n0, (usedOf l k).2.1 + p.2.n1, (usedOf l k).2.2 + p.2.n2) else usedOf l k := by
  induction l with
  | nil => simp [usedOf]
  | cons q r ih =>
    simp only [List.cons_append, usedOf, ih]
    cases (q.2.node == k) <;> cases (p.2.node == k) <;> simp
    omega

/-- The new views, when the first i pods are seen. -/
structure LookOk (B : Nat) (w : World) (g : Gh) (AN : List (Bytes × ViewG)) (i : Nat) : Prop where
  off : ∀ k, cond g k = false → getL AN k = none
  on : ∀ k, cond g k = true → ∃ v, getL AN k = some v
  ptrs : ∀ k v, getL AN k = some v → v.ptrs = ((g.PP.take i).filter fun p => p.2.2.node == k).map (·.2.1)
  used : ∀ k v, getL AN k = some v → (v.u0, v.u1, v.u2) = usedOf (mapV (·.2) (g.PP.take i)) k
  row : ∀ k v, getL AN k = some v → w.ownsRow 0 117 1 v.row v.ptrs.length (v.ptrs.map ptrV) ∧ ∀ b, v.row.ownBlock = some b → B ≤ b
  apart : ∀ k k' v v', getL AN k = some v → getL AN k' = some v' → k ≠ k' → ∀ b, v.row.ownBlock = some b → v'.row.ownBlock ≠ some b

theorem LookOk.start {B : Nat} {w : World} {g : Gh} {AN : List (Bytes × ViewG)} (h : ∀ k, getL AN k = if cond g k then some emptyV else none) : LookOk B w g AN 0 := by
  have hv : ∀ k v, getL AN k = some v → v = emptyV := fun k v hk => by
    rw [h] at hk
    split at hk
    · exact (Option.some.inj hk).symm
    · cases hk
  refine ⟨fun k hc => by rw [h, hc]; rfl, fun k hc => ⟨emptyV, by rw [h, hc]; rfl⟩, fun k v hk => ?_, fun k v hk => ?_, fun k v hk => ?_, fun k k' v v' hk _ _ b hb => ?_⟩
  · rw [hv k v hk]; rfl
  · rw [hv k v hk]; rfl
  · rw [hv k v hk]
    exact ⟨World.ownsRow_nil _ _ _ _, fun b hb => by simp [emptyV, Value.ownBlock] at hb⟩
  · rw [hv k v hk] at hb
    simp [emptyV, Value.ownBlock] at hb

theorem LookOk.kept {B : Nat} {w w' : World} {g : Gh} {AN : List (Bytes × ViewG)} {i : Nat} {G : Nat → Prop} (h : LookOk B w g AN i) (hk : Kept G w w') (hG : ∀ k v, getL AN k = some v → ∀ b, v.row.ownBlock = some b → ¬ G b) : LookOk B w' g AN i :=
  ⟨h.off, h.on, h.ptrs, h.used, fun k v hv => ⟨hk.ownsRow (h.row k v hv).1 fun b hb => hG k v hv b hb, (h.row k v hv).2⟩, h.apart⟩

/-- A pod on a node that is passed over. -/
theorem LookOk.skip {B : Nat} {w : World} {g : Gh} {AN : List (Bytes × ViewG)} {i : Nat} (h : LookOk B w g AN i) (hi : i < g.PP.length) (hc : cond g g.PP[i].2.2.node = false) : LookOk B w g AN (i + 1) := by
  have hne : ∀ k v, getL AN k = some v → (g.PP[i].2.2.node == k) = false := fun k v hv => by
    have : g.PP[i].2.2.node ≠ k := fun e => by
      rw [e] at hc
      rw [h.off k hc] at hv
      cases hv
    simpa using this
  refine ⟨h.off, h.on, fun k v hv => ?_, fun k v hv => ?_, h.row, h.apart⟩
  · rw [h.ptrs k v hv, List.take_succ_eq_append_getElem hi, List.filter_append]
    simp [hne k v hv]
  · rw [h.used k v hv, List.take_succ_eq_append_getElem hi]
    have : mapV (·.2) (g.PP.take i ++ [g.PP[i]]) = mapV (·.2) (g.PP.take i) ++ [(g.PP[i].1, g.PP[i].2.2)] := by unfold mapV; rw [List.map_append]; rfl
    rw [this, usedOf_snoc, hne k v hv]
    rfl

/-- A pod on a node that is looked at anew. -/
theorem LookOk.step {B : Nat} {w w' : World} {g : Gh} {AN : List (Bytes × ViewG)} {i : Nat} (h : LookOk B w g AN i) (hi : i < g.PP.length) {v : ViewG} (hv : getL AN g.PP[i].2.2.node = some v) {row' : Value} {G : Nat → Prop} (hk : Kept G w w') (hG : ∀ k u, getL AN k = some u → k ≠ g.PP[i].2.2.node → ∀ b, u.row.ownBlock = some b → ¬ G b)
    (hrow : w'.ownsRow 0 117 1 row' (v.ptrs.length + 1) (v.ptrs.map ptrV ++ [ptrV g.PP[i].2.1])) (hfr : row'.ownBlock = v.row.ownBlock ∨ ∀ b, row'.ownBlock = some b → w.heap.size ≤ b) (hB : B ≤ w.heap.size) :
    LookOk B w' g (putL AN g.PP[i].2.2.node ⟨v.u0 + g.PP[i].2.2.n0, v.u1 + g.PP[i].2.2.n1, v.u2 + g.PP[i].2.2.n2, row', v.ptrs ++ [g.PP[i].2.1]⟩) (i + 1) := by
  have hcn : cond g g.PP[i].2.2.node = true := by
    cases hc : cond g g.PP[i].2.2.node
    · rw [h.off _ hc] at hv; cases hv
    · rfl
  have hlt : ∀ k u, getL AN k = some u → ∀ b, u.row.ownBlock = some b → b < w.heap.size := fun k u hu b hb => ((h.row k u hu).1.lt b hb).2
  have hnew : ∀ k u, getL (putL AN g.PP[i].2.2.node ⟨v.u0 + g.PP[i].2.2.n0, v.u1 + g.PP[i].2.2.n1, v.u2 + g.PP[i].2.2.n2, row', v.ptrs ++ [g.PP[i].2.1]⟩) k = some u →
      (k = g.PP[i].2.2.node ∧ u = ⟨v.u0 + g.PP[i].2.2.n0, v.u1 + g.PP[i].2.2.n1, v.u2 + g.PP[i].2.2.n2, row', v.ptrs ++ [g.PP[i].2.1]⟩) ∨ (k ≠ g.PP[i].2.2.node ∧ getL AN k = some u) := fun k u hu => by
    by_cases e : k = g.PP[i].2.2.node
    · subst e
      rw [getL_putL_same] at hu
      exact .inl ⟨rfl, (Option.some.inj hu).symm⟩
    · rw [getL_putL_other _ _ e] at hu
      exact .inr ⟨e, hu⟩
  have htk : mapV (·.2) (g.PP.take (i + 1)) = mapV (·.2) (g.PP.take i) ++ [(g.PP[i].1, g.PP[i].2.2)] := by
    rw [List.take_succ_eq_append_getElem hi]
    unfold mapV
    rw [List.map_append]
    rfl
  refine ⟨fun k hc => ?_, fun k hc => ?_, fun k u hu => ?_, fun k u hu => ?_, fun k u hu => ?_, fun k k' u u' hu hu' hne b hb => ?_⟩
  · by_cases e : k = g.PP[i].2.2.node
    · rw [e, hcn] at hc; cases hc
    · rw [getL_putL_other _ _ e]; exact h.off k hc
  · by_cases e : k = g.PP[i].2.2.node
    · exact ⟨_, by rw [e, getL_putL_same]⟩
    · obtain ⟨u, hu⟩ := h.on k hc
      exact ⟨u, by rw [getL_putL_other _ _ e]; exact hu⟩
  · rcases hnew k u hu with ⟨rfl, rfl⟩ | ⟨e, hu'⟩
    · dsimp only
      rw [h.ptrs _ _ hv, List.take_succ_eq_append_getElem hi, List.filter_append]
      simp
    · have : (g.PP[i].2.2.node == k) = false := by simpa using Ne.symm e
      rw [h.ptrs _ _ hu', List.take_succ_eq_append_getElem hi, List.filter_append]
      simp [this]
  · rcases hnew k u hu with ⟨rfl, rfl⟩ | ⟨e, hu'⟩
    · rw [htk, usedOf_snoc, ← h.used _ _ hv]
      simp
    · have : (g.PP[i].2.2.node == k) = false := by simpa using Ne.symm e
      rw [htk, usedOf_snoc, ← h.used _ _ hu']
      simp [this]
  · rcases hnew k u hu with ⟨rfl, rfl⟩ | ⟨e, hu'⟩
    · refine ⟨by simpa using hrow, fun b hb => ?_⟩
      rcases hfr with hf | hf
      · exact (h.row _ _ hv).2 b (by rw [← hf]; exact hb)
      · exact Nat.le_trans hB (hf b hb)
    · exact ⟨hk.ownsRow (h.row _ _ hu').1 fun b hb => hG _ _ hu' e b hb, (h.row _ _ hu').2⟩
  · rcases hnew k u hu with ⟨rfl, rfl⟩ | ⟨e, hu1⟩ <;> rcases hnew k' u' hu' with ⟨rfl, rfl⟩ | ⟨e', hu2⟩
    · exact absurd rfl hne
    · rcases hfr with hf | hf
      · exact h.apart _ _ _ _ hv hu2 hne b (by rw [← hf]; exact hb)
      · intro h2
        have := hf b hb
        have := hlt _ _ hu2 b h2
        omega
    · rcases hfr with hf | hf
      · dsimp only
        rw [hf]
        exact h.apart _ _ _ _ hu1 hv hne b hb
      · intro h2
        have := hf b h2
        have := hlt _ _ hu1 b hb
        omega
    · exact h.apart _ _ _ _ hu1 hu2 hne b hb

theorem row_type {w : World} {e : TypeId} {v : Value} {n : Nat} {xs : List Value} (h : w.ownsRow 0 e 1 v n xs) {b : Nat} (hb : v.ownBlock = some b) : ∃ cur, w.heap[b]? = some (.cells cur e (0, 0)) := by
  rcases h.2 with ⟨hnil, _⟩ | ⟨g, cap, cur, hv, _, hg, _⟩
  · rw [hnil] at hb; simp [Value.ownBlock] at hb
  · rw [hv] at hb
    simp [Value.ownBlock] at hb
    subst hb
    exact ⟨cur, hg⟩

theorem row_not_map {w : World} {e : TypeId} {v : Value} {n : Nat} {xs : List Value} (h : w.ownsRow 0 e 1 v n xs) {b : Nat} (hm : ∃ es c, w.heap[b]? = some (.map es c)) : v.ownBlock ≠ some b := fun hb => by
  obtain ⟨cur, hc⟩ := row_type h hb
  obtain ⟨es, c, hm⟩ := hm
  rw [hc] at hm
  cases hm

theorem row_not_cells {w : World} {e t : TypeId} {v : Value} {n : Nat} {xs : List Value} (h : w.ownsRow 0 e 1 v n xs) {b : Nat} {c : Array Value} {fr : Nat × Nat} (hm : w.heap[b]? = some (.cells c t fr)) (hne : e ≠ t) : v.ownBlock ≠ some b := fun hb => by
  obtain ⟨cur, hc⟩ := row_type h hb
  rw [hc] at hm
  simp only [Option.some.injEq, Obj.cells.injEq] at hm
  exact hne hm.2.1

/-- The append and the store of one round. -/
theorem look_step {Wp : World} {ao : Option Addr} {n cap ban : Nat} {xs : List Value} {LA : List (Bytes × Value)} (hown : Wp.ownsRow 0 117 1 (.slice ao n cap) n xs) (B q : Nat) (hcell : Wp.cell? ⟨B, 0, none⟩ = some (ptrV q)) (hm : MapAt Try.prog Wp 9 ban LA) (hn : n < 100000) (hL : LA.length < 100000)
    (node : ByteArray) (hnode : node.size ≤ maxLen) (a b c : Int) :
    ∃ ao' cap' w6 w7, (Builtin.append_ #[156, 156] 156 #[.slice ao n cap, .slice (some ⟨B, 0, none⟩) 1 1]).run Try.prog Wp = .ok (.slice ao' (n + 1) cap') w6 ∧
      (Instr.mapUpdate 107 (.map (some ban)) (.string node) (.agg #[.int .i64 a, .int .i64 b, .int .i64 c, .slice ao' (n + 1) cap'])).run Try.prog w6 = .ok () w7 ∧
      w7.ownsRow 0 117 1 (.slice ao' (n + 1) cap') (n + 1) (xs ++ [ptrV q]) ∧ MapAt Try.prog w7 9 ban (putL LA (ky node) (.agg #[.int .i64 a, .int .i64 b, .int .i64 c, .slice ao' (n + 1) cap'])) ∧
      Kept (fun b => (Value.slice ao n cap).ownBlock = some b) Wp w6 ∧ Kept (fun b => b = ban) w6 w7 ∧ ((Value.slice ao' (n + 1) cap').ownBlock = (Value.slice ao n cap).ownBlock ∨ ∀ b, (Value.slice ao' (n + 1) cap').ownBlock = some b → Wp.heap.size ≤ b) := by
  obtain ⟨i0, hi, hz0, hz1, hz2⟩ := info_parts Try.infoPR
  obtain ⟨v', w6, hr, r1, r2, r3⟩ := run_append_row (P := Try.prog) Wp 156 156 117 i0 _ 1 8 Try.underlying156 hi hz0 hz1 hz2 rfl (by decide) _ n xs hown ⟨B, 0, none⟩ 1 1 [ptrV q] rfl (fun j u hu => by
    match j, hu with
    | 0, hu => simp at hu; subst hu; exact hcell
    | j + 1, hu => simp at hu) (by intro u hu; simp at hu; subst hu; rfl) (by unfold maxLen; omega) (by omega)
  obtain ⟨ao', cap', rfl⟩ := slice_of_own r1
  have hk6 : Kept (fun b => (Value.slice ao n cap).ownBlock = some b) Wp w6 := (Kept.refl _ Wp).grown r2 fun k hk _ => hk
  have hmne : ¬ (Value.slice ao n cap).ownBlock = some ban := fun e => by
    rcases hown.2 with ⟨hnil, _⟩ | ⟨g, cap2, cur, hv, _, hg, _⟩
    · rw [hnil] at e; simp [Value.ownBlock] at e
    · rw [hv] at e
      simp [Value.ownBlock] at e
      obtain ⟨es, ck, hmm⟩ := hm.isMap
      rw [e, hmm] at hg
      cases hg
  have hm6 := hm.kept hk6 hmne
  obtain ⟨w7, hst, hm7, ht7⟩ := hm6.store (val := .agg #[.int .i64 a, .int .i64 b, .int .i64 c, .slice ao' (n + 1) cap']) strK Try.underlying107 (by unfold maxLen; omega) (keyS node hnode)
  have hk7 := Kept.turned ht7
  refine ⟨ao', cap', w6, w7, hr, hst, hk7.ownsRow r1 fun b hb e => ?_, hm7, hk6, hk7, r3⟩
  rcases r1.2 with ⟨hnil, _⟩ | ⟨g, cap2, cur, hv, _, hg, _⟩
  · rw [hnil] at hb; simp [Value.ownBlock] at hb
  · rw [hv] at hb
    simp [Value.ownBlock] at hb
    obtain ⟨es, ck, hmm⟩ := hm6.isMap
    rw [hb, e, hmm] at hg
    cases hg

/-- An append whose run is known, as one step of a region that draws. -/
theorem step_append_run {P : Program} {ops : Array Oper} {o : Oper} {a : Act} {w w' : World} {K : Act → World → Prop} {Q : Exit → Act → World → Prop} {E : Prop} {v' : Value}
    (hg : o.guard = none) (s x : Operand) (t : TypeId) (hop : o.op = Op.call { callee := Callee.builtin Builtin.append, args := #[s, x], argTypes := #[t, t] }) (sv xv : Value) (hs : a.eval s = sv) (hx : a.eval x = xv) (hrun : (Builtin.append_ #[t, t] o.type #[sv, xv]).run P w = .ok v' w')
    (hK : K (a.put o.dst v') w') : if Region.wanted o (yielded ops a.tmps) = true then Oper.wp P o a w K Q else E := by
  have hw : Region.wanted o (yielded ops a.tmps) = true := by simp [Region.wanted, hg]
  rw [if_pos hw]
  unfold Oper.wp
  simp [execOp, hop, resolve, invoke, builtin, hs, hx, hrun, Result.andThen]
  exact hK

/-- One round, whole. -/
theorem look_round {k : Nat} {W0 wr Wp : World} {g : Gh} {AN : List (Bytes × ViewG)} {sv : Value} {n : Nat} {names : List Value} (hbi : Below W0.heap.size W0 wr) (hb : Below wr.heap.size wr Wp) (hMi : MapAt Try.prog wr 9 W0.heap.size (mapV ViewG.val AN)) (hL : LookOk W0.heap.size wr g AN k)
    (hR : wr.ownsRow 0 9 1 sv n names) (hlen : AN.length ≤ 32) (hk : k < g.PP.length) {v : ViewG} (hv : getL AN g.PP[k].2.2.node = some v) {ao2 : Option Addr} {cap2 : Nat} (hrow : v.row = .slice ao2 v.ptrs.length cap2) (hP : g.PP.length ≤ 128) (B : Nat) (hcell : Wp.cell? ⟨B, 0, none⟩ = some (ptrV g.PP[k].2.1)) (hnd : g.PP[k].2.2.node.length ≤ maxLen) :
    ∃ ao' cap' w6 w7, (Builtin.append_ #[156, 156] 156 #[.slice ao2 v.ptrs.length cap2, .slice (some ⟨B, 0, none⟩) 1 1]).run Try.prog Wp = .ok (.slice ao' (v.ptrs.length + 1) cap') w6 ∧
      (Instr.mapUpdate 107 (.map (some W0.heap.size)) (.string (bs g.PP[k].2.2.node)) (.agg #[.int .i64 (v.u0 + g.PP[k].2.2.n0), .int .i64 (v.u1 + g.PP[k].2.2.n1), .int .i64 (v.u2 + g.PP[k].2.2.n2), .slice ao' (v.ptrs.length + 1) cap'])).run Try.prog w6 = .ok () w7 ∧
      Kept (fun b => (Value.slice ao2 v.ptrs.length cap2).ownBlock = some b) Wp w6 ∧ Kept (fun b => b = W0.heap.size) w6 w7 ∧
      (Below W0.heap.size W0 w7 ∧ ∃ AN', MapAt Try.prog w7 9 W0.heap.size (mapV ViewG.val AN') ∧ LookOk W0.heap.size w7 g AN' (k + 1) ∧ w7.ownsRow 0 9 1 sv n names ∧ AN'.length ≤ 32) := by
  have hvrow := (hL.row _ _ hv).1
  have hvB := (hL.row _ _ hv).2
  rw [hrow] at hvrow hvB
  have hnl : v.ptrs.length ≤ 128 := by
    rw [hL.ptrs _ _ hv, List.length_map]
    have h1 := List.length_filter_le (fun p : Bytes × (Nat × LiesV) => p.2.2.node == g.PP[k].2.2.node) (g.PP.take k)
    have h2 : (g.PP.take k).length ≤ g.PP.length := by simp; omega
    omega
  have hkb := Kept.of_below (F := noBlock) hb
  have hMp := hMi.kept hkb id
  have hsz : W0.heap.size ≤ Wp.heap.size := Nat.le_trans hbi.size hb.size
  obtain ⟨ao', cap', w6, w7, e1, e2, r7, m7, k6, k7, fr⟩ := look_step (hkb.ownsRow hvrow fun _ _ => id) B g.PP[k].2.1 hcell hMp (by omega) (by rw [mapV_length]; omega) (bs g.PP[k].2.2.node) (by rw [bs_size]; exact hnd) (v.u0 + g.PP[k].2.2.n0) (v.u1 + g.PP[k].2.2.n1) (v.u2 + g.PP[k].2.2.n2)
  rw [ky_bs] at m7
  have hLp : LookOk W0.heap.size Wp g AN k := hL.kept hkb fun _ _ _ _ _ => id
  have hk67 : Kept (fun b => (Value.slice ao2 v.ptrs.length cap2).ownBlock = some b ∨ b = W0.heap.size) Wp w7 := (k6.mono fun i _ h => .inl h).trans k7 fun i _ h => .inr h
  have hstep := hLp.step hk hv (row' := .slice ao' (v.ptrs.length + 1) cap') hk67 (fun k' u hu hne b hbu hG => by
    rcases hG with hG | hG
    · exact hLp.apart _ _ _ _ hv hu (Ne.symm hne) b (by rw [hrow]; exact hG) hbu
    · exact row_not_map (hLp.row _ _ hu).1 hMp.isMap (by rw [← hG]; exact hbu)) r7 (by rw [hrow]; exact fr) hsz
  have hdis : AN.Pairwise fun p q => p.1 ≠ q.1 := (sortedL_mapV.1 (hMi.sorted strK)).distinct
  have hbp : Below W0.heap.size W0 Wp := below_trans hbi hb
  refine ⟨ao', cap', w6, w7, e1, e2, k6, k7, (hbp.trans (k6.below hsz fun i hi h => ?_)).trans (k7.below (Nat.le_trans hsz k6.size) fun i hi h => by omega), _, by rw [← putL_mapV]; exact m7, hstep, hk67.ownsRow (hkb.ownsRow hR fun _ _ => id) (fun b hbs hG => ?_), ?_⟩
  · have := hvB i h
    omega
  · obtain ⟨cur, hc⟩ := row_type (hkb.ownsRow hR fun _ _ => id) hbs
    rcases hG with hG | hG
    · exact row_not_cells (hkb.ownsRow hvrow fun _ _ => id) hc (by decide) hG
    · obtain ⟨es, ck, hmm⟩ := hMp.isMap
      rw [hG, hmm] at hc
      cases hc
  · rw [length_putL_some hdis _ (by rw [hv]; rfl)]
    exact hlen

end Go.Proofs.Ytchddaafibjmgaa
