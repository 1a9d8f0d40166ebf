/-
  What choose keeps while it asks the nodes, one behind the other.
  What choose holds from round to round: what is known, the best so far, the reasons.
-/
import Derived.Test.YtchddaafibjmgaaQA16
namespace Go.Proofs.Ytchddaafibjmgaa
open Go.RowKit Go.Maps

/-! ### the choice, worked out -/
structure Rep where
  err : Int
  node : Bytes
  score : Int
  reasons : List (Bytes × Int)
  fresh : Int

def rep0 : Rep := ⟨9, [], 0, [], 0⟩
def stepC (N : List (Bytes × NodeV)) (P : List (Bytes × LiesV)) (v : PodV) (st : Rep) (p : Bytes × NodeV) : Rep :=
  if (answerA N P p.1 p.2 v).1 ≠ 0 then { st with reasons := st.reasons ++ [(p.1, (answerA N P p.1 p.2 v).1)] } else if st.err ≠ 0 ∨ st.score < (answerA N P p.1 p.2 v).2 then { st with err := 0, node := p.1, score := (answerA N P p.1 p.2 v).2 } else st
def loopC (N : List (Bytes × NodeV)) (P : List (Bytes × LiesV)) (v : PodV) (k : Nat) : Rep := (N.take k).foldl (stepC N P v) rep0
def Rep.done (r : Rep) : Rep := if r.err ≠ 0 then r else { r with reasons := [] }
def chooseA (N : List (Bytes × NodeV)) (P : List (Bytes × LiesV)) (v : PodV) : Rep := (N.foldl (stepC N P v) rep0).done

theorem loopC_succ (N : List (Bytes × NodeV)) (P : List (Bytes × LiesV)) (v : PodV) {k : Nat} (h : k < N.length) : loopC N P v (k + 1) = stepC N P v (loopC N P v k) N[k] := by
  unfold loopC
  rw [List.take_succ_eq_append_getElem h, List.foldl_append]
  rfl

theorem loopC_end (N : List (Bytes × NodeV)) (P : List (Bytes × LiesV)) (v : PodV) : (loopC N P v N.length).done = chooseA N P v := by
  unfold loopC chooseA
  rw [List.take_length]

def rsnRow (p : Bytes × Int) : List Value := [.string (bs p.1), .int .i64 p.2]
theorem rsnRow_len (l : List (Bytes × Int)) : (l.flatMap rsnRow).length = l.length * 2 := by
  induction l with
  | nil => rfl
  | cons p r ih => rw [List.flatMap_cons, List.length_append, ih]; simp [rsnRow]; omega

theorem loopC_len (N : List (Bytes × NodeV)) (P : List (Bytes × LiesV)) (v : PodV) : ∀ k, (loopC N P v k).reasons.length ≤ k
  | 0 => by simp [loopC, rep0]
  | k + 1 => by
    by_cases h : k < N.length
    · rw [loopC_succ N P v h]
      have ih := loopC_len N P v k
      unfold stepC
      split
      · simp; omega
      · split
        · show (loopC N P v k).reasons.length ≤ k + 1
          omega
        · omega
    · have : loopC N P v (k + 1) = loopC N P v k := by
        unfold loopC
        rw [List.take_of_length_le (by omega), List.take_of_length_le (by omega)]
      rw [this]
      have ih := loopC_len N P v k
      omega

/-! ### in memory -/
def bestCells (st : Rep) : Array Value := #[.int .i64 st.err, .string (bs st.node), .int .i64 st.score, .slice none 0 0, .int .i64 0]
def repZero : Array Value := #[.int .i64 0, .string ⟨#[]⟩, .int .i64 0, .slice none 0 0, .int .i64 0]

/-- What stays as it is. -/
structure ChFix (F0 : Nat → Prop) (w0 : World) (F : Nat → Prop) (bk xb : Nat) : Prop where
  f0lt : ∀ b, F0 b → b < w0.heap.size
  more : ∀ b, F0 b → F b
  less : ∀ b, F b → F0 b ∨ w0.heap.size + 2 ≤ b
  flt : ∀ b, F b → b < xb
  bklt : bk < xb
  bk : F0 bk ∨ w0.heap.size + 2 ≤ bk
  xge : w0.heap.size + 2 ≤ xb

structure ChMem (F0 : Nat → Prop) (w0 : World) (g0 : Gh) (hd : Head) (Y : Nat) (p : PodD) (F : Nat → Prop) (bk xb : Nat) (nv : Value) (wr : World) : Prop where
  known : ∃ G l, KnownAt F wr Y hd G (kindV p.val) bk l ∧ G.NN = g0.NN ∧ G.PP = g0.PP ∧ G.FF = g0.FF ∧ G.WW = g0.WW ∧ Sound hd G ∧ Full G ∧ ∀ n a, getL l n = some a → ∃ nd, getL g0.NN n = some nd ∧ a = answerA g0.nodes g0.pods n nd.2 p.val
  ok : p.ok wr
  box : BoxAt wr w0.heap.size p
  res : wr.heap[w0.heap.size + 1]? = some (.cells repZero 59 (0, 0))
  names : wr.ownsRow 0 9 1 nv g0.NN.length (nameVals g0.NN)
  nnew : ∀ b, nv.ownBlock = some b → xb ≤ b
  kept : Kept F0 w0 wr
  xlt : xb < wr.heap.size

/-- A list of labels stays where only blocks without cells turn. -/
theorem Lst.ok.keptNo {w w' : World} {x : Lst} (h : x.ok w) {G : Nat → Prop} (hk : Kept G w w') (hG : ∀ b o, G b → w.cell? ⟨b, o, none⟩ = none) : x.ok w' := by
  refine ⟨h.1, h.2.1, fun k hk' => ?_, h.2.2.2⟩
  obtain ⟨b, off, e, h1, h2⟩ := h.2.2.1 k hk'
  have hl := World.block_lt_of_cell? w _ h1
  have hn : ¬ G b := fun hg => by rw [hG b _ hg] at h1; cases h1
  exact ⟨b, off, e, by rw [← h1]; exact hk.cell (p := ⟨b, off + k * 2, none⟩) hl hn, by rw [← h2]; exact hk.cell (p := ⟨b, off + k * 2 + 1, none⟩) hl hn⟩

theorem PodD.ok.keptNo {w w' : World} {p : PodD} (h : p.ok w) {G : Nat → Prop} (hk : Kept G w w') (hG : ∀ b o, G b → w.cell? ⟨b, o, none⟩ = none) : p.ok w' := ⟨h.1, fun x hx => (h.2 x hx).keptNo hk hG⟩

theorem cell_of_map {w : World} {b : Nat} (h : ∃ es c, w.heap[b]? = some (.map es c)) (o : Nat) : w.cell? ⟨b, o, none⟩ = none := by
  obtain ⟨es, c, h⟩ := h
  simp [World.cell?, h]

/-- Labels lie apart from what is there only later. -/
theorem PodD.ok.keptNew {w0 w w' : World} {p : PodD} (h : p.ok w) (h0 : p.ok w0) {G : Nat → Prop} (hk : Kept G w w') (hG : ∀ b, G b → w0.heap.size ≤ b) : p.ok w' := by
  refine ⟨h.1, fun x hx => ⟨(h.2 x hx).1, (h.2 x hx).2.1, fun k hk' => ?_, (h.2 x hx).2.2.2⟩⟩
  obtain ⟨b, off, e, h1, h2⟩ := (h.2 x hx).2.2.1 k hk'
  obtain ⟨b', off', e', h1', _⟩ := (h0.2 x hx).2.2.1 k hk'
  have eb : b' = b := by rw [e] at e'; simp only [Option.some.injEq, Addr.mk.injEq] at e'; exact e'.1.symm
  have hl := World.block_lt_of_cell? w0 _ h1'
  dsimp only at hl
  have hn : ¬ G b := fun hg => by have := hG b hg; omega
  have hl' := World.block_lt_of_cell? w _ h1
  exact ⟨b, off, e, by rw [← h1]; exact hk.cell (p := ⟨b, off + k * 2, none⟩) hl' hn, by rw [← h2]; exact hk.cell (p := ⟨b, off + k * 2 + 1, none⟩) hl' hn⟩

section
variable {F0 : Nat → Prop} {w0 : World} {g0 : Gh} {hd : Head} {Y : Nat} {p : PodD} {F : Nat → Prop} {bk xb : Nat} {nv : Value} {wr w' : World}

/-- Only what is new turns. -/
theorem ChMem.hi (C : ChMem F0 w0 g0 hd Y p F bk xb nv wr) (X : ChFix F0 w0 F bk xb) (h0 : p.ok w0) {G : Nat → Prop} (hk : Kept G wr w') (hG : ∀ b, G b → xb ≤ b) (hn : ∀ b, nv.ownBlock = some b → ¬ G b) : ChMem F0 w0 g0 hd Y p F bk xb nv w' := by
  obtain ⟨G', l, hK, hr⟩ := C.known
  have hx := X.xge
  have hc0 : ¬ G w0.heap.size := fun h => by have := hG _ h; omega
  have hc1 : ¬ G (w0.heap.size + 1) := fun h => by have := hG _ h; omega
  refine ⟨⟨G', l, ⟨hK.mem.kept hk (fun b hb h => ?_) (fun _ h => h) (fun b hb => Nat.lt_of_lt_of_le (hK.mem.lt b hb) hk.size), hK.map.kept hk (fun h => ?_), hK.lies⟩, hr⟩, C.ok.keptNew h0 hk (fun b h => by have := hG b h; omega), ?_, ?_, hk.ownsRow C.names hn, C.nnew, C.kept.trans hk (fun i hi h => ?_), Nat.lt_of_lt_of_le C.xlt hk.size⟩
  · have := hG b h
    have := X.flt b hb
    omega
  · have := hG _ h
    have := X.bklt
    omega
  · unfold BoxAt
    rw [hk.block _ (lt_of_block C.box) hc0]
    exact C.box
  · rw [hk.block _ (lt_of_block C.res) hc1]
    exact C.res
  · have := hG i h
    omega

theorem ChMem.below (C : ChMem F0 w0 g0 hd Y p F bk xb nv wr) (X : ChFix F0 w0 F bk xb) (h0 : p.ok w0) (hb : Below wr.heap.size wr w') : ChMem F0 w0 g0 hd Y p F bk xb nv w' :=
  C.hi X h0 (Kept.of_below (F := noBlock) hb) (fun _ h => h.elim) (fun _ _ => id)

/-- An answer is noted. -/
theorem ChMem.note (C : ChMem F0 w0 g0 hd Y p F bk xb nv wr) (X : ChFix F0 w0 F bk xb) (hf : p.val.Fine) {nm : Bytes} (hnm : nm.length ≤ maxLen) {nd : Value × NodeV} (hnd : getL g0.NN nm = some nd) :
    ∃ w', (Instr.mapUpdate 140 (.map (some bk)) (.string (bs nm)) (ansV (answerA g0.nodes g0.pods nm nd.2 p.val))).run Try.prog wr = .ok () w' ∧ ChMem F0 w0 g0 hd Y p F bk xb nv w' ∧ Kept (fun b => b = bk) wr w' := by
  obtain ⟨G, l, hK, e1, e2, e3, e4, hS, hFu, hr⟩ := C.known
  have keyNm : keyOf Try.prog 9 (.string (bs nm)) = some (.string nm) := by rw [keyS _ (by rw [bs_size]; exact hnm), ky_bs]
  have hld : l.Pairwise fun p q => p.1 ≠ q.1 := (sortedL_mapV.1 (hK.map.sorted strK)).distinct
  have hll : l.length ≤ 32 := by
    refine Nat.le_trans (length_le_keys l hld G.NN hK.mem.ord.n.distinct fun q hq => ?_) hS.b.nn
    obtain ⟨nd', h1, _⟩ := hr q.1 q.2 (getL_of_mem hld hq)
    rw [e1, h1]
    rfl
  obtain ⟨w', hrun, hK', hk⟩ := hK.note keyNm (by unfold maxLen; omega) (answerA g0.nodes g0.pods nm nd.2 p.val)
  have n1 : G.nodes = g0.nodes := by unfold Gh.nodes; rw [e1]
  have n2 : G.pods = g0.pods := by unfold Gh.pods; rw [e2]
  obtain ⟨q1, q2, q3, q4, _⟩ := noted_parts (g := G) (kv := kindV p.val) (l := putL l nm (answerA g0.nodes g0.pods nm nd.2 p.val)) hd.rem
  have q5 : (G.noted hd.rem (kindV p.val) (putL l nm (answerA g0.nodes g0.pods nm nd.2 p.val))).WW = G.WW := by cases hd.rem <;> rfl
  have hS' : Sound hd (G.noted hd.rem (kindV p.val) (putL l nm (answerA g0.nodes g0.pods nm nd.2 p.val))) := by
    refine hS.noted hf (fun hrem => ?_) (fun nd' hnd' => ?_) ?_
    · rcases hK.lies with ⟨_, h⟩ | ⟨h, _⟩
      · exact ⟨bk, h⟩
      · rw [hrem] at h; cases h
    · rw [e1, hnd] at hnd'
      rw [n1, n2, Option.some.inj hnd']
    · rw [e1, hnd]; rfl
  have hFu' : Full (G.noted hd.rem (kindV p.val) (putL l nm (answerA g0.nodes g0.pods nm nd.2 p.val))) := by
    intro q hq
    rw [q1] at hq
    obtain ⟨v, h1, h2⟩ := hFu q hq
    refine ⟨v, by rw [q3]; exact h1, ?_⟩
    cases hd.rem <;> exact ⟨h2.ptrs, h2.used⟩
  have hmap : ∃ es c, wr.heap[bk]? = some (.map es c) := hK.map.isMap
  have hx := X.bklt
  have hne0 : w0.heap.size ≠ bk := fun e => by rcases X.bk with h | h; (have := X.f0lt _ h; omega); omega
  have hne1 : w0.heap.size + 1 ≠ bk := fun e => by rcases X.bk with h | h; (have := X.f0lt _ h; omega); omega
  refine ⟨w', hrun, ⟨⟨_, _, hK', by rw [q1, e1], by rw [q2, e2], by rw [q4, e3], by rw [q5, e4], hS', hFu', fun n a hn => ?_⟩, C.ok.keptNo hk (fun b o h => by subst h; exact cell_of_map hmap o), ?_, ?_, hk.ownsRow C.names (fun b hb e => by have := C.nnew b hb; omega), C.nnew, C.kept.trans hk (fun i hi e => ?_), Nat.lt_of_lt_of_le C.xlt hk.size⟩, hk⟩
  · by_cases e : n = nm
    · subst e
      rw [getL_putL_same] at hn
      exact ⟨nd, hnd, (Option.some.inj hn).symm⟩
    · rw [getL_putL_other _ _ e] at hn
      exact hr n a hn
  · unfold BoxAt
    rw [hk.block _ (lt_of_block C.box) hne0]
    exact C.box
  · rw [hk.block _ (lt_of_block C.res) hne1]
    exact C.res
  · subst e
    rcases X.bk with h | h
    · exact h
    · omega

end

end Go.Proofs.Ytchddaafibjmgaa

namespace Go.Proofs.Ytchddaafibjmgaa
open Go.RowKit Go.Maps

/-- The names of the nodes, by rising names, in new memory. -/
theorem sortedN_fresh {w : World} {b : Nat} {L : List (Bytes × Value)} (hown : MapAt Try.prog w 9 b L) (hl : L.length ≤ 100000) :
    Calls Try.prog 65 #[.func (.func 76) #[] #[.pointer (some ⟨w.heap.size, 0, none⟩)]] (w.alloc (.cells #[.map (some b)] 104)) fun e w' => ∃ ao cap, e = .returned (.slice ao L.length cap) ∧ w'.ownsRow 0 9 1 (.slice ao L.length cap) L.length (nameVals L) ∧ (∀ k, (Value.slice ao L.length cap).ownBlock = some k → w.heap.size ≤ k) ∧ Below w.heap.size w w' := by
  refine (callsIn_wide.1 (Try.slices_Sorted_keys_65_66 b L.length (datOf L) rawElem w hown (by rw [size_datOf]; unfold maxLen; omega) (by rw [size_datOf]; omega))).mono ?_
  rintro e w' ⟨v, ss, rfl, hp, hrow, _, hb⟩
  have hlt := fun k hk => (hrow.lt k hk).1
  rw [strKeys_datOf] at hp
  obtain ⟨ao, cap, rfl, hr⟩ := sorted_tail (hown.sorted strK) hp hrow
  exact ⟨ao, cap, rfl, hr, fun k hk => by have := hlt k hk; simp at this; omega, below_trans (below_alloc _ _) hb⟩

structure ChLoop (F0 : Nat → Prop) (w0 : World) (g0 : Gh) (hd : Head) (Y : Nat) (p : PodD) (F : Nat → Prop) (bk xb : Nat) (nv : Value) (st : Rep) (oo : Option Addr) (oc : Nat) (wr : World) : Prop where
  mem : ChMem F0 w0 g0 hd Y p F bk xb nv wr
  best : wr.heap[xb]? = some (.cells (bestCells st) 59 (0, 0))
  rsn : wr.ownsRow 0 103 2 (.slice oo st.reasons.length oc) st.reasons.length (st.reasons.flatMap rsnRow)
  rnew : ∀ b, (Value.slice oo st.reasons.length oc).ownBlock = some b → xb < b

section
variable {F0 : Nat → Prop} {w0 : World} {g0 : Gh} {hd : Head} {Y : Nat} {p : PodD} {F : Nat → Prop} {bk xb : Nat} {nv : Value} {st : Rep} {oo : Option Addr} {oc : Nat} {wr w' : World}

theorem ChLoop.hi (C : ChLoop F0 w0 g0 hd Y p F bk xb nv st oo oc wr) (X : ChFix F0 w0 F bk xb) (h0 : p.ok w0) {G : Nat → Prop} (hk : Kept G wr w') (hG : ∀ b, G b → xb < b) (hn : ∀ b, nv.ownBlock = some b → ¬ G b) (hr : ∀ b, (Value.slice oo st.reasons.length oc).ownBlock = some b → ¬ G b) : ChLoop F0 w0 g0 hd Y p F bk xb nv st oo oc w' :=
  ⟨C.mem.hi X h0 hk (fun b h => Nat.le_of_lt (hG b h)) hn, by rw [hk.block _ C.mem.xlt fun h => by have := hG _ h; omega]; exact C.best, hk.ownsRow C.rsn hr, C.rnew⟩

theorem ChLoop.below (C : ChLoop F0 w0 g0 hd Y p F bk xb nv st oo oc wr) (X : ChFix F0 w0 F bk xb) (h0 : p.ok w0) (hb : Below wr.heap.size wr w') : ChLoop F0 w0 g0 hd Y p F bk xb nv st oo oc w' :=
  C.hi X h0 (Kept.of_below (F := noBlock) hb) (fun _ h => h.elim) (fun _ _ => id) (fun _ _ => id)

/-- The answer's own block. -/
theorem ChLoop.ansBlock (C : ChLoop F0 w0 g0 hd Y p F bk xb nv st oo oc wr) (X : ChFix F0 w0 F bk xb) (h0 : p.ok w0) {ab : Nat} {c : Array Value} (hab : wr.heap[ab]? = some (.cells c 143 (0, 0))) (hx : xb < ab) (hk : Kept (fun b => b = ab) wr w') : ChLoop F0 w0 g0 hd Y p F bk xb nv st oo oc w' := by
  refine C.hi X h0 hk (fun b h => by omega) (fun b hb e => ?_) (fun b hb e => ?_)
  · subst e
    obtain ⟨c', h⟩ := row_typeS C.mem.names hb
    rw [hab] at h
    simp at h
  · subst e
    obtain ⟨c', h⟩ := row_typeS C.rsn hb
    rw [hab] at h
    simp at h

theorem ChLoop.note (C : ChLoop F0 w0 g0 hd Y p F bk xb nv st oo oc wr) (X : ChFix F0 w0 F bk xb) (hf : p.val.Fine) {nm : Bytes} (hnm : nm.length ≤ maxLen) {nd : Value × NodeV} (hnd : getL g0.NN nm = some nd) :
    ∃ w', (Instr.mapUpdate 140 (.map (some bk)) (.string (bs nm)) (.agg #[.int .i64 (answerA g0.nodes g0.pods nm nd.2 p.val).1, .int .i64 (answerA g0.nodes g0.pods nm nd.2 p.val).2])).run Try.prog wr = .ok () w' ∧ ChLoop F0 w0 g0 hd Y p F bk xb nv st oo oc w' ∧ Kept (fun b => b = bk) wr w' := by
  obtain ⟨w', hr, C', hk⟩ := C.mem.note X hf hnm hnd
  have hx := X.bklt
  exact ⟨w', hr, ⟨C', by rw [hk.block _ C.mem.xlt (by omega)]; exact C.best, hk.ownsRow C.rsn fun b hb e => by have := C.rnew b hb; omega, C.rnew⟩, hk⟩

/-- Another is the best. -/
theorem ChLoop.better (C : ChLoop F0 w0 g0 hd Y p F bk xb nv st oo oc wr) (X : ChFix F0 w0 F bk xb) (h0 : p.ok w0) (nm : Bytes) (sc : Int) :
    ChLoop F0 w0 g0 hd Y p F bk xb nv { st with err := 0, node := nm, score := sc } oo oc (((((wr.setCell ⟨xb, 0, none⟩ (.int .i64 0)).setCell ⟨xb, 1, none⟩ (.string (bs nm))).setCell ⟨xb, 2, none⟩ (.int .i64 sc)).setCell ⟨xb, 3, none⟩ (.slice none 0 0)).setCell ⟨xb, 4, none⟩ (.int .i64 0)) := by
  have hk : Kept (fun b => b = xb) wr (((((wr.setCell ⟨xb, 0, none⟩ (.int .i64 0)).setCell ⟨xb, 1, none⟩ (.string (bs nm))).setCell ⟨xb, 2, none⟩ (.int .i64 sc)).setCell ⟨xb, 3, none⟩ (.slice none 0 0)).setCell ⟨xb, 4, none⟩ (.int .i64 0)) :=
    (((((Kept.refl (fun b => b = xb) wr).setCell (p := ⟨xb, 0, none⟩) (fun _ => rfl) _).setCell (p := ⟨xb, 1, none⟩) (fun _ => rfl) _).setCell (p := ⟨xb, 2, none⟩) (fun _ => rfl) _).setCell (p := ⟨xb, 3, none⟩) (fun _ => rfl) _).setCell (p := ⟨xb, 4, none⟩) (fun _ => rfl) _
  refine ⟨C.mem.hi X h0 hk (fun b h => by omega) (fun b hb e => ?_), ?_, hk.ownsRow C.rsn fun b hb e => by have := C.rnew b hb; omega, C.rnew⟩
  · subst e
    obtain ⟨c', h⟩ := row_typeS C.mem.names hb
    rw [C.best] at h
    simp at h
  · have b1 := block_setCell C.best (i := 0) (v := .int .i64 0)
    have b2 := block_setCell b1 (i := 1) (v := .string (bs nm))
    have b3 := block_setCell b2 (i := 2) (v := .int .i64 sc)
    have b4 := block_setCell b3 (i := 3) (v := .slice none 0 0)
    have b5 := block_setCell b4 (i := 4) (v := .int .i64 0)
    rw [b5]
    rfl

/-- A reason more. -/
theorem ChLoop.reason (C : ChLoop F0 w0 g0 hd Y p F bk xb nv st oo oc wr) (X : ChFix F0 w0 F bk xb) (h0 : p.ok w0) {w1 : World} (hb : Below wr.heap.size wr w1) {nm : Bytes} {why : Int} {ao : Option Addr} {cap : Nat} (hr : w'.ownsRow 0 103 2 (.slice ao (st.reasons.length + 1) cap) (st.reasons.length + 1) (st.reasons.flatMap rsnRow ++ [.string (bs nm), .int .i64 why]))
    (hg : w1.grownBy w' (Value.slice oo st.reasons.length oc).ownBlock) (hf : (Value.slice ao (st.reasons.length + 1) cap).ownBlock = (Value.slice oo st.reasons.length oc).ownBlock ∨ ∀ k, (Value.slice ao (st.reasons.length + 1) cap).ownBlock = some k → w1.heap.size ≤ k) :
    ChLoop F0 w0 g0 hd Y p F bk xb nv { st with reasons := st.reasons ++ [(nm, why)] } ao cap w' := by
  have C1 := C.below X h0 hb
  have hk : Kept (fun b => (Value.slice oo st.reasons.length oc).ownBlock = some b) w1 w' := (Kept.refl _ _).grown hg fun k hk _ => hk
  have hl : (st.reasons ++ [(nm, why)]).length = st.reasons.length + 1 := by simp
  refine ⟨C1.mem.hi X h0 hk (fun b h => Nat.le_of_lt (C.rnew b h)) (fun b hb' e => rows_apart C1.mem.names C1.rsn (by decide) hb' e), ?_, ?_, fun b hb' => ?_⟩
  · rw [hk.block _ C1.mem.xlt fun h => by have := C.rnew _ h; omega]
    exact C1.best
  · show w'.ownsRow 0 _ 2 (.slice ao (st.reasons ++ [(nm, why)]).length cap) (st.reasons ++ [(nm, why)]).length ((st.reasons ++ [(nm, why)]).flatMap rsnRow)
    rw [hl, List.flatMap_append]
    simpa [rsnRow] using hr
  · have hb' : (Value.slice ao (st.reasons ++ [(nm, why)]).length cap).ownBlock = some b := hb'
    rw [hl] at hb'
    rcases hf with h | h
    · exact C.rnew b (by rw [← h]; exact hb')
    · have := h b hb'
      have := hb.size
      have := C.mem.xlt
      omega

/-- How it begins. -/
theorem ChLoop.start (H : BMem F0 w0 Y hd g0) (hg : p.Good) {wL w1 w2 : World} (zL : wL.heap.size = w0.heap.size + 2) {VV : List (Bytes × ViewG)} (H1 : BMem (grow F0 wL w1) w1 Y hd { g0 with VV := VV }) (Fu : Full { g0 with VV := VV }) (S1 : Sound hd { g0 with VV := VV })
    (ok1 : p.ok w1) (box1 : BoxAt w1 w0.heap.size p) (res1 : w1.heap[w0.heap.size + 1]? = some (.cells repZero 59 (0, 0))) (K1 : Kept F0 w0 w1) (z1 : wL.heap.size ≤ w1.heap.size) {l : List (Bytes × (Int × Int))} {AA : List (Bytes × (Nat × List (Bytes × (Int × Int))))} (T : KnownTo (grow F0 wL w1) w1 w2 Y hd { g0 with VV := VV } (kindV p.val) bk l F AA) :
    ChFix F0 w0 F bk w2.heap.size ∧ ∀ w5 nv oo oc, Below (w2.heap.size + 1) (w2.alloc (.cells (bestCells rep0) 59)) w5 → w5.ownsRow 0 9 1 nv g0.NN.length (nameVals g0.NN) → (∀ b, nv.ownBlock = some b → w2.heap.size ≤ b) → w5.ownsRow 0 103 2 (.slice oo 0 oc) 0 [] → (∀ b, (Value.slice oo 0 oc).ownBlock = some b → w2.heap.size < b) →
      ChLoop F0 w0 g0 hd Y p F bk w2.heap.size nv (loopC g0.nodes g0.pods p.val 0) oo oc w5 := by
  have hba0 : F0 g0.ba := H.fm _ (by simp [Gh.maps])
  have hba := H.lt _ hba0
  have hmb : ∃ es c, w1.heap[g0.ba]? = some (.map es c) := H1.isMap (b := g0.ba) (by simp [Gh.maps])
  obtain ⟨es, c, hmk⟩ := T.at_.map.isMap
  have hz12 := T.kept.size
  have X : ChFix F0 w0 F bk w2.heap.size := by
    refine ⟨H.lt, fun b hb => T.more b (.inl hb), fun b hb => ?_, T.at_.mem.lt, lt_of_block hmk, ?_, by omega⟩
    · rcases T.less b hb with (h | h) | h
      · exact .inl h
      · exact .inr (by omega)
      · exact .inr (by omega)
    · rcases T.new with h | ⟨x, hx, rfl⟩
      · exact .inr (by omega)
      · exact .inl (H.fm _ (List.mem_append_right _ (List.mem_map.2 ⟨_, getL_mem hx, rfl⟩)))
  refine ⟨X, fun w5 nv oo oc hb5 hnm hnn hrs hrn => ?_⟩
  have hz5 := hb5.size
  simp only [World.size_alloc] at hz5
  have hb25 : Below w2.heap.size w2 w5 := (below_alloc w2 _).trans (hb5.mono (by omega))
  have ok2 : p.ok w2 := ok1.keptNo T.kept (fun b o h => by subst h; exact cell_of_map hmb o)
  have e0 : ¬ w0.heap.size = g0.ba := by omega
  have e1 : ¬ w0.heap.size + 1 = g0.ba := by omega
  have i0 := lt_of_block box1
  have i1 := lt_of_block res1
  refine ⟨⟨⟨{ g0 with VV := VV, AA := AA }, l, T.at_.below hb25, rfl, rfl, rfl, rfl, S1.known T.rest, ?_, fun n a hn => ?_⟩, ok2.below hb25, ?_, ?_, hnm, hnn, ?_, by omega⟩, ?_, hrs, hrn⟩
  · intro q hq
    obtain ⟨v, h1, h2⟩ := Fu q hq
    exact ⟨v, h1, h2.ptrs, h2.used⟩
  · rcases T.from_ with rfl | ⟨x, hx, rfl⟩
    · cases hn
    · have hs := S1.l.ak _ x hx n a hn
      cases e : getL g0.NN n with
      | none =>
        have hs' : (getL g0.NN n).isSome = true := hs
        rw [e] at hs'
        cases hs'
      | some nd => exact ⟨nd, rfl, S1.l.ans _ x hx n a hn p.val hg.fine rfl nd e⟩
  · show w5.heap[_]? = _
    rw [hb25.block _ (by omega), T.kept.block _ i0 e0]
    exact box1
  · rw [hb25.block _ (by omega), T.kept.block _ i1 e1]
    exact res1
  · exact (K1.trans T.kept fun i _ e => by rw [e]; exact hba0).trans (Kept.of_below (F := noBlock) hb25) fun _ _ h => h.elim
  · rw [hb5.block _ (by omega)]
    exact block_alloc_new _ _

end

end Go.Proofs.Ytchddaafibjmgaa
