/-
  Several Berths beside one another: what one call makes of them.
-/
import Derived.Test.YtchddaafibjmgaaQA22
namespace Go.Proofs.Ytchddaafibjmgaa
open Go.RowKit Go.Maps

def upd {ι α : Type} [DecidableEq ι] (f : ι → α) (i : ι) (v : α) : ι → α := fun j => if j = i then v else f j
theorem upd_self {ι α : Type} [DecidableEq ι] (f : ι → α) (i : ι) (v : α) : upd f i v i = v := by unfold upd; rw [if_pos rfl]
theorem upd_other {ι α : Type} [DecidableEq ι] (f : ι → α) {i j : ι} (v : α) (h : j ≠ i) : upd f i v j = f j := by unfold upd; rw [if_neg h]

/-- Berths that lie apart. -/
structure Herd {ι : Type} (w : World) (Y : ι → Nat) (F : ι → Nat → Prop) (A : ι → Abs) : Prop where
  st : ∀ i, BSt (F i) w (Y i) (A i)
  ap : ∀ i j, i ≠ j → ∀ b, F i b → ¬ F j b

theorem Herd.below {ι : Type} {w w' : World} {Y : ι → Nat} {F : ι → Nat → Prop} {A : ι → Abs} (H : Herd w Y F A) (hb : Below w.heap.size w w') : Herd w' Y F A := ⟨fun i => (H.st i).below hb, H.ap⟩

section
variable {ι : Type} [DecidableEq ι] {w w' : World} {Y : ι → Nat} {F : ι → Nat → Prop} {A : ι → Abs}

theorem Herd.step (H : Herd w Y F A) (i : ι) {a : Abs} {F' : Nat → Prop} (L : Left (F i) w (Y i) a F' w') : Herd w' Y (upd F i F') (upd A i a) := by
  refine ⟨fun j => ?_, fun j k hjk b hj hk => ?_⟩
  · by_cases h : j = i
    · subst h
      rw [upd_self, upd_self]
      exact L.st
    · rw [upd_other _ _ h, upd_other _ _ h]
      exact (H.st j).kept L.kept fun b hb hi => H.ap j i h b hb hi
  · by_cases h1 : j = i
    · subst h1
      rw [upd_self] at hj
      rw [upd_other _ _ (Ne.symm hjk)] at hk
      rcases L.less b hj with h | h
      · exact H.ap j k hjk b h hk
      · have := (H.st k).lt b hk
        omega
    · rw [upd_other _ _ h1] at hj
      by_cases h2 : k = i
      · subst h2
        rw [upd_self] at hk
        rcases L.less b hk with h | h
        · exact H.ap j k hjk b hj h
        · have := (H.st j).lt b hj
          omega
      · rw [upd_other _ _ h2] at hk
        exact H.ap j k hjk b hj hk

end

def repCells (r : Rep) (oo : Option Addr) (oc : Nat) : Array Value := #[.int .i64 r.err, .string (bs r.node), .int .i64 r.score, .slice oo r.reasons.length oc, .int .i64 r.fresh]

/-- A reply that is held against others: its box, its reasons; the Berths beside it. -/
structure Beside {ι : Type} (w wx : World) (Y : ι → Nat) (A : ι → Abs) (r : Rep) (oo : Option Addr) (oc xb : Nat) : Prop where
  herd : ∃ F, Herd wx Y F A ∧ (∀ i b, F i b → w.heap.size ≤ b) ∧ (∀ i, ¬ F i xb) ∧ ∀ i b, (Value.slice oo r.reasons.length oc).ownBlock = some b → ¬ F i b
  below : Below w.heap.size w wx
  box : wx.heap[xb]? = some (.cells (repCells r oo oc) 59 (0, 0))
  rsn : wx.ownsRow 0 103 2 (.slice oo r.reasons.length oc) r.reasons.length (r.reasons.flatMap rsnRow)

theorem Beside.onward {ι : Type} {w wx w' : World} {Y : ι → Nat} {A : ι → Abs} {r : Rep} {oo : Option Addr} {oc xb : Nat} (H : Beside w wx Y A r oo oc xb) (hb : Below wx.heap.size wx w') : Beside w w' Y A r oo oc xb := by
  obtain ⟨F, h1, h2, h3, h4⟩ := H.herd
  exact ⟨⟨F, h1.below hb, h2, h3, h4⟩, H.below.trans (hb.mono H.below.size), by rw [hb.block _ (lt_of_block H.box)]; exact H.box, (Kept.of_below (F := noBlock) hb).ownsRow H.rsn fun _ _ => id⟩

section
variable {ι : Type} [DecidableEq ι] {w wx w' : World} {Y : ι → Nat} {A : ι → Abs} {r : Rep} {oo : Option Addr} {oc xb : Nat}

theorem row_lt {w : World} {e : TypeId} {s : Nat} {v : Value} {n : Nat} {xs : List Value} (h : w.ownsRow 0 e s v n xs) {b : Nat} (hb : v.ownBlock = some b) : b < w.heap.size := by
  obtain ⟨c, hc⟩ := row_typeS h hb
  exact lt_of_block hc

/-- One of them does something. -/
theorem Beside.step {F : ι → Nat → Prop} (h1 : Herd wx Y F A) (h2 : ∀ i b, F i b → w.heap.size ≤ b) (h3 : ∀ i, ¬ F i xb) (h4 : ∀ i b, (Value.slice oo r.reasons.length oc).ownBlock = some b → ¬ F i b) (hbl : Below w.heap.size w wx) (box : wx.heap[xb]? = some (.cells (repCells r oo oc) 59 (0, 0)))
    (rsn : wx.ownsRow 0 103 2 (.slice oo r.reasons.length oc) r.reasons.length (r.reasons.flatMap rsnRow)) (i : ι) {a : Abs} {F' : Nat → Prop} (L : Left (F i) wx (Y i) a F' w') : Beside w w' Y (upd A i a) r oo oc xb := by
  have hz := hbl.size
  have hz' := L.kept.size
  have hx := lt_of_block box
  refine ⟨⟨upd F i F', h1.step i L, fun j b hb => ?_, fun j hb => ?_, fun j b hb hF => ?_⟩, hbl.trans (L.kept.below hz fun k hk h => by have := h2 i k h; omega), by rw [L.kept.block _ hx (h3 i)]; exact box, L.kept.ownsRow rsn (h4 i)⟩
  · by_cases e : j = i
    · subst e
      rw [upd_self] at hb
      rcases L.less b hb with h | h
      · exact h2 j b h
      · omega
    · rw [upd_other _ _ e] at hb
      exact h2 j b hb
  · by_cases e : j = i
    · subst e
      rw [upd_self] at hb
      rcases L.less _ hb with h | h
      · exact h3 j h
      · omega
    · rw [upd_other _ _ e] at hb
      exact h3 j hb
  · by_cases e : j = i
    · subst e
      rw [upd_self] at hF
      rcases L.less _ hF with h | h
      · exact h4 j b hb h
      · have := row_lt rsn hb
        omega
    · rw [upd_other _ _ e] at hF
      exact h4 j b hb hF

theorem Beside.start {F : ι → Nat → Prop} {w1 : World} (H : Herd wx Y F A) (hF : ∀ i b, F i b → w.heap.size ≤ b) (hbw : Below w.heap.size w wx) (i : ι) {a : Abs} {G : Nat → Prop} (L : Left (F i) wx (Y i) a G w1) (R : RepAt G wx w1 r oo oc) :
    Beside w (w1.alloc (.cells (repCells r oo oc) 59)) Y (upd A i a) r oo oc w1.heap.size := by
  have H1 := H.step i L
  have hz := hbw.size
  have hz1 := L.kept.size
  refine ⟨⟨upd F i G, H1.below (below_alloc _ _), fun j b hb => ?_, fun j hb => ?_, fun j b hb hj => ?_⟩, (hbw.trans (L.kept.below hz fun k hk h => by have := hF i k h; omega)).trans ((below_alloc _ _).mono (by omega)), block_alloc_new _ _, (Kept.of_below (F := noBlock) (below_alloc _ _)).ownsRow R.rsn fun _ _ => id⟩
  · by_cases e : j = i
    · subst e
      rw [upd_self] at hb
      rcases L.less b hb with h | h
      · exact hF j b h
      · omega
    · rw [upd_other _ _ e] at hb
      exact hF j b hb
  · have := (H1.st j).lt _ hb
    omega
  · by_cases e : j = i
    · subst e
      rw [upd_self] at hj
      exact (R.rnew b hb).2 hj
    · rw [upd_other _ _ e] at hj
      have := (H.st j).lt b hj
      have := (R.rnew b hb).1
      omega

end

theorem repC {W : World} {b : Nat} {r : Rep} {oo : Option Addr} {oc : Nat} (hB : W.heap[b]? = some (.cells (repCells r oo oc) 59 (0, 0))) : W.cell? ⟨b, 0, none⟩ = some (.int .i64 r.err) ∧ W.cell? ⟨b, 1, none⟩ = some (.string (bs r.node)) ∧ W.cell? ⟨b, 2, none⟩ = some (.int .i64 r.score) ∧ W.cell? ⟨b, 3, none⟩ = some (.slice oo r.reasons.length oc) ∧ W.cell? ⟨b, 4, none⟩ = some (.int .i64 r.fresh) ∧ ∀ o, W.frozen? ⟨b, o, none⟩ = false := by
  refine ⟨?_, ?_, ?_, ?_, ?_, fun o => frozen_of_block hB⟩ <;> (rw [cell_of_block hB]; rfl)

theorem stC {W : World} {b : Nat} {x0 x1 x2 x3 : Value} {t : TypeId} (hB : W.heap[b]? = some (.cells #[x0, x1, x2, x3] t (0, 0))) : W.cell? ⟨b, 0, none⟩ = some x0 ∧ W.cell? ⟨b, 1, none⟩ = some x1 ∧ W.cell? ⟨b, 2, none⟩ = some x2 ∧ W.cell? ⟨b, 3, none⟩ = some x3 := by
  refine ⟨?_, ?_, ?_, ?_⟩ <;> (rw [cell_of_block hB]; rfl)

theorem StAt.onward {w w1 w2 : World} {a : Abs} {a1 a2 : Option Addr} {c1 c2 : Nat} (H : StAt w w1 a a1 c1 a2 c2) (hb : Below w1.heap.size w1 w2) : StAt w w2 a a1 c1 a2 c2 :=
  ⟨(Kept.of_below (F := noBlock) hb).ownsRow H.us fun _ _ => id, (Kept.of_below (F := noBlock) hb).ownsRow H.ls fun _ _ => id, H.unew, H.lnew⟩

/-- Two states of the same are the same. -/
theorem sameState_st {a : Abs} {w w' W : World} {a1 a2 o1 o2 : Option Addr} {c1 c2 k1 k2 : Nat} (hf : a.N.length ≤ 1000) (hp : a.P.length ≤ 1000) (H : StAt w W a a1 c1 a2 c2) (H' : StAt w' W a o1 k1 o2 k2) :
    Calls Try.prog 26 #[stV a a1 c1 a2 c2, stV a o1 k1 o2 k2] W fun e w' => e = .returned (.bool true) ∧ Below W.heap.size W w' := sameState_any a W a1 o1 a2 o2 c1 k1 c2 k2 hf hp H.us H'.us H.ls H'.ls

/-- What becomes of a Berth by a script. -/
def runA (a : Abs) (S : List RawD) : Abs := S.foldl (fun a r => (r.happen a).2) a
theorem runA_succ (a : Abs) (S : List RawD) {k : Nat} (h : k < S.length) : runA a (S.take (k + 1)) = (S[k].happen (runA a (S.take k))).2 := by
  unfold runA
  rw [List.take_succ_eq_append_getElem h, List.foldl_append]
  rfl

/-- How many reasons a reply tells. -/
theorem foldl_reasons (N : List (Bytes × NodeV)) (P : List (Bytes × LiesV)) (v : PodV) : ∀ (l : List (Bytes × NodeV)) (st : Rep), (l.foldl (stepC N P v) st).reasons.length ≤ st.reasons.length + l.length
  | [], st => by simp
  | p :: r, st => by
    rw [List.foldl_cons]
    refine Nat.le_trans (foldl_reasons N P v r _) ?_
    rw [List.length_cons]
    unfold stepC
    split
    · simp; omega
    · split
      · show st.reasons.length + r.length ≤ _
        omega
      · omega

theorem chooseA_len (N : List (Bytes × NodeV)) (P : List (Bytes × LiesV)) (v : PodV) : (chooseA N P v).reasons.length ≤ N.length := by
  have h := foldl_reasons N P v N rep0
  unfold chooseA Rep.done
  split
  · simpa [rep0] using h
  · simp

theorem sched_len (a : Abs) (s : ByteArray) (v : PodV) (h : a.N.length ≤ 32) : (a.sched s v).1.reasons.length ≤ 1000 := by
  unfold Abs.sched
  split
  · simp
  · show (chooseA a.N a.P v).reasons.length ≤ 1000
    have := chooseA_len a.N a.P v
    omega

theorem happen_len (r : RawD) (a : Abs) (h : a.N.length ≤ 32) : (r.happen a).1.reasons.length ≤ 1000 := by
  unfold RawD.happen
  repeat' split
  all_goals first
    | (simp [repE]; done)
    | exact sched_len a _ _ h

end Go.Proofs.Ytchddaafibjmgaa
