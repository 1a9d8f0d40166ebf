/-
  The program's lies, walked: the pods that are there, by rising names.
  The program's usesByNode, walked: what the pods use, summed up in whatever order.
  The program's usesByNode, walked.
  The program's uses, walked: the nodes that are there, by rising names, with what is used of each.
-/
import Derived.Test.YtchddaafibjmgaaQPLook0
namespace Go.Proofs.Ytchddaafibjmgaa
open Go.RowKit Go.Maps

theorem Try.infoLI : (Try.prog.info? 80).map (fun i => (i.zero, i.size, i.bytes)) = some (some (.agg #[.string ⟨#[]⟩, .string ⟨#[]⟩, .bool false, .int .i64 0]), 4, 48) := by kernel_rfl

/-- A pod that is there, as State tells it. -/
def liesRow (p : Bytes × (Nat × LiesV)) : List Value := [.string (bs p.1), .string (bs p.2.2.node), .bool p.2.2.bound, .int .i64 p.2.2.since]
theorem liesRow_length (p : Bytes × (Nat × LiesV)) : (liesRow p).length = 4 := rfl

theorem row_typeS {w : World} {e : TypeId} {s : Nat} {v : Value} {n : Nat} {xs : List Value} (h : w.ownsRow 0 e s v n xs) {b : Nat} (hb : v.ownBlock = some b) : ∃ cur, w.heap[b]? = some (.cells cur e (0, 0)) := by
  rcases h.2 with ⟨hnil, _⟩ | ⟨g, cap, cur, hv, _, hg, _⟩
  · rw [hnil] at hb; simp [Value.ownBlock] at hb
  · rw [hv] at hb
    simp [Value.ownBlock] at hb
    subst hb
    exact ⟨cur, hg⟩

theorem rows_apart {w : World} {e e' : TypeId} {s s' : Nat} {v v' : Value} {n n' : Nat} {xs xs' : List Value} (h : w.ownsRow 0 e s v n xs) (h' : w.ownsRow 0 e' s' v' n' xs') (hne : e ≠ e') {b : Nat} (hb : v.ownBlock = some b) : v'.ownBlock ≠ some b := fun hb' => by
  obtain ⟨c, hc⟩ := row_typeS h hb
  obtain ⟨c', hc'⟩ := row_typeS h' hb'
  rw [hc] at hc'
  simp only [Option.some.injEq, Obj.cells.injEq] at hc'
  exact hne hc'.2.1

set_option maxRecDepth 100000 in
set_option maxHeartbeats 4000000 in
theorem lies_any {F : Nat → Prop} {w : World} {Y : Nat} {hd : Head} {g : Gh} (H : BMem F w Y hd g) (hP : g.PP.length ≤ 128) (hpk : ∀ p ∈ g.PP, p.1.length ≤ maxLen) :
    Calls Try.prog 49 #[.pointer (some ⟨Y, 0, none⟩)] w fun e w' => ∃ ao cap, e = .returned (.slice ao g.PP.length cap) ∧ w'.ownsRow 0 80 4 (.slice ao g.PP.length cap) g.PP.length (g.PP.flatMap liesRow) ∧ (∀ b, (Value.slice ao g.PP.length cap).ownBlock = some b → w.heap.size ≤ b) ∧ Below w.heap.size w w' := by
  obtain ⟨i0, hi, hz0, hz1, hz2⟩ := info_parts Try.infoLI
  have hx5 := H.cP
  have hY := H.lt Y H.fy
  have hlen : ∀ W, Below w.heap.size w W → ∀ ty, (Builtin.len_ #[105] ty #[.map (some g.bp)]).run Try.prog W = .ok (.int .i64 g.PP.length) W := fun W hb ty => by
    have := (H.below hb).pd.len Try.underlying105 ty
    rwa [mapV_length] at this
  have hlen0 := hlen w (Below.refl _ _)
  have HH : Hid (BMem F w Y hd g) := H
  clear H hlen
  go_enter Try.func49, Try.ntmps49
  go_wp2_with (first
    | (at_make; refine wpList_make_own _ rfl _ _ 65 rfl 0 80 i0 _ 4 Try.underlying65 hi hz0 hz1 _ _ _ g.PP.length rfl rfl rfl (by rw [hz2]; omega) (by unfold maxLen; omega) (Nat.zero_le _) ?_; intro w2 hr2 hg2; have hb2 : Below w.heap.size w w2 := ⟨hg2.os, hg2.tape, hg2.output, hg2.size, fun i hi => hg2.block i hi (by simp)⟩; have H2 := HH.out.below hb2; have hx2 := H2.cP; have ck := keysP_any g.bp w2; have cs := sortedP_any H2.pd (by rw [mapV_length]; omega); rw [mapV_length, nameVals_mapV] at cs)
    | (go_at_call 67; refine ck.mono ?_; rintro e w4 ⟨rfl, rfl⟩)
    | (go_at_call 65; refine cs.mono ?_; rintro e w4 ⟨ao, cap, rfl, hrow, hb4⟩))
  have hb04 := below_trans hb2 hb4
  have HR4 : Hid (w4.ownsRow 0 80 4 (.slice (some ⟨w.heap.size, 0, none⟩) 0 g.PP.length) 0 []) := (Kept.of_below (F := noBlock) hb4).ownsRow hr2 fun _ _ => id
  have HS4 : Hid (w4.ownsRow 0 9 1 (.slice ao g.PP.length cap) g.PP.length (nameVals g.PP)) := hrow
  clear hr2 hg2 hb2 H2 hx2 ck cs hb4 hrow hx5 hlen0
  go_loopw [3, 20] (fun o i wr => ∃ (k : Nat) (oo : Option Addr) (oc : Nat), k ≤ g.PP.length ∧ i = .int .i64 k ∧ o = .slice oo k oc ∧ wr.ownsRow 0 80 4 (.slice oo k oc) k ((g.PP.take k).flatMap liesRow) ∧ (∀ b, (Value.slice oo k oc).ownBlock = some b → w.heap.size ≤ b) ∧ Below w.heap.size w wr ∧ wr.ownsRow 0 9 1 (.slice ao g.PP.length cap) g.PP.length (nameVals g.PP)) (fun _ i _ => g.PP.length - (intOf i).toNat)
  case atStart => exact ⟨0, _, _, Nat.zero_le _, rfl, rfl, HR4.out, fun b hb => by simp [Value.ownBlock] at hb; omega, hb04, HS4.out⟩
  case round =>
    clear HR4 HS4 hb04
    obtain ⟨k, oo, oc, hk, rfl, rfl, hRo, hRf, hbw, hSr⟩ := hrel
    have HRo : Hid (wr.ownsRow 0 80 4 (.slice oo k oc) k ((g.PP.take k).flatMap liesRow)) := hRo
    have HRf : Hid (∀ b, (Value.slice oo k oc).ownBlock = some b → w.heap.size ≤ b) := hRf
    have HSr : Hid (wr.ownsRow 0 9 1 (.slice ao g.PP.length cap) g.PP.length (nameVals g.PP)) := hSr
    clear hRo hRf hSr
    by_cases hlt : k < g.PP.length
    · have hpkk := hpk g.PP[k] (List.getElem_mem hlt)
      have Hi := HH.out.below hbw
      obtain ⟨gb, rfl, hg, hcl⟩ := own_at HSr.out (by omega)
      have hcell : wr.cell? ⟨gb, k, none⟩ = some (.string (bs g.PP[k].1)) := by
        rw [hcl k hlt]
        simp [nameVals, hlt]
      have hP : getL g.PP g.PP[k].1 = some g.PP[k].2 := getL_of_mem Hi.sortP.distinct (show (g.PP[k].1, g.PP[k].2) ∈ g.PP from List.getElem_mem hlt)
      obtain ⟨hp1, hp2⟩ := Hi.getP hP
      have Hrows : Hid ((g.PP.take (k + 1)).flatMap liesRow = (g.PP.take k).flatMap liesRow ++ liesRow g.PP[k]) := by
        show _ = _
        rw [List.take_succ_eq_append_getElem hlt, List.flatMap_append]
        simp
      obtain ⟨E, hE⟩ : ∃ E, g.PP[k] = E := ⟨_, rfl⟩
      have HE : Hid (g.PP[k] = E) := hE
      rw [hE] at hpkk hcell hp1 hp2 hP
      clear hE
      obtain ⟨nm, q, x⟩ := E
      dsimp only at hpkk hcell hp1 hp2 hP
      obtain ⟨-, -, -, -, pc6, pc7, pc8, -⟩ := hp2.cells
      have keyNm : keyOf Try.prog 9 (.string (bs nm)) = some (.string nm) := by rw [keyS _ (by rw [bs_size]; exact hpkk), ky_bs]
      have mpd := Hi.pd
      have hx5 := Hi.cP
      obtain ⟨cq, hqb⟩ : ∃ c, wr.heap[q]? = some (.cells c 120 (0, 0)) := by
        obtain ⟨_, _, h, _⟩ := hp2
        exact ⟨_, h⟩
      have zq := lt_of_block hqb
      have e1 : ∀ bd : Bool, ∃ ao' cap' w6, (Builtin.append_ #[65, 65] 65 #[.slice oo k oc, .slice (some ⟨wr.heap.size, 0, none⟩) 1 1]).run Try.prog (wr.alloc (.cells #[.string (bs nm), .string (bs x.node), .bool bd, .int .i64 x.since] 80)).drew = .ok (.slice ao' (k + 1) cap') w6 ∧
          w6.ownsRow 0 80 4 (.slice ao' (k + 1) cap') (k + 1) ((g.PP.take k).flatMap liesRow ++ [.string (bs nm), .string (bs x.node), .bool bd, .int .i64 x.since]) ∧ Kept (fun b => (Value.slice oo k oc).ownBlock = some b) (wr.alloc (.cells #[.string (bs nm), .string (bs x.node), .bool bd, .int .i64 x.since] 80)).drew w6 ∧
          ((Value.slice ao' (k + 1) cap').ownBlock = (Value.slice oo k oc).ownBlock ∨ ∀ b, (Value.slice ao' (k + 1) cap').ownBlock = some b → (wr.alloc (.cells #[.string (bs nm), .string (bs x.node), .bool bd, .int .i64 x.since] 80)).drew.heap.size ≤ b) := fun bd => by
        have hblk : (wr.alloc (.cells #[.string (bs nm), .string (bs x.node), .bool bd, .int .i64 x.since] 80)).drew.heap[wr.heap.size]? = some (.cells #[.string (bs nm), .string (bs x.node), .bool bd, .int .i64 x.since] 80 (0, 0)) := block_alloc_new _ _
        obtain ⟨v', w6, hr, r1, r2, r3⟩ := run_append_row (P := Try.prog) (wr.alloc (.cells #[.string (bs nm), .string (bs x.node), .bool bd, .int .i64 x.since] 80)).drew 65 65 80 i0 _ 4 48 Try.underlying65 hi hz0 hz1 hz2 rfl (by decide) _ k _ ((Kept.of_below (F := noBlock) (below_alloc wr _)).drew.ownsRow HRo.out fun _ _ => id) ⟨wr.heap.size, 0, none⟩ 1 1 [.string (bs nm), .string (bs x.node), .bool bd, .int .i64 x.since] rfl (fun j u hu => by
          have ha : (⟨wr.heap.size, 0, none⟩ : Addr).add j = ⟨wr.heap.size, j, none⟩ := by
            unfold Addr.add
            split
            · rename_i h; rw [h]
            · simp
          rw [ha, cell_of_block hblk, ← hu]
          simp) (by intro u hu; simp at hu; rcases hu with rfl | rfl | rfl | rfl <;> rfl) (by unfold maxLen; omega) (by omega)
        obtain ⟨ao', cap', rfl⟩ := slice_of_own r1
        exact ⟨ao', cap', w6, hr, r1, (Kept.refl _ _).grown r2 fun k hk _ => hk, r3⟩
      have hB6 : ∀ {bd : Bool} (w6 : World), Kept (fun b => (Value.slice oo k oc).ownBlock = some b) (wr.alloc (.cells #[.string (bs nm), .string (bs x.node), .bool bd, .int .i64 x.since] 80)).drew w6 → Below w.heap.size w w6 := fun {bd} w6 hk6 =>
        (below_trans hbw (below_alloc wr (.cells #[.string (bs nm), .string (bs x.node), .bool bd, .int .i64 x.since] 80)).drew).trans (hk6.below (Nat.le_trans hbw.size (by simp)) fun i hi h => by have := HRf.out i h; omega)
      have hS6 : ∀ {bd : Bool} (w6 : World), Kept (fun b => (Value.slice oo k oc).ownBlock = some b) (wr.alloc (.cells #[.string (bs nm), .string (bs x.node), .bool bd, .int .i64 x.since] 80)).drew w6 → w6.ownsRow 0 9 1 (.slice (some ⟨gb, 0, none⟩) g.PP.length cap) g.PP.length (nameVals g.PP) := fun {bd} w6 hk6 =>
        hk6.ownsRow ((Kept.of_below (F := noBlock) (below_alloc wr _)).drew.ownsRow HSr.out fun _ _ => id) fun b hb h => rows_apart HSr.out HRo.out (by decide) hb h
      clear hcl Hi
      cases hbd : x.bound
      · skip
        have e1 := e1 false
        obtain ⟨ao', cap', w6, e1, r6, k6, fr⟩ := e1
        rw [hbd, show boolI false = 0 from rfl] at pc7
        have HB : Hid (x.bound = false) := hbd
        have hne : ∀ b, (Value.slice oo k oc).ownBlock = some b → b ≠ q := fun b hb => by
          rintro rfl
          exact (row_typeS HRo.out hb).elim fun c hc => by rw [hqb] at hc; simp at hc
        have q6 := fun o => k6.cell (p := ⟨q, o, none⟩) (by simp; omega) (fun h => hne q h rfl)
        clear hbd hP hp2
        go_wp2_with (at_lookup; refine wpL_get_some _ rfl _ _ 105 rfl 9 117 strK Try.underlying105 (zeroPod _) g.bp _ rfl mpd _ nm rfl keyNm _ hp1 ?_)
        go_region_held3 (fun w' => w'.cell? ⟨q, 6, none⟩ = some (.string (bs x.node)) ∧ w'.cell? ⟨q, 7, none⟩ = some (.int .i64 0) ∧ w'.cell? ⟨q, 8, none⟩ = some (.int .i64 x.since)) (go_keep)
          (first
            | (refine step_append_run rfl _ _ 65 rfl _ _ rfl rfl (by exact e1) ?_))
        all_goals go_wp2
        all_goals go_roundw
        all_goals first
          | (refine ⟨k + 1, ao', cap', by omega, by go_num, rfl, ?_, fun b hb => ?_, ?_, ?_⟩
             · rw [Hrows.out]
               simpa [liesRow, HE.out, HB.out] using r6
             · rcases fr with hf | hf
               · exact HRf.out b (by rw [← hf]; exact hb)
               · have := hf b hb
                 simp at this
                 have := hbw.size
                 omega
             · exact hB6 w6 k6
             · exact hS6 w6 k6)
          | (simp [intOf]; omega)
      · skip
        have e1 := e1 true
        obtain ⟨ao', cap', w6, e1, r6, k6, fr⟩ := e1
        rw [hbd, show boolI true = 1 from rfl] at pc7
        have HB : Hid (x.bound = true) := hbd
        have hne : ∀ b, (Value.slice oo k oc).ownBlock = some b → b ≠ q := fun b hb => by
          rintro rfl
          exact (row_typeS HRo.out hb).elim fun c hc => by rw [hqb] at hc; simp at hc
        have q6 := fun o => k6.cell (p := ⟨q, o, none⟩) (by simp; omega) (fun h => hne q h rfl)
        clear hbd hP hp2
        go_wp2_with (at_lookup; refine wpL_get_some _ rfl _ _ 105 rfl 9 117 strK Try.underlying105 (zeroPod _) g.bp _ rfl mpd _ nm rfl keyNm _ hp1 ?_)
        go_region_held3 (fun w' => w'.cell? ⟨q, 6, none⟩ = some (.string (bs x.node)) ∧ w'.cell? ⟨q, 7, none⟩ = some (.int .i64 1) ∧ w'.cell? ⟨q, 8, none⟩ = some (.int .i64 x.since)) (go_keep)
          (first
            | (refine step_append_run rfl _ _ 65 rfl _ _ rfl rfl (by exact e1) ?_))
        all_goals go_wp2
        all_goals go_roundw
        all_goals first
          | (refine ⟨k + 1, ao', cap', by omega, by go_num, rfl, ?_, fun b hb => ?_, ?_, ?_⟩
             · rw [Hrows.out]
               simpa [liesRow, HE.out, HB.out] using r6
             · rcases fr with hf | hf
               · exact HRf.out b (by rw [← hf]; exact hb)
               · have := hf b hb
                 simp at this
                 have := hbw.size
                 omega
             · exact hB6 w6 k6
             · exact hS6 w6 k6)
          | (simp [intOf]; omega)
    · have hkn : k = g.PP.length := by omega
      subst hkn
      have hr := HRo.out
      rw [List.take_length] at hr
      go_wp2
      go_ret
      exact ⟨oo, oc, rfl, hr, HRf.out, hbw⟩

end Go.Proofs.Ytchddaafibjmgaa

namespace Go.Proofs.Ytchddaafibjmgaa
open Go.RowKit Go.Maps

/-- How many pods lie on a node. -/
def cntOf : List (Bytes × LiesV) → Bytes → Int
  | [], _ => 0
  | p :: r, k => if p.2.node == k then cntOf r k + 1 else cntOf r k

theorem cntOf_bound (l : List (Bytes × LiesV)) (k : Bytes) : 0 ≤ cntOf l k ∧ cntOf l k ≤ l.length := by
  induction l with
  | nil => simp [cntOf]
  | cons p r ih =>
    unfold cntOf
    simp only [List.length_cons]
    split <;> omega

theorem usedOf_none {l : List (Bytes × LiesV)} {k : Bytes} (h : cntOf l k = 0) : usedOf l k = (0, 0, 0) := by
  induction l with
  | nil => rfl
  | cons p r ih =>
    unfold cntOf at h
    unfold usedOf
    have hb := cntOf_bound r k
    split at h
    · omega
    · rename_i hn
      rw [if_neg hn]
      exact ih h

theorem usedOf_perm {l l' : List (Bytes × LiesV)} (h : l.Perm l') (k : Bytes) : usedOf l k = usedOf l' k ∧ cntOf l k = cntOf l' k := by
  induction h with
  | nil => exact ⟨rfl, rfl⟩
  | cons x _ ih => simp only [usedOf, cntOf, ih.1, ih.2, and_self]
  | swap x y l =>
    simp only [usedOf, cntOf]
    cases (x.2.node == k) <;> cases (y.2.node == k) <;> simp
    omega
  | trans _ _ i1 i2 => exact ⟨i1.1.trans i2.1, i1.2.trans i2.2⟩

/-- One more is no longer to come. -/
theorem done_perm {α : Type} {L : List (Bytes × α)} {todo : Bytes → Bool} {kb : Bytes} {x : α} (hs : L.Pairwise fun p q => p.1 ≠ q.1) (hx : (kb, x) ∈ L) (ht : todo kb = true) :
    (L.filter fun p => !(todo p.1 && !(p.1 == kb))).Perm ((kb, x) :: L.filter fun p => !todo p.1) := by
  induction L with
  | nil => simp at hx
  | cons p r ih =>
    rw [List.pairwise_cons] at hs
    rcases List.mem_cons.1 hx with rfl | hx
    · rw [List.filter_cons, List.filter_cons]
      simp only [beq_self_eq_true, Bool.not_true, Bool.and_false, Bool.not_false, if_true, ht, Bool.false_eq_true, if_false]
      have : (r.filter fun p => !(todo p.1 && !(p.1 == kb))) = r.filter fun p => !todo p.1 := by
        apply List.filter_congr
        intro q hq
        have : (q.1 == kb) = false := by simpa using Ne.symm (hs.1 q hq)
        simp [this]
      rw [this]
    · have hne : (p.1 == kb) = false := by simpa using hs.1 _ hx
      rw [List.filter_cons, List.filter_cons, hne]
      cases todo p.1
      · simp only [Bool.false_and, Bool.not_false, if_true]
        exact ((ih hs.2 hx).cons p).trans (List.Perm.swap _ _ _)
      · simp only [Bool.not_false, Bool.and_self, Bool.not_true, Bool.false_eq_true, if_false]
        exact ih hs.2 hx

def useVal (u : Int × Int × Int) (c : Int) : Value := .agg #[.string ⟨#[]⟩, .int .i64 u.1, .int .i64 u.2.1, .int .i64 u.2.2, .int .i64 c]
theorem zeroUse (w : World) : (zeroValue 76).run Try.prog w = .ok (.agg #[.string ⟨#[]⟩, .int .i64 0, .int .i64 0, .int .i64 0, .int .i64 0]) w := by kernel_rfl

/-- The pods that have come. -/
def doneP (g : Gh) (todo : Bytes → Bool) : List (Bytes × LiesV) := mapV (·.2) (g.PP.filter fun p => !todo p.1)

theorem doneP_step {g : Gh} {todo : Bytes → Bool} {kb : Bytes} {x : Nat × LiesV} (hs : g.PP.Pairwise fun p q => p.1 ≠ q.1) (hx : getL g.PP kb = some x) (ht : todo kb = true) (k : Bytes) :
    usedOf (doneP g fun z => todo z && !(z == kb)) k = usedOf ((kb, x.2) :: doneP g todo) k ∧ cntOf (doneP g fun z => todo z && !(z == kb)) k = cntOf ((kb, x.2) :: doneP g todo) k :=
  usedOf_perm (by
    unfold doneP mapV
    exact ((done_perm hs (getL_mem hx) ht).map fun p => (p.1, p.2.2))) k

/-- What the map holds. -/
def UseMap (ON : List (Bytes × Value)) (l : List (Bytes × LiesV)) : Prop := ∀ k, getL ON k = if cntOf l k = 0 then none else some (useVal (usedOf l k) (cntOf l k))

theorem UseMap.get {ON : List (Bytes × Value)} {l : List (Bytes × LiesV)} (h : UseMap ON l) (k : Bytes) : (getL ON k).getD (.agg #[.string ⟨#[]⟩, .int .i64 0, .int .i64 0, .int .i64 0, .int .i64 0]) = .agg #[.string ⟨#[]⟩, .int .i64 (usedOf l k).1, .int .i64 (usedOf l k).2.1, .int .i64 (usedOf l k).2.2, .int .i64 (cntOf l k)] := by
  rw [h]
  by_cases h0 : cntOf l k = 0
  · rw [if_pos h0, h0, usedOf_none h0]
    rfl
  · rw [if_neg h0]
    rfl

theorem UseMap.put {ON : List (Bytes × Value)} {l l' : List (Bytes × LiesV)} {kb : Bytes} {x : LiesV} (h : UseMap ON l) (hl : ∀ k, usedOf l' k = usedOf ((kb, x) :: l) k ∧ cntOf l' k = cntOf ((kb, x) :: l) k) :
    UseMap (putL ON x.node (.agg #[.string ⟨#[]⟩, .int .i64 ((usedOf l x.node).1 + x.n0), .int .i64 ((usedOf l x.node).2.1 + x.n1), .int .i64 ((usedOf l x.node).2.2 + x.n2), .int .i64 (cntOf l x.node + 1)])) l' := by
  intro k
  rw [(hl k).1, (hl k).2]
  by_cases e : k = x.node
  · subst e
    have hb := (cntOf_bound l x.node).1
    have h1 : cntOf ((kb, x) :: l) x.node = cntOf l x.node + 1 := by simp [cntOf]
    have h2 : usedOf ((kb, x) :: l) x.node = ((usedOf l x.node).1 + x.n0, (usedOf l x.node).2.1 + x.n1, (usedOf l x.node).2.2 + x.n2) := by simp [usedOf]
    rw [getL_putL_same, h1, h2, if_neg (by omega)]
    rfl
  · have hn : (x.node == k) = false := by simpa using Ne.symm e
    have h1 : cntOf ((kb, x) :: l) k = cntOf l k := by simp [cntOf, hn]
    have h2 : usedOf ((kb, x) :: l) k = usedOf l k := by simp [usedOf, hn]
    rw [getL_putL_other _ _ e, h1, h2]
    exact h k

end Go.Proofs.Ytchddaafibjmgaa

namespace Go.Proofs.Ytchddaafibjmgaa
open Go.RowKit Go.Maps

set_option maxRecDepth 100000 in
set_option maxHeartbeats 4000000 in
theorem byNode_any {F : Nat → Prop} {w : World} {Y : Nat} {hd : Head} {g : Gh} (H : BMem F w Y hd g) (hS : Small g) (hpk : ∀ p ∈ g.PP, p.2.2.node.length ≤ maxLen) :
    Calls Try.prog 64 #[.pointer (some ⟨Y, 0, none⟩)] w fun e w' => ∃ b ON, e = .returned (.map (some b)) ∧ w.heap.size ≤ b ∧ MapAt Try.prog w' 9 b ON ∧ UseMap ON g.pods ∧ Below w.heap.size w w' := by
  have hmm := @run_makeMap Try.prog
  have hx5 := H.cP
  have hY := H.lt Y H.fy
  have hb0 := below_alloc w (.map #[] 0)
  have pd0 := (H.below hb0).pd
  have y5 := (H.below hb0).cP
  have HH : Hid (BMem F w Y hd g) := H
  have man : MapAt Try.prog (w.alloc (.map #[] 0)) 9 w.heap.size [] := MapAt.made Try.prog w 9
  have hSp := hS.pods
  have hSn := hS.need
  clear H hS
  go_enter Try.func64, Try.ntmps64
  go_wp2_with (at_range; refine wpL_range_n _ rfl _ 105 rfl 9 117 strK Try.underlying105 g.bp _ rfl (by exact pd0) ?_; intro w2 hr2 hn2 hb2 hs2)
  simp only [World.size_alloc] at hr2 hn2
  rw [mapV_length] at hn2
  have hB2 : Below w.heap.size w w2 := below_trans hb0 hb2
  have M2 : Hid (MapAt Try.prog w2 9 w.heap.size []) := man.kept (Kept.of_below (F := noBlock) hb2) id
  clear hs2 hb2 man pd0 hb0 y5 hx5
  try go_frame
  try simp only [World.size_alloc]
  go_loopw [5] (fun _ wr => ∃ todo ON, RngAt Try.prog wr 9 g.bp (w.heap.size + 1) (mapV (fun x => ptrV x.1) g.PP) todo ∧ MapAt Try.prog wr 9 w.heap.size ON ∧ Below w.heap.size w wr ∧ UseMap ON (doneP g todo) ∧ ON.length + wr.rangeLeft g.bp (w.heap.size + 1) ≤ 128) (fun _ wr => wr.rangeLeft g.bp (w.heap.size + 1))
  case atStart =>
    refine ⟨_, [], hr2, M2.out, hB2, fun k => ?_, by rw [hn2]; simpa using hSp⟩
    have : doneP g (fun x => (getL (mapV (fun x => ptrV x.1) g.PP) x).isSome) = [] := by
      unfold doneP
      have : (g.PP.filter fun p => !(getL (mapV (fun x => ptrV x.1) g.PP) p.1).isSome) = [] := by
        rw [List.filter_eq_nil_iff]
        intro p hp
        rw [getL_mapV, getL_of_mem HH.out.sortP.distinct (k := p.1) (v := p.2) hp]
        simp
      rw [this]
      rfl
    rw [this]
    rfl
  case round =>
    clear hr2 M2 hB2 hn2
    obtain ⟨todo, ON, hrg, hM, hbw, hU, hlen⟩ := hrel
    have HU : Hid (UseMap ON (doneP g todo)) := hU
    clear hU
    have hbp : g.bp < w.heap.size := HH.out.lt _ (HH.out.fm g.bp (by simp [Gh.maps]))
    go_wp2_with (at_next; refine wpL_next _ rfl _ rfl 9 strK Value.string (fun q : Nat => Value.pointer (some ⟨q, 0, none⟩)) g.bp (w.heap.size + 1) _ todo (fun _ _ => strInv) (fun _ v h => ptrInv h) rfl hrg ?_ ?_)
    · intro hl0
      have hU' : UseMap ON g.pods := by
        have h := HU.out
        have hd' : doneP g todo = g.pods := by
          unfold doneP Gh.pods
          rw [List.filter_eq_self.2 fun p _ => by rw [hl0]; rfl]
        rw [hd'] at h
        exact h
      go_wp2
      go_ret
      exact ⟨w.heap.size, ON, rfl, Nat.le_refl _, hM, hU', hbw⟩
    · intro s c kb w3 hkey htd hget hrg3 hlt3 hk3 hs3 hen
      obtain ⟨z, hz, hzc⟩ : ∃ z, getL g.PP kb = some z ∧ z.1 = c := by
        rw [getL_mapV] at hget
        cases hgn : getL g.PP kb with
        | none => rw [hgn] at hget; cases hget
        | some z => rw [hgn] at hget; simp [ptrV] at hget; exact ⟨z, rfl, hget⟩
      have hb3 : Below w.heap.size w w3 := below_turn hbw hk3 (by omega)
      have H3 := HH.out.below hb3
      have hM3 := hM.kept hk3 (by omega)
      have Hlt : Hid (w3.rangeLeft g.bp (w.heap.size + 1) < wr.rangeLeft g.bp (w.heap.size + 1)) := hlt3
      have hmem := getL_mem hz
      have hp2 := (H3.getP hz).2
      have hdp := fun k => doneP_step HH.out.sortP.distinct hz htd k
      have hnl := hpk _ hmem
      have hnd := hSn _ hmem
      obtain ⟨q, x⟩ := z
      dsimp only at hzc hnl hnd hp2 hdp
      subst hzc
      obtain ⟨pc0, pc1, pc2, -, pc6, -, -, -⟩ := hp2.cells
      have zq : q < w.heap.size := by
        obtain ⟨_, _, _, h, _⟩ := hp2
        exact HH.out.lt _ h
      have hsz3 := hb3.size
      have hsz3' := hM3.lt
      have hsz3'' := hrg3.lt
      have keyNd : keyOf Try.prog 9 (.string (bs x.node)) = some (.string x.node) := by rw [keyS _ (by rw [bs_size]; exact hnl), ky_bs]
      have hval := HU.out.get x.node
      have hput := HU.out.put hdp
      have hub := usedOf_bound (doneP g todo) (fun p hp => by
        obtain ⟨p', hp', rfl⟩ := mem_mapV.1 hp
        exact hSn p' (List.mem_filter.1 hp').1) x.node
      have hcb := cntOf_bound (doneP g todo) x.node
      have hdl : (doneP g todo).length ≤ 128 := by
        unfold doneP
        rw [mapV_length]
        exact Nat.le_trans (List.length_filter_le _ _) hSp
      have HP : Hid (UseMap (putL ON x.node (.agg #[.string ⟨#[]⟩, .int .i64 ((usedOf (doneP g todo) x.node).1 + x.n0), .int .i64 ((usedOf (doneP g todo) x.node).2.1 + x.n1), .int .i64 ((usedOf (doneP g todo) x.node).2.2 + x.n2), .int .i64 (cntOf (doneP g todo) x.node + 1)])) (doneP g fun z => todo z && !(z == kb))) := hput
      generalize usedOf (doneP g todo) x.node = U at *
      generalize cntOf (doneP g todo) x.node = C at *
      obtain ⟨u0, u1, u2⟩ := U
      dsimp only at hval hub HP
      have cS := fun W => sum_any u0 u1 u2 x.n0 x.n1 x.n2 W (by
        simp only [List.mem_cons, List.not_mem_nil, or_false, forall_eq_or_imp, forall_eq] at hub hnd ⊢
        omega)
      have hll : ON.length < maxLen := by unfold maxLen; omega
      have zqA : q < (w3.alloc (.cells #[.string ⟨#[]⟩, .int .i64 u0, .int .i64 u1, .int .i64 u2, .int .i64 C] 76)).drew.heap.size := by simp; omega
      have zvA : w3.heap.size < (w3.alloc (.cells #[.string ⟨#[]⟩, .int .i64 u0, .int .i64 u1, .int .i64 u2, .int .i64 C] 76)).drew.heap.size := by simp
      have hbA : Below w3.heap.size w3 (w3.alloc (.cells #[.string ⟨#[]⟩, .int .i64 u0, .int .i64 u1, .int .i64 u2, .int .i64 C] 76)).drew := (below_alloc _ _).drew
      have qa0 := ((below_alloc w3 (.cells #[.string ⟨#[]⟩, .int .i64 u0, .int .i64 u1, .int .i64 u2, .int .i64 C] 76)).cell (p := ⟨q, 0, none⟩) (by dsimp only; omega)).trans pc0
      have qa1 := ((below_alloc w3 (.cells #[.string ⟨#[]⟩, .int .i64 u0, .int .i64 u1, .int .i64 u2, .int .i64 C] 76)).cell (p := ⟨q, 1, none⟩) (by dsimp only; omega)).trans pc1
      have qa2 := ((below_alloc w3 (.cells #[.string ⟨#[]⟩, .int .i64 u0, .int .i64 u1, .int .i64 u2, .int .i64 C] 76)).cell (p := ⟨q, 2, none⟩) (by dsimp only; omega)).trans pc2
      have qa6 := ((below_alloc w3 (.cells #[.string ⟨#[]⟩, .int .i64 u0, .int .i64 u1, .int .i64 u2, .int .i64 C] 76)).cell (p := ⟨q, 6, none⟩) (by dsimp only; omega)).trans pc6
      have hwC : RowKit.wrap64 (C + 1) = C + 1 := IntWalk.wrap64_in _ (by omega)
      have hnqv : ¬ q = w3.heap.size := by omega
      have hnqv' : ¬ w3.heap.size = q := by omega
      clear hget hkey hlt3 hs3 hrg hM hk3 hz hmem hp2 hdp hput hub hdl H3 HU hnd
      go_wp2_with (at_lookup; refine wpL_get _ rfl _ _ 133 rfl 9 76 strK Try.underlying133 (zeroUse _) w.heap.size _ rfl hM3 _ x.node rfl keyNd _ hval ?_)
      go_region_with (first
          | (go_at_call 73; refine (cS _).mono ?_; rintro e ws ⟨rfl, hbs⟩; have q1 := fun o => hbs.cell (p := ⟨q, o, none⟩) zqA; have v1 := fun o => hbs.cell (p := ⟨w3.heap.size, o, none⟩) zvA; have r1 := fun o => hbs.frozen (p := ⟨w3.heap.size, o, none⟩) zvA))
      all_goals go_wp2
      all_goals have K8 : Kept (fun b => b = w3.heap.size) ws ((((ws.setCell ⟨w3.heap.size, 1, none⟩ (.int .i64 (u0 + x.n0))).setCell ⟨w3.heap.size, 2, none⟩ (.int .i64 (u1 + x.n1))).setCell ⟨w3.heap.size, 3, none⟩ (.int .i64 (u2 + x.n2))).setCell ⟨w3.heap.size, 4, none⟩ (.int .i64 (C + 1))).drew := (((((Kept.refl (fun b => b = w3.heap.size) ws).setCell (p := ⟨w3.heap.size, 1, none⟩) (fun _ => rfl) (.int .i64 (u0 + x.n0))).setCell (p := ⟨w3.heap.size, 2, none⟩) (fun _ => rfl) (.int .i64 (u1 + x.n1))).setCell (p := ⟨w3.heap.size, 3, none⟩) (fun _ => rfl) (.int .i64 (u2 + x.n2))).setCell (p := ⟨w3.heap.size, 4, none⟩) (fun _ => rfl) (.int .i64 (C + 1))).drew
      all_goals have hb3s := below_trans hbA hbs
      all_goals have hMs := (hM3.kept (Kept.of_below (F := noBlock) hb3s) id).kept K8 (by omega)
      all_goals have hb8 : Below w.heap.size w ((((ws.setCell ⟨w3.heap.size, 1, none⟩ (.int .i64 (u0 + x.n0))).setCell ⟨w3.heap.size, 2, none⟩ (.int .i64 (u1 + x.n1))).setCell ⟨w3.heap.size, 3, none⟩ (.int .i64 (u2 + x.n2))).setCell ⟨w3.heap.size, 4, none⟩ (.int .i64 (C + 1))).drew := (below_trans hb3 hb3s).trans (K8.below (Nat.le_trans hsz3 hb3s.size) fun i hi e => by omega)
      all_goals obtain ⟨w9, hst, hm9, ht9⟩ := hMs.store (val := .agg #[.string ⟨#[]⟩, .int .i64 (u0 + x.n0), .int .i64 (u1 + x.n1), .int .i64 (u2 + x.n2), .int .i64 (C + 1)]) strK Try.underlying133 hll keyNd
      all_goals have hk9 := Kept.turned ht9
      all_goals have hb9 := below_turn hb8 hk9 (Nat.le_refl _)
      all_goals have hk39 : Kept (fun b => b = w.heap.size ∨ b = w3.heap.size) w3 w9 := ((Kept.of_below hb3s).trans (K8.mono fun i _ e => .inr e) fun i _ h => h).trans hk9 fun i _ e => .inl e
      all_goals clear hb8 hMs K8
      all_goals go_region
      all_goals go_wp2
      all_goals go_roundw
      all_goals have hrl := rangeLeft_kept hrg3 hk39 (by rintro (e | e) <;> omega) (by rintro (e | e) <;> omega)
      all_goals have hlo := Hlt.out
      all_goals have hpl := length_putL_le ON x.node (.agg #[.string ⟨#[]⟩, .int .i64 (u0 + x.n0), .int .i64 (u1 + x.n1), .int .i64 (u2 + x.n2), .int .i64 (C + 1)])
      all_goals first
        | exact ⟨_, _, hrg3.kept hk39 (by rintro (e | e) <;> omega) (by rintro (e | e) <;> omega), hm9, hb9, HP.out, by rw [hrl]; omega⟩
        | (rw [hrl]; exact hlo)
        | (simp only [hrl]; exact hlo)

end Go.Proofs.Ytchddaafibjmgaa

namespace Go.Proofs.Ytchddaafibjmgaa
open Go.RowKit Go.Maps

theorem Try.infoUT : (Try.prog.info? 76).map (fun i => (i.zero, i.size, i.bytes)) = some (some (.agg #[.string ⟨#[]⟩, .int .i64 0, .int .i64 0, .int .i64 0, .int .i64 0]), 5, 48) := by kernel_rfl

/-- A node that is there, as State tells it. -/
def useRow (g : Gh) (k : Bytes) : List Value := [.string (bs k), .int .i64 (usedOf g.pods k).1, .int .i64 (usedOf g.pods k).2.1, .int .i64 (usedOf g.pods k).2.2, .int .i64 (cntOf g.pods k)]

set_option maxRecDepth 100000 in
set_option maxHeartbeats 4000000 in
theorem uses_any {F : Nat → Prop} {w : World} {Y : Nat} {hd : Head} {g : Gh} (H : BMem F w Y hd g) (hS : Small g) (hN : g.NN.length ≤ 64) (hnk : ∀ p ∈ g.NN, p.1.length ≤ maxLen) (hpk : ∀ p ∈ g.PP, p.2.2.node.length ≤ maxLen) :
    Calls Try.prog 48 #[.pointer (some ⟨Y, 0, none⟩)] w fun e w' => ∃ ao cap, e = .returned (.slice ao g.NN.length cap) ∧ w'.ownsRow 0 76 5 (.slice ao g.NN.length cap) g.NN.length (g.NN.flatMap fun p => useRow g p.1) ∧ (∀ b, (Value.slice ao g.NN.length cap).ownBlock = some b → w.heap.size ≤ b) ∧ Below w.heap.size w w' := by
  obtain ⟨i0, hi, hz0, hz1, hz2⟩ := info_parts Try.infoUT
  have hx4 := H.cN
  have hY := H.lt Y H.fy
  have cB := byNode_any H hS hpk
  have hlen : ∀ W, Below w.heap.size w W → ∀ ty, (Builtin.len_ #[104] ty #[.map (some g.bn)]).run Try.prog W = .ok (.int .i64 g.NN.length) W := fun W hb ty => by
    have := (H.below hb).nd.len Try.underlying104 ty
    rwa [mapV_length] at this
  have HH : Hid (BMem F w Y hd g) := H
  clear H hS
  go_enter Try.func48, Try.ntmps48
  go_wp2_with (first
    | (go_at_call 64; refine cB.mono ?_; rintro e w1 ⟨bm, ON, rfl, hbm, hM1, hU, hb1⟩; have hx1 := (HH.out.below hb1).cN; have hlen1 := hlen w1 hb1)
    | (at_make; refine wpList_make_own _ rfl _ _ 64 rfl 0 76 i0 _ 5 Try.underlying64 hi hz0 hz1 _ _ _ g.NN.length rfl rfl rfl (by rw [hz2]; omega) (by unfold maxLen; omega) (Nat.zero_le _) ?_; intro w2 hr2 hg2; have hb12 : Below w1.heap.size w1 w2 := ⟨hg2.os, hg2.tape, hg2.output, hg2.size, fun i hi => hg2.block i hi (by simp)⟩; have hb2 := below_trans hb1 hb12; have H2 := HH.out.below hb2; have hx2 := H2.cN; have ck := keysN_any g.bn w2; have cs := sortedN_any H2.nd (by rw [mapV_length]; omega); rw [mapV_length, nameVals_mapV] at cs)
    | (go_at_call 66; refine ck.mono ?_; rintro e w4 ⟨rfl, rfl⟩)
    | (go_at_call 65; refine cs.mono ?_; rintro e w4 ⟨ao, cap, rfl, hrow, hb4⟩))
  have hb04 := below_trans hb2 hb4
  have HR4 : Hid (w4.ownsRow 0 76 5 (.slice (some ⟨w1.heap.size, 0, none⟩) 0 g.NN.length) 0 []) := (Kept.of_below (F := noBlock) hb4).ownsRow hr2 fun _ _ => id
  have HS4 : Hid (w4.ownsRow 0 9 1 (.slice ao g.NN.length cap) g.NN.length (nameVals g.NN)) := hrow
  have HM4 : Hid (MapAt Try.prog w4 9 bm ON) := (hM1.kept (Kept.of_below (F := noBlock) hb12) id).kept (Kept.of_below (F := noBlock) hb4) id
  have hsz1 := hb1.size
  clear hr2 hg2 hb2 H2 hx2 ck cs hb4 hrow hx4 hx1 hlen1 hlen hb12 hM1
  have HU : Hid (UseMap ON g.pods) := hU
  clear hU hb1 cB
  go_loopw [4, 23] (fun o i wr => ∃ (k : Nat) (oo : Option Addr) (oc : Nat), k ≤ g.NN.length ∧ i = .int .i64 k ∧ o = .slice oo k oc ∧ wr.ownsRow 0 76 5 (.slice oo k oc) k ((g.NN.take k).flatMap fun p => useRow g p.1) ∧ (∀ b, (Value.slice oo k oc).ownBlock = some b → w.heap.size ≤ b) ∧ Below w.heap.size w wr ∧ wr.ownsRow 0 9 1 (.slice ao g.NN.length cap) g.NN.length (nameVals g.NN) ∧ MapAt Try.prog wr 9 bm ON) (fun _ i _ => g.NN.length - (intOf i).toNat)
  case atStart => exact ⟨0, _, _, Nat.zero_le _, rfl, rfl, HR4.out, fun b hb => by simp [Value.ownBlock] at hb; omega, hb04, HS4.out, HM4.out⟩
  case round =>
    clear HR4 HS4 hb04 HM4
    obtain ⟨k, oo, oc, hk, rfl, rfl, hRo, hRf, hbw, hSr, hMr⟩ := hrel
    have HRo : Hid (wr.ownsRow 0 76 5 (.slice oo k oc) k ((g.NN.take k).flatMap fun p => useRow g p.1)) := hRo
    have HRf : Hid (∀ b, (Value.slice oo k oc).ownBlock = some b → w.heap.size ≤ b) := hRf
    have HSr : Hid (wr.ownsRow 0 9 1 (.slice ao g.NN.length cap) g.NN.length (nameVals g.NN)) := hSr
    clear hRo hRf hSr
    by_cases hlt : k < g.NN.length
    · have hnkk := hnk g.NN[k] (List.getElem_mem hlt)
      obtain ⟨gb, rfl, hg, hcl⟩ := own_at HSr.out (by omega)
      have hcell : wr.cell? ⟨gb, k, none⟩ = some (.string (bs g.NN[k].1)) := by
        rw [hcl k hlt]
        simp [nameVals, hlt]
      have Hrows : Hid (((g.NN.take (k + 1)).flatMap fun p => useRow g p.1) = ((g.NN.take k).flatMap fun p => useRow g p.1) ++ useRow g g.NN[k].1) := by
        show _ = _
        rw [List.take_succ_eq_append_getElem hlt, List.flatMap_append]
        simp
      obtain ⟨nm, hE⟩ : ∃ E, g.NN[k].1 = E := ⟨_, rfl⟩
      have HE : Hid (g.NN[k].1 = nm) := hE
      rw [hE] at hnkk hcell
      clear hE
      have keyNm : keyOf Try.prog 9 (.string (bs nm)) = some (.string nm) := by rw [keyS _ (by rw [bs_size]; exact hnkk), ky_bs]
      have hval := HU.out.get nm
      have HR5 : Hid (useRow g nm = [.string (bs nm), .int .i64 (usedOf g.pods nm).1, .int .i64 (usedOf g.pods nm).2.1, .int .i64 (usedOf g.pods nm).2.2, .int .i64 (cntOf g.pods nm)]) := rfl
      generalize usedOf g.pods nm = U at *
      generalize cntOf g.pods nm = C at *
      obtain ⟨u0, u1, u2⟩ := U
      dsimp only at hval HR5
      clear hcl
      have hbA : Below wr.heap.size wr ((wr.alloc (.cells #[.string (bs nm), .int .i64 u0, .int .i64 u1, .int .i64 u2, .int .i64 C] 76)).alloc (.cells #[.string (bs nm), .int .i64 u0, .int .i64 u1, .int .i64 u2, .int .i64 C] 76)) := below_trans (below_alloc _ _) (below_alloc _ _)
      have HMr : Hid (MapAt Try.prog wr 9 bm ON) := hMr
      have hRA := (Kept.of_below (F := noBlock) hbA).ownsRow HRo.out fun _ _ => id
      have hblk : ((wr.alloc (.cells #[.string (bs nm), .int .i64 u0, .int .i64 u1, .int .i64 u2, .int .i64 C] 76)).alloc (.cells #[.string (bs nm), .int .i64 u0, .int .i64 u1, .int .i64 u2, .int .i64 C] 76)).heap[wr.heap.size + 1]? = some (.cells #[.string (bs nm), .int .i64 u0, .int .i64 u1, .int .i64 u2, .int .i64 C] 76 (0, 0)) := by
        have h := block_alloc_new (wr.alloc (.cells #[.string (bs nm), .int .i64 u0, .int .i64 u1, .int .i64 u2, .int .i64 C] 76)) (.cells #[.string (bs nm), .int .i64 u0, .int .i64 u1, .int .i64 u2, .int .i64 C] 76)
        rwa [World.size_alloc] at h
      have hnew : ∀ (j : Nat) u, [Value.string (bs nm), .int .i64 u0, .int .i64 u1, .int .i64 u2, .int .i64 C][j]? = some u → ((wr.alloc (.cells #[.string (bs nm), .int .i64 u0, .int .i64 u1, .int .i64 u2, .int .i64 C] 76)).alloc (.cells #[.string (bs nm), .int .i64 u0, .int .i64 u1, .int .i64 u2, .int .i64 C] 76)).cell? ((⟨wr.heap.size + 1, 0, none⟩ : Addr).add j) = some u := fun j u hu => by
        have ha : (⟨wr.heap.size + 1, 0, none⟩ : Addr).add j = ⟨wr.heap.size + 1, j, none⟩ := by
          unfold Addr.add
          split
          · rename_i h; rw [h]
          · simp
        rw [ha, cell_of_block hblk, ← hu]
        simp
      have HAll : Hid (∀ ao' cap' w6, w6.ownsRow 0 76 5 (.slice ao' (k + 1) cap') (k + 1) (((g.NN.take k).flatMap fun p => useRow g p.1) ++ [.string (bs nm), .int .i64 u0, .int .i64 u1, .int .i64 u2, .int .i64 C]) → Kept (fun b => (Value.slice oo k oc).ownBlock = some b) ((wr.alloc (.cells #[.string (bs nm), .int .i64 u0, .int .i64 u1, .int .i64 u2, .int .i64 C] 76)).alloc (.cells #[.string (bs nm), .int .i64 u0, .int .i64 u1, .int .i64 u2, .int .i64 C] 76)) w6 →
          ((Value.slice ao' (k + 1) cap').ownBlock = (Value.slice oo k oc).ownBlock ∨ ∀ b, (Value.slice ao' (k + 1) cap').ownBlock = some b → ((wr.alloc (.cells #[.string (bs nm), .int .i64 u0, .int .i64 u1, .int .i64 u2, .int .i64 C] 76)).alloc (.cells #[.string (bs nm), .int .i64 u0, .int .i64 u1, .int .i64 u2, .int .i64 C] 76)).heap.size ≤ b) →
          w6.ownsRow 0 76 5 (.slice ao' (k + 1) cap') (k + 1) ((g.NN.take (k + 1)).flatMap fun p => useRow g p.1) ∧ (∀ b, (Value.slice ao' (k + 1) cap').ownBlock = some b → w.heap.size ≤ b) ∧ Below w.heap.size w w6 ∧ w6.ownsRow 0 9 1 (.slice (some ⟨gb, 0, none⟩) g.NN.length cap) g.NN.length (nameVals g.NN) ∧ MapAt Try.prog w6 9 bm ON) := fun ao' cap' w6 r6 k6 fr => by
        refine ⟨?_, fun b hb => ?_, ?_, ?_, ?_⟩
        · rw [Hrows.out, HE.out, HR5.out]
          exact r6
        · rcases fr with hf | hf
          · exact HRf.out b (by rw [← hf]; exact hb)
          · have := hf b hb
            simp at this
            have := hbw.size
            omega
        · exact (below_trans hbw hbA).trans (k6.below (Nat.le_trans hbw.size hbA.size) fun i hi h => by have := HRf.out i h; omega)
        · exact k6.ownsRow ((Kept.of_below (F := noBlock) hbA).ownsRow HSr.out fun _ _ => id) fun b hb h => rows_apart HSr.out HRo.out (by decide) hb h
        · refine (HMr.out.kept (Kept.of_below (F := noBlock) hbA) id).kept k6 fun h => ?_
          obtain ⟨c, hc⟩ := row_typeS HRo.out h
          obtain ⟨es, clock, hb, _⟩ := HMr.out
          rw [hb] at hc
          cases hc
      clear hbA hblk
      go_wp2_with (first
        | (at_builtin; refine wpList_append_row _ rfl (.tmp 32) (.tmp 34) 64 rfl 76 i0 _ 5 48 Try.underlying64 hi hz0 hz1 hz2 rfl (by decide) _ k _ rfl (by exact hRA) ⟨wr.heap.size + 1, 0, none⟩ 1 1 [.string (bs nm), .int .i64 u0, .int .i64 u1, .int .i64 u2, .int .i64 C] rfl rfl (by exact hnew) (by intro u hu; simp at hu; rcases hu with rfl | rfl | rfl | rfl | rfl <;> rfl) (by unfold maxLen; omega) (by omega) ?_; intro ao' cap' w6 r6 g6 fr; have k6 : Kept (fun b => (Value.slice oo k oc).ownBlock = some b) ((wr.alloc (.cells #[.string (bs nm), .int .i64 u0, .int .i64 u1, .int .i64 u2, .int .i64 C] 76)).alloc (.cells #[.string (bs nm), .int .i64 u0, .int .i64 u1, .int .i64 u2, .int .i64 C] 76)) w6 := (Kept.refl _ _).grown g6 fun k hk _ => hk)
        | (at_lookup; refine wpL_get _ rfl _ _ 133 rfl 9 76 strK Try.underlying133 (zeroUse _) bm _ rfl hMr _ nm rfl keyNm _ hval ?_))
      all_goals go_wp2
      all_goals go_roundw
      all_goals first
        | (refine ⟨k + 1, ao', cap', by omega, by go_num, rfl, ?_⟩; exact HAll.out ao' cap' w6 r6 k6 fr)
        | (simp [intOf]; omega)
    · have hkn : k = g.NN.length := by omega
      subst hkn
      have hr := HRo.out
      rw [List.take_length] at hr
      go_wp2
      go_ret
      exact ⟨oo, oc, rfl, hr, HRf.out, hbw⟩

end Go.Proofs.Ytchddaafibjmgaa
