/-
  The program's anyNear, hasNear and hasApart, walked.
-/
import Derived.Test.YtchddaafibjmgaaQPJudge2
namespace Go.Proofs.Ytchddaafibjmgaa
open Go.RowKit Go.Maps

/-- The pods of a node, by rising names. -/
def podsAt (g : Gh) (k : Bytes) : List (Nat × LiesV) := (g.PP.filter fun p => p.2.2.node == k).map (·.2)

/-- What the pods of a node use. -/
def usedOf : List (Bytes × LiesV) → Bytes → Int × Int × Int
  | [], _ => (0, 0, 0)
  | p :: r, k => if p.2.node == k then ((usedOf r k).1 + p.2.n0, (usedOf r k).2.1 + p.2.n1, (usedOf r k).2.2 + p.2.n2) else usedOf r k

/-- A view is right. -/
structure ViewOk (g : Gh) (k : Bytes) (v : ViewG) : Prop where
  ptrs : v.ptrs = (podsAt g k).map (·.1)
  used : (v.u0, v.u1, v.u2) = usedOf g.pods k

/-- There is a view of each node, and it is right. -/
def Full (g : Gh) : Prop := ∀ p ∈ g.NN, ∃ v, getL g.VV p.1 = some v ∧ ViewOk g p.1 v

/-- A pod on a neighbour is as f asks. -/
def nearAny (g : Gh) (k : Bytes) (f : Nat × LiesV → Bool) : Bool := g.NN.any fun p => nbrB g.nodes k p.1 && (podsAt g p.1).any f

theorem zeroView (w : World) : (zeroValue 158).run Try.prog w = .ok (.agg #[.int .i64 0, .int .i64 0, .int .i64 0, .slice none 0 0]) w := by kernel_rfl

theorem fieldV1 (u0 u1 u2 : Int) (ao : Option Addr) (n cap : Nat) (w : World) : (Instr.field 158 (.agg #[.int .i64 u0, .int .i64 u1, .int .i64 u2, .slice ao n cap]) 1).run Try.prog w = .ok (.slice ao n cap) w := by kernel_rfl
theorem fieldV0 (u0 u1 u2 : Int) (ao : Option Addr) (n cap : Nat) (w : World) : (Instr.field 158 (.agg #[.int .i64 u0, .int .i64 u1, .int .i64 u2, .slice ao n cap]) 0).run Try.prog w = .ok (.agg #[.int .i64 u0, .int .i64 u1, .int .i64 u2]) w := by kernel_rfl
theorem fieldN0 (u0 u1 u2 : Int) (ao ap : Option Addr) (n cap m cap' : Nat) (w : World) : (Instr.field 130 (.agg #[.int .i64 u0, .int .i64 u1, .int .i64 u2, .slice ao n cap, .slice ap m cap']) 0).run Try.prog w = .ok (.agg #[.int .i64 u0, .int .i64 u1, .int .i64 u2]) w := by kernel_rfl

section
variable {F : Nat → Prop} {w : World} {Y : Nat} {hd : Head} {g : Gh}

/-- What a look-up of a view gives. -/
theorem BMem.lookV (H : BMem F w Y hd g) (hfull : Full g) (s : ByteArray) (hs : s.size ≤ maxLen) (hN : (getL g.NN (ky s)).isSome = true) : ∃ u0 u1 u2 ao cap, (u0, u1, u2) = usedOf g.pods (ky s) ∧ w.ownsRow 0 117 1 (.slice ao (podsAt g (ky s)).length cap) (podsAt g (ky s)).length ((podsAt g (ky s)).map fun p => ptrV p.1) ∧
    ∀ w1, Below w.heap.size w w1 → (Instr.lookup 107 (.map (some g.bv)) (.string s) false).run Try.prog w1 = .ok (.agg #[.int .i64 u0, .int .i64 u1, .int .i64 u2, .slice ao (podsAt g (ky s)).length cap]) w1 := by
  obtain ⟨x, hx⟩ := Option.isSome_iff_exists.1 hN
  obtain ⟨v, hv, hok⟩ := hfull _ (getL_mem hx)
  dsimp only at hv hok
  have hr := (H.vv _ (getL_mem hv)).1
  dsimp only at hr
  rw [hok.ptrs, List.length_map, List.map_map] at hr
  obtain ⟨ao, cap, hrow⟩ := slice_of_own hr
  rw [hrow] at hr
  refine ⟨v.u0, v.u1, v.u2, ao, cap, hok.used, hr, fun w1 hb => ?_⟩
  have := (H.below hb).vw.look strK Try.underlying107 (zeroView w1) (keyS s hs)
  rw [this, getL_mapV, hv]
  show Result.ok (ViewG.val v) w1 = _
  rw [ViewG.val, hrow]

theorem podsAt_sub {k : Bytes} {p : Nat × LiesV} (h : p ∈ podsAt g k) : ∃ q ∈ g.PP, q.2 = p := by
  obtain ⟨q, hq, e⟩ := List.mem_map.1 h
  exact ⟨q, (List.mem_filter.1 hq).1, e⟩

theorem podsAt_length (k : Bytes) : (podsAt g k).length ≤ g.PP.length := by
  unfold podsAt
  rw [List.length_map]
  exact List.length_filter_le _ _

theorem below_turn {w w1 w2 : World} {r : Nat} (hb : Below w.heap.size w w1) (hk : Kept (fun i => i = r) w1 w2) (hr : w.heap.size ≤ r) : Below w.heap.size w w2 := hb.trans (hk.below hb.size fun i hi e => by omega)

set_option maxRecDepth 100000 in
set_option maxHeartbeats 1000000 in
theorem anyNearNear (H : BMem F w Y hd g) (hfull : Full g) (hP : g.PP.length ≤ 100000) (s : ByteArray) (hs : s.size ≤ maxLen) (f : Nat × LiesV → Bool) (cb : Nat)
    (hc : ∀ W, Below w.heap.size w W → ∀ p ∈ g.PP, Calls Try.prog 105 #[.pointer (some ⟨p.2.1, 0, none⟩), .pointer (some ⟨cb, 0, none⟩)] W fun e w' => e = .returned (.bool (f p.2)) ∧ Below W.heap.size W w') :
    Calls Try.prog 104 #[.pointer (some ⟨Y, 0, none⟩), .string s, .func (.func 105) #[] #[.pointer (some ⟨cb, 0, none⟩)]] w fun e w' => e = .returned (.bool (nearAny g (ky s) f)) ∧ Below w.heap.size w w' := by
  have hx := H.cN
  have HH : Hid (BMem F w Y hd g) := H
  have Hfull : Hid (Full g) := hfull
  have Hc : Hid (∀ W, Below w.heap.size w W → ∀ p ∈ g.PP, Calls Try.prog 105 #[.pointer (some ⟨p.2.1, 0, none⟩), .pointer (some ⟨cb, 0, none⟩)] W fun e w' => e = .returned (.bool (f p.2)) ∧ Below W.heap.size W w') := hc
  clear hc hfull
  go_enter Try.func104, Try.ntmps104
  go_wp2_with (at_range; refine wpL_range _ rfl _ 104 rfl 9 130 strK Try.underlying104 g.bn _ rfl H.nd ?_; intro w2 hr2 hb2 hs2)
  clear hs2 hx H
  go_frame
  go_loopw [7] (fun _ wr => ∃ todo, RngAt Try.prog wr 9 g.bn w.heap.size (mapV (·.1) g.NN) todo ∧ Below w.heap.size w wr ∧ ∀ p ∈ g.NN, todo p.1 = false → (nbrB g.nodes (ky s) p.1 && (podsAt g p.1).any f) = false) (fun _ wr => wr.rangeLeft g.bn w.heap.size)
  case atStart =>
    refine ⟨_, hr2, hb2, fun p hp h => ?_⟩
    rw [getL_mapV, getL_of_mem HH.out.sortN.distinct (k := p.1) (v := p.2) hp] at h
    cases h
  case round =>
    clear hr2 hb2
    obtain ⟨todo, hrg, hbw, hno⟩ := hrel
    have Hno : Hid (∀ p ∈ g.NN, todo p.1 = false → (nbrB g.nodes (ky s) p.1 && (podsAt g p.1).any f) = false) := hno
    clear hno
    go_wp2_with (at_next; refine wpL_next _ rfl _ rfl 9 strK Value.string (fun v : Value => v) g.bn w.heap.size _ todo (fun _ _ => strInv) (fun _ v _ => ⟨v, rfl⟩) rfl hrg ?_ ?_)
    · intro hl0
      have HE : Hid (nearAny g (ky s) f = false) := by
        show nearAny g (ky s) f = false
        unfold nearAny
        rw [List.any_eq_false]
        intro p hp
        rw [Hno.out p hp (hl0 _)]
        simp
      go_wp2
      go_ret
      exact ⟨by rw [HE.out]; rfl, hbw⟩
    · intro x c kb w3 hkey htd hget hrg3 hlt3 hk3 hs3 hen
      obtain ⟨e3, hkl⟩ := keyS_inv hkey
      simp only [Value.string.injEq] at e3
      obtain ⟨y, rfl⟩ : ∃ y, kb = ky y := ⟨bs kb, (ky_bs kb).symm⟩
      rw [bs_ky] at e3
      subst e3
      have hys : x.size ≤ maxLen := by rw [← ky_length]; exact hkl
      have hsN : (getL g.NN (ky x)).isSome = true := by
        rw [getL_mapV] at hget
        cases hgn : getL g.NN (ky x)
        · rw [hgn] at hget; cases hget
        · rfl
      have hb3 : Below w.heap.size w w3 := below_turn hbw hk3 (Nat.le_refl _)
      have hB3 := HH.out.below hb3
      have Hlt : Hid (w3.rangeLeft g.bn w.heap.size < wr.rangeLeft g.bn w.heap.size) := hlt3
      have hY3 := hB3.lt Y hB3.fy
      have hx3 := hB3.cV
      have c1 := nbr_any hB3 s x hs hys
      have fl := fieldV1
      obtain ⟨u0, u1, u2, ao, cap, -, hrow, lk⟩ := hB3.lookV Hfull.out x hys hsN
      have Hskip : Hid ((nbrB g.nodes (ky s) (ky x) && (podsAt g (ky x)).any f) = false → ∀ p ∈ g.NN, (todo p.1 && !(p.1 == ky x)) = false → (nbrB g.nodes (ky s) p.1 && (podsAt g p.1).any f) = false) := fun h p hp ht => by
        by_cases e : p.1 = ky x
        · rw [e]; exact h
        · refine Hno.out p hp ?_
          have : (p.1 == ky x) = false := by simpa using e
          rw [this] at ht
          simpa using ht
      have HsN : Hid ((getL g.NN (ky x)).isSome = true) := hsN
      clear hget htd hkey hkl hlt3 hk3 hs3 hrg hB3 hsN
      cases hE : nbrB g.nodes (ky s) (ky x)
      · rw [hE] at c1
        have HS := Hskip.out (by rw [hE]; rfl)
        have HS' : Hid (∀ p ∈ g.NN, (todo p.1 && !(p.1 == ky x)) = false → (nbrB g.nodes (ky s) p.1 && (podsAt g p.1).any f) = false) := HS
        clear HS hE Hskip
        go_wp2_with (go_at_call 72; refine c1.mono ?_; rintro e w4 ⟨rfl, hb4⟩)
        go_roundw
        case rel => exact ⟨_, hrg3.kept (Kept.of_below (F := noBlock) hb4) id id, below_trans hb3 hb4, HS'.out⟩
        case measure => rw [rangeLeft_kept hrg3 (Kept.of_below (F := noBlock) hb4) id id]; exact Hlt.out
      · rw [hE] at c1
        have c2 := fun W (hb : Below w3.heap.size w3 W) => containsNear (w := W) (podsAt g (ky x)) f ao cap cb (Nat.le_trans (podsAt_length _) hP) ((Kept.of_below (F := noBlock) hb).ownsRow hrow fun _ _ => id) fun W' hb' p hp => by
          obtain ⟨q, hq, rfl⟩ := podsAt_sub hp
          exact Hc.out W' (below_trans hb3 (below_trans hb hb')) q hq
        cases hA : (podsAt g (ky x)).any f
        · rw [hA] at c2
          have HS := Hskip.out (by rw [hE, hA]; rfl)
          have HS' : Hid (∀ p ∈ g.NN, (todo p.1 && !(p.1 == ky x)) = false → (nbrB g.nodes (ky s) p.1 && (podsAt g p.1).any f) = false) := HS
          clear HS hE hA Hskip
          go_wp2_with (first
            | (go_at_call 72; refine c1.mono ?_; rintro e w4 ⟨rfl, hb4⟩; have y4 := fun o => hb4.cell (p := ⟨Y, o, none⟩) hY3; have lk4 := lk w4 hb4)
            | (go_at_call 102; refine (c2 w4 hb4).mono ?_; rintro e w5 ⟨rfl, hb5⟩))
          have hb45 := below_trans hb4 hb5
          go_roundw
          case rel => exact ⟨_, hrg3.kept (Kept.of_below (F := noBlock) hb45) id id, below_trans hb3 hb45, HS'.out⟩
          case measure => rw [rangeLeft_kept hrg3 (Kept.of_below (F := noBlock) hb45) id id]; exact Hlt.out
        · rw [hA] at c2
          have HE : Hid (nearAny g (ky s) f = true) := by
            show nearAny g (ky s) f = true
            obtain ⟨z, hz⟩ := Option.isSome_iff_exists.1 HsN.out
            unfold nearAny
            rw [List.any_eq_true]
            exact ⟨_, getL_mem hz, by dsimp only; rw [hE, hA]; rfl⟩
          clear hE hA Hskip
          go_wp2_with (first
            | (go_at_call 72; refine c1.mono ?_; rintro e w4 ⟨rfl, hb4⟩; have y4 := fun o => hb4.cell (p := ⟨Y, o, none⟩) hY3; have lk4 := lk w4 hb4)
            | (go_at_call 102; refine (c2 w4 hb4).mono ?_; rintro e w5 ⟨rfl, hb5⟩))
          go_ret
          exact ⟨by rw [HE.out]; rfl, below_trans hb3 (below_trans hb4 hb5)⟩

set_option maxRecDepth 100000 in
set_option maxHeartbeats 1000000 in
theorem anyNearApart (H : BMem F w Y hd g) (hfull : Full g) (hP : g.PP.length ≤ 100000) (s : ByteArray) (hs : s.size ≤ maxLen) (f : Nat × LiesV → Bool) (cb : Nat)
    (hc : ∀ W, Below w.heap.size w W → ∀ p ∈ g.PP, Calls Try.prog 106 #[.pointer (some ⟨p.2.1, 0, none⟩), .pointer (some ⟨cb, 0, none⟩)] W fun e w' => e = .returned (.bool (f p.2)) ∧ Below W.heap.size W w') :
    Calls Try.prog 104 #[.pointer (some ⟨Y, 0, none⟩), .string s, .func (.func 106) #[] #[.pointer (some ⟨cb, 0, none⟩)]] w fun e w' => e = .returned (.bool (nearAny g (ky s) f)) ∧ Below w.heap.size w w' := by
  have hx := H.cN
  have HH : Hid (BMem F w Y hd g) := H
  have Hfull : Hid (Full g) := hfull
  have Hc : Hid (∀ W, Below w.heap.size w W → ∀ p ∈ g.PP, Calls Try.prog 106 #[.pointer (some ⟨p.2.1, 0, none⟩), .pointer (some ⟨cb, 0, none⟩)] W fun e w' => e = .returned (.bool (f p.2)) ∧ Below W.heap.size W w') := hc
  clear hc hfull
  go_enter Try.func104, Try.ntmps104
  go_wp2_with (at_range; refine wpL_range _ rfl _ 104 rfl 9 130 strK Try.underlying104 g.bn _ rfl H.nd ?_; intro w2 hr2 hb2 hs2)
  clear hs2 hx H
  go_frame
  go_loopw [7] (fun _ wr => ∃ todo, RngAt Try.prog wr 9 g.bn w.heap.size (mapV (·.1) g.NN) todo ∧ Below w.heap.size w wr ∧ ∀ p ∈ g.NN, todo p.1 = false → (nbrB g.nodes (ky s) p.1 && (podsAt g p.1).any f) = false) (fun _ wr => wr.rangeLeft g.bn w.heap.size)
  case atStart =>
    refine ⟨_, hr2, hb2, fun p hp h => ?_⟩
    rw [getL_mapV, getL_of_mem HH.out.sortN.distinct (k := p.1) (v := p.2) hp] at h
    cases h
  case round =>
    clear hr2 hb2
    obtain ⟨todo, hrg, hbw, hno⟩ := hrel
    have Hno : Hid (∀ p ∈ g.NN, todo p.1 = false → (nbrB g.nodes (ky s) p.1 && (podsAt g p.1).any f) = false) := hno
    clear hno
    go_wp2_with (at_next; refine wpL_next _ rfl _ rfl 9 strK Value.string (fun v : Value => v) g.bn w.heap.size _ todo (fun _ _ => strInv) (fun _ v _ => ⟨v, rfl⟩) rfl hrg ?_ ?_)
    · intro hl0
      have HE : Hid (nearAny g (ky s) f = false) := by
        show nearAny g (ky s) f = false
        unfold nearAny
        rw [List.any_eq_false]
        intro p hp
        rw [Hno.out p hp (hl0 _)]
        simp
      go_wp2
      go_ret
      exact ⟨by rw [HE.out]; rfl, hbw⟩
    · intro x c kb w3 hkey htd hget hrg3 hlt3 hk3 hs3 hen
      obtain ⟨e3, hkl⟩ := keyS_inv hkey
      simp only [Value.string.injEq] at e3
      obtain ⟨y, rfl⟩ : ∃ y, kb = ky y := ⟨bs kb, (ky_bs kb).symm⟩
      rw [bs_ky] at e3
      subst e3
      have hys : x.size ≤ maxLen := by rw [← ky_length]; exact hkl
      have hsN : (getL g.NN (ky x)).isSome = true := by
        rw [getL_mapV] at hget
        cases hgn : getL g.NN (ky x)
        · rw [hgn] at hget; cases hget
        · rfl
      have hb3 : Below w.heap.size w w3 := below_turn hbw hk3 (Nat.le_refl _)
      have hB3 := HH.out.below hb3
      have Hlt : Hid (w3.rangeLeft g.bn w.heap.size < wr.rangeLeft g.bn w.heap.size) := hlt3
      have hY3 := hB3.lt Y hB3.fy
      have hx3 := hB3.cV
      have c1 := nbr_any hB3 s x hs hys
      have fl := fieldV1
      obtain ⟨u0, u1, u2, ao, cap, -, hrow, lk⟩ := hB3.lookV Hfull.out x hys hsN
      have Hskip : Hid ((nbrB g.nodes (ky s) (ky x) && (podsAt g (ky x)).any f) = false → ∀ p ∈ g.NN, (todo p.1 && !(p.1 == ky x)) = false → (nbrB g.nodes (ky s) p.1 && (podsAt g p.1).any f) = false) := fun h p hp ht => by
        by_cases e : p.1 = ky x
        · rw [e]; exact h
        · refine Hno.out p hp ?_
          have : (p.1 == ky x) = false := by simpa using e
          rw [this] at ht
          simpa using ht
      have HsN : Hid ((getL g.NN (ky x)).isSome = true) := hsN
      clear hget htd hkey hkl hlt3 hk3 hs3 hrg hB3 hsN
      cases hE : nbrB g.nodes (ky s) (ky x)
      · rw [hE] at c1
        have HS := Hskip.out (by rw [hE]; rfl)
        have HS' : Hid (∀ p ∈ g.NN, (todo p.1 && !(p.1 == ky x)) = false → (nbrB g.nodes (ky s) p.1 && (podsAt g p.1).any f) = false) := HS
        clear HS hE Hskip
        go_wp2_with (go_at_call 72; refine c1.mono ?_; rintro e w4 ⟨rfl, hb4⟩)
        go_roundw
        case rel => exact ⟨_, hrg3.kept (Kept.of_below (F := noBlock) hb4) id id, below_trans hb3 hb4, HS'.out⟩
        case measure => rw [rangeLeft_kept hrg3 (Kept.of_below (F := noBlock) hb4) id id]; exact Hlt.out
      · rw [hE] at c1
        have c2 := fun W (hb : Below w3.heap.size w3 W) => containsApart (w := W) (podsAt g (ky x)) f ao cap cb (Nat.le_trans (podsAt_length _) hP) ((Kept.of_below (F := noBlock) hb).ownsRow hrow fun _ _ => id) fun W' hb' p hp => by
          obtain ⟨q, hq, rfl⟩ := podsAt_sub hp
          exact Hc.out W' (below_trans hb3 (below_trans hb hb')) q hq
        cases hA : (podsAt g (ky x)).any f
        · rw [hA] at c2
          have HS := Hskip.out (by rw [hE, hA]; rfl)
          have HS' : Hid (∀ p ∈ g.NN, (todo p.1 && !(p.1 == ky x)) = false → (nbrB g.nodes (ky s) p.1 && (podsAt g p.1).any f) = false) := HS
          clear HS hE hA Hskip
          go_wp2_with (first
            | (go_at_call 72; refine c1.mono ?_; rintro e w4 ⟨rfl, hb4⟩; have y4 := fun o => hb4.cell (p := ⟨Y, o, none⟩) hY3; have lk4 := lk w4 hb4)
            | (go_at_call 102; refine (c2 w4 hb4).mono ?_; rintro e w5 ⟨rfl, hb5⟩))
          have hb45 := below_trans hb4 hb5
          go_roundw
          case rel => exact ⟨_, hrg3.kept (Kept.of_below (F := noBlock) hb45) id id, below_trans hb3 hb45, HS'.out⟩
          case measure => rw [rangeLeft_kept hrg3 (Kept.of_below (F := noBlock) hb45) id id]; exact Hlt.out
        · rw [hA] at c2
          have HE : Hid (nearAny g (ky s) f = true) := by
            show nearAny g (ky s) f = true
            obtain ⟨z, hz⟩ := Option.isSome_iff_exists.1 HsN.out
            unfold nearAny
            rw [List.any_eq_true]
            exact ⟨_, getL_mem hz, by dsimp only; rw [hE, hA]; rfl⟩
          clear hE hA Hskip
          go_wp2_with (first
            | (go_at_call 72; refine c1.mono ?_; rintro e w4 ⟨rfl, hb4⟩; have y4 := fun o => hb4.cell (p := ⟨Y, o, none⟩) hY3; have lk4 := lk w4 hb4)
            | (go_at_call 102; refine (c2 w4 hb4).mono ?_; rintro e w5 ⟨rfl, hb5⟩))
          go_ret
          exact ⟨by rw [HE.out]; rfl, below_trans hb3 (below_trans hb4 hb5)⟩

set_option maxRecDepth 100000 in
set_option maxHeartbeats 400000 in
theorem hasNear_any (H : BMem F w Y hd g) (hfull : Full g) (hP : g.PP.length ≤ 100000) (s : ByteArray) (hs : s.size ≤ maxLen) (p : PodD) (hok : p.ok w) :
    Calls Try.prog 88 #[.pointer (some ⟨Y, 0, none⟩), .string s, .agg p.cells] w fun e w' => e = .returned (.bool (nearAny g (ky s) fun q => labFits p.near.L q.2.labels)) ∧ Below w.heap.size w w' := by
  have hW0 : Below w.heap.size w (w.alloc (.cells #[.string p.name, .int .i64 p.n0, .int .i64 p.n1, .int .i64 p.n2, .int .i64 p.port, .slice p.labels.a p.labels.L.length p.labels.cap, .slice p.select.a p.select.L.length p.select.cap, .slice p.bears.a p.bears.L.length p.bears.cap, .slice p.near.a p.near.L.length p.near.cap, .slice p.apart.a p.apart.L.length p.apart.cap] 33)) := below_alloc _ _
  have hbx : BoxAt (w.alloc (.cells #[.string p.name, .int .i64 p.n0, .int .i64 p.n1, .int .i64 p.n2, .int .i64 p.port, .slice p.labels.a p.labels.L.length p.labels.cap, .slice p.select.a p.select.L.length p.select.cap, .slice p.bears.a p.bears.L.length p.bears.cap, .slice p.near.a p.near.L.length p.near.cap, .slice p.apart.a p.apart.L.length p.apart.cap] 33)) w.heap.size p := block_alloc_new _ _
  have c1 := anyNearNear (H.below hW0) hfull hP s hs (fun q => labFits p.near.L q.2.labels) w.heap.size fun W hb q hq => cNear_any ((H.pp q hq).below (below_trans hW0 hb)) w.heap.size p (hbx.below hb) (hok.below (below_trans hW0 hb))
  have hmf : ∀ (fn : Fn) (first cap : Array Value) (w : World), (Instr.makeFunc fn first cap).run Try.prog w = .ok (.func fn first cap) w := fun _ _ _ _ => rfl
  unfold PodD.cells Lst.val
  go_enter Try.func88, Try.ntmps88
  go_wp2_with (go_at_call 104; refine c1.mono ?_; rintro e w1 ⟨rfl, hb1⟩)
  go_ret
  exact ⟨rfl, below_trans hW0 hb1⟩

set_option maxRecDepth 100000 in
set_option maxHeartbeats 400000 in
theorem hasApart_any (H : BMem F w Y hd g) (hfull : Full g) (hP : g.PP.length ≤ 100000) (s : ByteArray) (hs : s.size ≤ maxLen) (p : PodD) (hok : p.ok w) :
    Calls Try.prog 89 #[.pointer (some ⟨Y, 0, none⟩), .string s, .agg p.cells] w fun e w' => e = .returned (.bool (nearAny g (ky s) fun q => shunsB p.apart.L q.2.labels || shunsB q.2.apart p.labels.L)) ∧ Below w.heap.size w w' := by
  have hW0 : Below w.heap.size w (w.alloc (.cells #[.string p.name, .int .i64 p.n0, .int .i64 p.n1, .int .i64 p.n2, .int .i64 p.port, .slice p.labels.a p.labels.L.length p.labels.cap, .slice p.select.a p.select.L.length p.select.cap, .slice p.bears.a p.bears.L.length p.bears.cap, .slice p.near.a p.near.L.length p.near.cap, .slice p.apart.a p.apart.L.length p.apart.cap] 33)) := below_alloc _ _
  have hbx : BoxAt (w.alloc (.cells #[.string p.name, .int .i64 p.n0, .int .i64 p.n1, .int .i64 p.n2, .int .i64 p.port, .slice p.labels.a p.labels.L.length p.labels.cap, .slice p.select.a p.select.L.length p.select.cap, .slice p.bears.a p.bears.L.length p.bears.cap, .slice p.near.a p.near.L.length p.near.cap, .slice p.apart.a p.apart.L.length p.apart.cap] 33)) w.heap.size p := block_alloc_new _ _
  have c1 := anyNearApart (H.below hW0) hfull hP s hs (fun q => shunsB p.apart.L q.2.labels || shunsB q.2.apart p.labels.L) w.heap.size fun W hb q hq => cApart_any ((H.pp q hq).below (below_trans hW0 hb)) w.heap.size p (hbx.below hb) (hok.below (below_trans hW0 hb))
  have hmf : ∀ (fn : Fn) (first cap : Array Value) (w : World), (Instr.makeFunc fn first cap).run Try.prog w = .ok (.func fn first cap) w := fun _ _ _ _ => rfl
  unfold PodD.cells Lst.val
  go_enter Try.func89, Try.ntmps89
  go_wp2_with (go_at_call 104; refine c1.mono ?_; rintro e w1 ⟨rfl, hb1⟩)
  go_ret
  exact ⟨rfl, below_trans hW0 hb1⟩

end

end Go.Proofs.Ytchddaafibjmgaa
