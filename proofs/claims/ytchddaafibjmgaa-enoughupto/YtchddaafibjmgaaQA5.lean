/-
  The program's forget, walked: the view of a node goes, and the answers of its neighbours.
  The program's changed, walked; the blocks that come.
-/
import Derived.Test.YtchddaafibjmgaaQA4
import Derived.DeepKeys5
namespace Go.Proofs.Ytchddaafibjmgaa
open Go.RowKit Go.Maps

theorem kindK : Keyed Try.prog 152 := Keyed.of_law (deep_law_gate (by kernel_rfl) (Nat.le_of_ble_eq_true (by kernel_rfl)) (Nat.le_of_ble_eq_true (by kernel_rfl)) (by kernel_rfl) (by kernel_rfl))

theorem strInv {key : Value} {kl : Lit} (h : keyOf Try.prog 9 key = some kl) : ∃ x, key = .string x := by
  have hu := Try.underlying9
  cases key <;> simp [keyOf, hu, mapKey] at h
  exact ⟨_, rfl⟩

/-- The answers without those that f strikes. -/
def strike (f : Bytes → Bytes → Bool) (AA : List (Bytes × (Nat × List (Bytes × (Int × Int))))) : List (Bytes × (Nat × List (Bytes × (Int × Int)))) := AA.map fun p => (p.1, (p.2.1, p.2.2.filter fun q => !f p.1 q.1))

/-- What is left when a node changes. -/
def Gh.forget (g : Gh) (k : Bytes) : Gh := { g with VV := delL g.VV k, AA := strike (fun _ x => (getL g.NN x).isSome && nbrB g.nodes k x) g.AA }

theorem strike_none {f : Bytes → Bytes → Bool} (h : ∀ k x, f k x = false) (AA : List (Bytes × (Nat × List (Bytes × (Int × Int))))) : strike f AA = AA := by
  unfold strike
  have : ∀ p ∈ AA, (p.1, (p.2.1, p.2.2.filter fun q => !f p.1 q.1)) = p := fun p _ => by simp [h, List.filter_eq_self.2]
  exact (List.map_congr_left this).trans (List.map_id _)

theorem strike_congr {f f' : Bytes → Bytes → Bool} (h : ∀ k x, f k x = f' k x) (AA : List (Bytes × (Nat × List (Bytes × (Int × Int))))) : strike f AA = strike f' AA := by
  have : f = f' := funext fun k => funext fun x => h k x
  rw [this]

theorem strike_congr_mem {f f' : Bytes → Bytes → Bool} (AA : List (Bytes × (Nat × List (Bytes × (Int × Int))))) (h : ∀ p ∈ AA, ∀ x, f p.1 x = f' p.1 x) : strike f AA = strike f' AA := by
  unfold strike
  apply List.map_congr_left
  intro p hp
  simp only [Prod.mk.injEq, true_and]
  apply List.filter_congr
  intro q _
  rw [h p hp]

theorem strike_keys (f : Bytes → Bytes → Bool) (AA : List (Bytes × (Nat × List (Bytes × (Int × Int))))) : (strike f AA).map (·.1) = AA.map (·.1) := by simp [strike]
theorem strike_blocks (f : Bytes → Bytes → Bool) (AA : List (Bytes × (Nat × List (Bytes × (Int × Int))))) : (strike f AA).map (·.2.1) = AA.map (·.2.1) := by simp [strike]
theorem strike_raw (f : Bytes → Bytes → Bool) (AA : List (Bytes × (Nat × List (Bytes × (Int × Int))))) : mapV (fun x => Value.map (some x.1)) (strike f AA) = mapV (fun x => Value.map (some x.1)) AA := by simp [strike, mapV]

/-- One key of one kind more is struck. -/
theorem strike_step (f : Bytes → Bytes → Bool) (AA : List (Bytes × (Nat × List (Bytes × (Int × Int))))) {k o : Bytes} {x : Nat × List (Bytes × (Int × Int))} (hx : (k, x) ∈ strike f AA) (hs : AA.Pairwise fun p q => p.1 ≠ q.1) :
    setInner (strike f AA) k (delL x.2 o) = strike (fun k' y => f k' y || (k' == k && y == o)) AA := by
  have hs' : (strike f AA).Pairwise fun p q => p.1 ≠ q.1 := by
    unfold strike
    rw [List.pairwise_map]
    exact hs
  unfold setInner
  apply List.ext_getElem
  · simp [strike]
  intro i h1 h2
  simp only [List.getElem_map, strike]
  have hi : i < AA.length := by simpa [strike] using h1
  have he : AA[i].1 = k → x.2 = AA[i].2.2.filter fun q => !f AA[i].1 q.1 := fun e => by
    have m : (AA[i].1, (AA[i].2.1, AA[i].2.2.filter fun q => !f AA[i].1 q.1)) ∈ strike f AA := List.mem_map.2 ⟨AA[i], List.getElem_mem hi, rfl⟩
    have g1 := getL_of_mem hs' m
    rw [e, getL_of_mem hs' hx] at g1
    rw [Option.some.inj g1, e]
  by_cases e : AA[i].1 = k
  · rw [if_pos (by simpa using e)]
    simp only [Prod.mk.injEq, true_and]
    rw [he e]
    unfold delL
    rw [List.filter_filter]
    apply List.filter_congr
    intro q _
    simp only [e, beq_self_eq_true, Bool.true_and, Bool.not_or]
    rw [Bool.and_comm]
  · rw [if_neg (by simpa using e)]
    simp only [Prod.mk.injEq, true_and]
    apply List.filter_congr
    intro q _
    have : (AA[i].1 == k) = false := by simpa using e
    rw [this]
    simp

/-- Under way: the nodes of 'todo' are still to come. -/
def Gh.forgot (g : Gh) (k : Bytes) (todo : Bytes → Bool) : Gh := { g with VV := delL g.VV k, AA := strike (fun _ x => (getL g.NN x).isSome && !todo x && nbrB g.nodes k x) g.AA }
/-- .. and of one node, the kinds of 'todo2'. -/
def Gh.forgot2 (g : Gh) (k o : Bytes) (todo todo2 : Bytes → Bool) : Gh :=
  { g with VV := delL g.VV k, AA := strike (fun k' x => ((getL g.NN x).isSome && !todo x && nbrB g.nodes k x) || ((getL g.AA k').isSome && !todo2 k' && x == o)) g.AA }

section
variable {F : Nat → Prop} {w : World} {Y : Nat} {hd : Head} {g : Gh}

theorem BMem.distA (H : BMem F w Y hd g) : g.AA.Pairwise fun p q => p.1 ≠ q.1 := (sortedL_mapV.1 (H.an.sorted kindK)).distinct
theorem BMem.sortN (H : BMem F w Y hd g) : SortedL g.NN := sortedL_mapV.1 (H.nd.sorted strK)
theorem BMem.sortP (H : BMem F w Y hd g) : SortedL g.PP := sortedL_mapV.1 (H.pd.sorted strK)
theorem BMem.sortV (H : BMem F w Y hd g) : SortedL g.VV := sortedL_mapV.1 (H.vw.sorted strK)
theorem BMem.sortF (H : BMem F w Y hd g) : SortedL g.FF := sortedL_mapV.1 (H.fr.sorted strK)

theorem forgot_start (g : Gh) (k : Bytes) : g.forgot k (fun x => (getL (mapV (·.1) g.NN) x).isSome) = { g with VV := delL g.VV k } := by
  unfold Gh.forgot
  rw [strike_none]
  intro k' x
  simp only [getL_mapV]
  cases getL g.NN x <;> simp

theorem forgot_end {g : Gh} {k : Bytes} {todo : Bytes → Bool} (h : ∀ x, todo x = false) : g.forgot k todo = g.forget k := by
  unfold Gh.forgot Gh.forget
  rw [strike_congr fun _ x => ?_]
  simp [h]

theorem forgot_skip {g : Gh} {k o : Bytes} {todo : Bytes → Bool} (h : nbrB g.nodes k o = false) : g.forgot k (fun z => todo z && !(z == o)) = g.forgot k todo := by
  unfold Gh.forgot
  rw [strike_congr fun _ x => ?_]
  by_cases e : x = o
  · subst e
    simp [h]
  · have : (x == o) = false := by simpa using e
    simp [this]

theorem forgot2_start {g : Gh} {k o : Bytes} {todo : Bytes → Bool} : g.forgot2 k o todo (fun x => (getL (mapV (fun x => Value.map (some x.1)) (g.forgot k todo).AA) x).isSome) = g.forgot k todo := by
  unfold Gh.forgot2 Gh.forgot
  dsimp only
  rw [strike_congr fun k' x => ?_]
  rw [getL_mapV]
  have : (getL (strike (fun _ x => (getL g.NN x).isSome && !todo x && nbrB g.nodes k x) g.AA) k').isSome = (getL g.AA k').isSome := by
    have hr := congrArg (fun l => (getL l k').isSome) (strike_raw (fun _ x => (getL g.NN x).isSome && !todo x && nbrB g.nodes k x) g.AA)
    simpa only [getL_mapV, Option.isSome_map] using hr
  simp only [Option.isSome_map, this]
  cases (getL g.AA k').isSome <;> simp

theorem forgot2_end {g : Gh} {k o : Bytes} {todo todo2 : Bytes → Bool} (h : ∀ x, todo2 x = false) (ho : (getL g.NN o).isSome = true) (hn : nbrB g.nodes k o = true) : g.forgot2 k o todo todo2 = g.forgot k (fun z => todo z && !(z == o)) := by
  unfold Gh.forgot2 Gh.forgot
  rw [strike_congr_mem _ fun p hp x => ?_]
  have hA : (getL g.AA p.1).isSome = true := by
    cases hg : getL g.AA p.1
    · exact absurd rfl (getL_none.1 hg p hp)
    · rfl
  rw [hA, h]
  by_cases e : x = o
  · subst e
    simp [ho, hn]
  · have : (x == o) = false := by simpa using e
    simp [this]

theorem forgot2_step {g : Gh} {k o kb : Bytes} {todo todo2 : Bytes → Bool} {x : Nat × List (Bytes × (Int × Int))} (hs : g.AA.Pairwise fun p q => p.1 ≠ q.1) (hx : (kb, x) ∈ (g.forgot2 k o todo todo2).AA) :
    { g.forgot2 k o todo todo2 with AA := setInner (g.forgot2 k o todo todo2).AA kb (delL x.2 o) } = g.forgot2 k o todo (fun z => todo2 z && !(z == kb)) := by
  unfold Gh.forgot2 at hx ⊢
  dsimp only at hx ⊢
  rw [strike_step _ _ hx hs, strike_congr fun k' y => ?_]
  have hA : (getL g.AA kb).isSome = true := by
    cases hg : getL g.AA kb
    · obtain ⟨q, hq, e⟩ := List.mem_map.1 hx
      have : q.1 = kb := congrArg Prod.fst e
      exact absurd this (getL_none.1 hg q hq)
    · rfl
  by_cases e : k' = kb
  · subst e
    rw [hA]
    simp
    cases (y == o) <;> simp
  · have : (k' == kb) = false := by simpa using e
    simp [this]

theorem rawMapInv {α : Type} {L : List (Bytes × (Nat × α))} {kb : Bytes} {v : Value} (h : getL (mapV (fun x => Value.map (some x.1)) L) kb = some v) : ∃ c, v = Value.map (some c) := by
  rw [getL_mapV] at h
  cases hg : getL L kb with
  | none => rw [hg] at h; cases h
  | some x => rw [hg] at h; exact ⟨x.1, (Option.some.inj h).symm⟩

/-- What forget may write. -/
def Gh.lore (g : Gh) (b : Nat) : Prop := b = g.bv ∨ b ∈ g.AA.map (·.2.1)

theorem BMem.loreF (H : BMem F w Y hd g) {b : Nat} (h : g.lore b) : F b := by
  rcases h with rfl | h
  · exact H.fm _ (by simp [Gh.maps])
  · exact H.fm _ (List.mem_append_right _ h)

set_option maxRecDepth 100000 in
set_option maxHeartbeats 1000000 in
theorem forget_any (H : BMem F w Y hd g) (s : ByteArray) (hs : s.size ≤ maxLen) :
    Calls Try.prog 60 #[.pointer (some ⟨Y, 0, none⟩), .string s] w fun e w' => e = .returned (.tuple #[]) ∧ BMem F w' Y hd (g.forget (ky s)) ∧ Kept g.lore w w' := by
  have hx := H.cV
  have HdA : Hid (g.AA.Pairwise fun p q => p.1 ≠ q.1) := H.distA
  have HF : Hid (∀ b, F b → b < w.heap.size) := H.lt
  have Hl : Hid (∀ b, g.lore b → F b) := fun b h => H.loreF h
  have Hnl : Hid (¬ g.lore g.bn) := by
    intro h
    rcases h with h | h
    · exact H.ne5.2.2.1 h
    · obtain ⟨p, hp, e⟩ := List.mem_map.1 h
      exact (H.neA hp).1 e
  go_enter Try.func60, Try.ntmps60
  go_wp2_with (first
    | (at_delete; refine wpL_drop _ rfl _ _ 107 9 rfl 158 strK Try.underlying107 g.bv _ rfl H.vw _ (ky s) rfl (keyS s hs) ?_; intro w1 hm1 ht1 _; rw [delL_mapV] at hm1; have hk1 := Kept.turned ht1; have H1 : BMem F w1 Y hd { g with VV := delL g.VV (ky s) } := H.setV hk1 hm1 (fun p hp => ((H.vv p (mem_delL.1 hp).1).kept hk1 (H.off (by simp [Gh.maps]) _) (fun _ h => h))); have hx1 := H1.cN)
    | (at_range; refine wpL_range _ rfl _ 104 rfl 9 130 strK Try.underlying104 g.bn _ rfl H1.nd ?_; intro w2 hr2 hb2 hs2))
  have K2 : Hid (Kept g.lore w w2) := (hk1.mono (fun i _ e => .inl e)).trans (Kept.of_below (F := noBlock) hb2) (fun _ _ h => h.elim)
  have H2 := H1.below hb2
  rw [← forgot_start] at H2
  have hr : w.heap.size ≤ w1.heap.size := hk1.size
  obtain ⟨r, hrr⟩ : ∃ r, r = w1.heap.size := ⟨_, rfl⟩
  rw [← hrr] at hr2 hr
  have HR : Hid (r = w1.heap.size) := hrr
  clear hs2 hb2 hx1 H1 hk1 ht1 hm1 hx
  rw [← hrr]
  clear hrr
  go_loopw [4] (fun _ wr => ∃ todo, RngAt Try.prog wr 9 g.bn r (mapV (·.1) g.NN) todo ∧ BMem F wr Y hd (g.forgot (ky s) todo) ∧ Kept g.lore w wr) (fun _ wr => wr.rangeLeft g.bn r)
  case atStart => exact ⟨_, hr2, H2, K2.out⟩
  case round =>
    obtain ⟨todo, hrg, hB, hK⟩ := hrel
    have HK : Hid (Kept g.lore w wr) := hK
    clear hK
    go_wp2_with (at_next; refine wpL_next _ rfl _ rfl 9 strK Value.string (fun v : Value => v) g.bn r _ todo (fun _ _ => strInv) (fun _ v _ => ⟨v, rfl⟩) rfl hrg ?_ ?_)
    · intro hl0
      rw [forgot_end hl0] at hB
      go_wp2
      go_end0
      exact ⟨rfl, hB, HK.out⟩
    · intro x c kb w3 hkey htd hget hrg3 hlt3 hk3 hs3 hen
      obtain ⟨e3, hkl⟩ := keyS_inv hkey
      simp only [Value.string.injEq] at e3
      obtain ⟨y, rfl⟩ : ∃ y, kb = ky y := ⟨bs kb, (ky_bs kb).symm⟩
      rw [bs_ky] at e3
      subst e3
      have hys : x.size ≤ maxLen := by rw [← ky_length]; exact hkl
      have HsN : Hid ((getL g.NN (ky x)).isSome = true) := by
        show (getL g.NN (ky x)).isSome = true
        rw [getL_mapV] at hget
        cases hgn : getL g.NN (ky x)
        · rw [hgn] at hget; cases hget
        · rfl
      have hB3 := hB.kept hk3 (fun b hb e => by have := HF.out b hb; omega) (fun _ h => h) (fun b hb => Nat.lt_of_lt_of_le (hB.lt b hb) hk3.size)
      have HK3 : Hid (Kept g.lore w w3) := HK.out.trans hk3 (fun i hi e => by omega)
      have Hlt : Hid (w3.rangeLeft g.bn r < wr.rangeLeft g.bn r) := hlt3
      clear hget htd hkey hkl hlt3 hk3 hs3 hrg hB
      have hx3 := hB3.cA
      have hY3 := hB3.lt Y hB3.fy
      have c1 := nbr_any hB3 s x hs hys
      cases hE : nbrB g.nodes (ky s) (ky x)
      · have HS : Hid (g.forgot (ky s) (fun z => todo z && !(z == ky x)) = g.forgot (ky s) todo) := forgot_skip hE
        rw [show nbrB (g.forgot (ky s) todo).nodes (ky s) (ky x) = false from hE] at c1
        clear hE
        go_wp2_with (go_at_call 72; refine c1.mono ?_; rintro e w4 ⟨rfl, hb4⟩)
        go_roundw
        case rel => exact ⟨_, hrg3.kept (Kept.of_below (F := noBlock) hb4) id id, by rw [HS.out]; exact hB3.below hb4, HK3.out.trans (Kept.of_below (F := noBlock) hb4) (fun _ _ h => h.elim)⟩
        case measure => rw [rangeLeft_kept hrg3 (Kept.of_below (F := noBlock) hb4) id id]; exact Hlt.out
      · have HE : Hid (nbrB g.nodes (ky s) (ky x) = true) := hE
        rw [show nbrB (g.forgot (ky s) todo).nodes (ky s) (ky x) = true from hE] at c1
        clear hE
        go_wp2_with (first
          | (go_at_call 72; refine c1.mono ?_; rintro e w4 ⟨rfl, hb4⟩; have hB4 := hB3.below hb4; have hx4 := hB4.cA)
          | (at_range; refine wpL_range _ rfl _ 108 rfl 152 140 kindK Try.underlying108 g.ba _ rfl hB4.an ?_; intro w5 hr5 hb5 hs5))
        have hraw : mapV (fun x => Value.map (some x.1)) (g.forgot (ky s) todo).AA = mapV (fun x => Value.map (some x.1)) g.AA := by unfold Gh.forgot; dsimp only; exact strike_raw (fun _ y => (getL g.NN y).isSome && !todo y && nbrB g.nodes (ky s) y) g.AA
        have hB5 := hB4.below hb5
        rw [← forgot2_start (o := ky x), hraw] at hB5
        rw [hraw] at hr5
        have hb45 := below_trans hb4 hb5
        have hrg5 := hrg3.kept (Kept.of_below (F := noBlock) hb45) id id
        have hK5 := HK3.out.trans (Kept.of_below (F := noBlock) hb45) (fun _ _ h => h.elim)
        have hlt5 : w5.rangeLeft g.bn r < wr.rangeLeft g.bn r := by rw [rangeLeft_kept hrg3 (Kept.of_below (F := noBlock) hb45) id id]; exact Hlt.out
        obtain ⟨q, hqq⟩ : ∃ q, q = w4.heap.size := ⟨_, rfl⟩
        have hq1 : w.heap.size ≤ q := by have := HK3.out.size; have := hb4.size; omega
        have hq2 : r < q := by have := hrg3.lt; have := hb4.size; omega
        rw [← hqq] at hr5
        rw [← hqq]
        have HR5 : Hid (RngAt Try.prog w5 152 g.ba q (mapV (fun x => Value.map (some x.1)) g.AA) fun x => (getL (mapV (fun x => Value.map (some x.1)) g.AA) x).isSome) := hr5
        have HRN : Hid (RngAt Try.prog w5 9 g.bn r (mapV (·.1) g.NN) (fun z => todo z && !(z == ky x))) := hrg5
        have HB5 : Hid (BMem F w5 Y hd (g.forgot2 (ky s) (ky x) todo fun x => (getL (mapV (fun x => Value.map (some x.1)) g.AA) x).isSome)) := hB5
        have HK5 : Hid (Kept g.lore w w5) := hK5
        have HL5 : Hid (w5.rangeLeft g.bn r < wr.rangeLeft g.bn r) := hlt5
        clear hr5 hrg5 hB5 hK5 hlt5 hqq hb45 hraw hs5 hb5 hx4 hB4 hb4 hY3 hx3 hB3 hrg3 hen
        go_frame
        go_loopw [6] (fun _ wi => ∃ todo2, RngAt Try.prog wi 152 g.ba q (mapV (fun x => Value.map (some x.1)) g.AA) todo2 ∧ RngAt Try.prog wi 9 g.bn r (mapV (·.1) g.NN) (fun z => todo z && !(z == ky x)) ∧ BMem F wi Y hd (g.forgot2 (ky s) (ky x) todo todo2) ∧
          Kept g.lore w wi ∧ wi.rangeLeft g.bn r < wr.rangeLeft g.bn r) (fun _ wi => wi.rangeLeft g.ba q)
        case atStart => exact ⟨_, HR5.out, HRN.out, HB5.out, HK5.out, HL5.out⟩
        case round =>
          clear HR5 HRN HB5 HK5 HL5
          obtain ⟨todo2, hrgA, hrgN, hBi, hKi, hLi⟩ := hrel
          have HKi : Hid (Kept g.lore w wr) := hKi
          have HLi : Hid (_ < _) := hLi
          clear hKi hLi
          go_wp2_with (at_next; refine wpL_next _ rfl _ rfl 152 kindK (fun v : Value => v) (fun b : Nat => Value.map (some b)) g.ba q _ todo2 (fun key _ _ => ⟨key, rfl⟩) (fun kb v h => rawMapInv h) rfl hrgA ?_ ?_)
          · intro hl0
            rw [forgot2_end hl0 HsN.out HE.out] at hBi
            go_wp2
            go_roundw
            case rel => exact ⟨_, hrgN, hBi, HKi.out⟩
            case measure => exact HLi.out
          · intro key bm kb2 w6 hkey2 htd2 hget2 hrg6 hlt6 hk6 hs6 hen6
            have hF6 : ∀ b, F b → b ≠ q := fun b hb => by have := HF.out b hb; omega
            have hB6 := hBi.kept hk6 (fun b hb e => hF6 b hb e) (fun _ h => h) (fun b hb => Nat.lt_of_lt_of_le (hBi.lt b hb) hk6.size)
            have hN6 := hrgN.kept hk6 (hF6 _ (hBi.fm g.bn (by simp [Gh.maps, Gh.forgot2]))) (by omega)
            have hL6 := rangeLeft_kept hrgN hk6 (hF6 _ (hBi.fm g.bn (by simp [Gh.maps, Gh.forgot2]))) (by omega)
            have hK6 := HKi.out.trans hk6 (fun i hi e => by omega)
            have hL6' := HLi.out
            rw [← hL6] at hL6'
            obtain ⟨x2, hx2, hx2b⟩ : ∃ x2, (kb2, x2) ∈ (g.forgot2 (ky s) (ky x) todo todo2).AA ∧ x2.1 = bm := by
              have : getL (mapV (fun x => Value.map (some x.1)) (g.forgot2 (ky s) (ky x) todo todo2).AA) kb2 = some (Value.map (some bm)) := by
                unfold Gh.forgot2
                rw [strike_raw]
                exact hget2
              rw [getL_mapV] at this
              cases hg : getL (g.forgot2 (ky s) (ky x) todo todo2).AA kb2 with
              | none => rw [hg] at this; cases this
              | some x2 =>
                rw [hg] at this
                simp only [Option.map_some, Option.some.injEq, Value.map.injEq] at this
                exact ⟨x2, getL_mem hg, this⟩
            subst hx2b
            have hdA : (g.forgot2 (ky s) (ky x) todo todo2).AA.Pairwise fun p q => p.1 ≠ q.1 := hB6.distA
            have hFx : F x2.1 := hB6.fm _ (hB6.inA hx2)
            have hlx : g.lore x2.1 := .inr (by
              have h1 : x2.1 ∈ (g.forgot2 (ky s) (ky x) todo todo2).AA.map (·.2.1) := List.mem_map.2 ⟨_, hx2, rfl⟩
              unfold Gh.forgot2 at h1
              rw [strike_blocks] at h1
              exact h1)
            have hnx := hB6.neA hx2
            have hqx := hF6 _ hFx
            have hrx : x2.1 ≠ r := by have := HF.out _ hFx; omega
            have hI := hB6.aa _ hx2
            have Hm6 : Hid (wr.rangeLeft g.ba q > w6.rangeLeft g.ba q) := hlt6
            have HS : Hid (_ = _) := forgot2_step HdA.out hx2
            clear hget2 htd2 hkey2 hs6 hlt6 hBi hrgA hrgN hk6 hL6
            go_wp2_with (at_delete; refine wpL_drop _ rfl _ _ 140 9 rfl 143 strK Try.underlying140 x2.1 _ rfl hI _ (ky x) rfl (keyS x hys) ?_; intro w7 hm7 ht7 _; rw [delL_mapV] at hm7; have hk7 := Kept.turned ht7; go_frame)
            have hB7 := hB6.setI hx2 hdA hk7 hm7
            rw [HS.out] at hB7
            go_roundw
            case rel => exact ⟨_, hrg6.kept hk7 (Ne.symm hnx.2.2.2.2) (Ne.symm hqx), hN6.kept hk7 (Ne.symm hnx.1) (Ne.symm hrx), hB7, hK6.trans hk7 (fun i _ e => by rw [e]; exact hlx), by rw [rangeLeft_kept hN6 hk7 (Ne.symm hnx.1) (Ne.symm hrx)]; exact hL6'⟩
            case measure => rw [rangeLeft_kept hrg6 hk7 (Ne.symm hnx.2.2.2.2) (Ne.symm hqx)]; exact Hm6.out

end

end Go.Proofs.Ytchddaafibjmgaa

namespace Go.Proofs.Ytchddaafibjmgaa
open Go.RowKit Go.Maps

theorem insL_perm {α : Type} (x : Bytes × α) : ∀ L : List (Bytes × α), (insL x L).Perm (x :: L)
  | [] => List.Perm.refl _
  | y :: r => by
    unfold insL
    split
    · exact List.Perm.refl _
    · exact ((insL_perm x r).cons y).trans (List.Perm.swap _ _ _)

theorem nodup_putL {α β : Type} {f : Bytes × α → β} {L : List (Bytes × α)} {k : Bytes} {v : α} (h : (L.map f).Nodup) (hn : ∀ p ∈ L, f p ≠ f (k, v)) : ((putL L k v).map f).Nodup := by
  unfold putL
  rw [((insL_perm (k, v) (delL L k)).map f).nodup_iff, List.map_cons, List.nodup_cons]
  refine ⟨fun hm => ?_, List.Nodup.sublist (List.Sublist.map f List.filter_sublist) h⟩
  obtain ⟨p, hp, e⟩ := List.mem_map.1 hm
  exact hn p (mem_delL.1 hp).1 e

theorem nodup_delL {α β : Type} {f : Bytes × α → β} {L : List (Bytes × α)} (k : Bytes) (h : (L.map f).Nodup) : ((delL L k).map f).Nodup := List.Nodup.sublist (List.Sublist.map f List.filter_sublist) h

section
variable {F : Nat → Prop} {w w' w'' : World} {Y : Nat} {hd : Head} {g : Gh}

theorem BMem.grows (H : BMem F w Y hd g) (hb : Below w.heap.size w w') : BMem (grow F w w') w' Y hd g :=
  H.kept (Kept.of_below (F := noBlock) hb) (fun _ _ => id) (fun _ h => .inl h) fun b hf => hf.elim (fun h => Nat.lt_of_lt_of_le (H.lt b h) hb.size) (fun h => h.2)

theorem BMem.more (H : BMem F w Y hd g) {F' : Nat → Prop} (hF : ∀ b, F b → F' b) (hl : ∀ b, F' b → b < w.heap.size) : BMem F' w Y hd g := H.kept (Kept.refl noBlock w) (fun _ _ => id) hF hl

theorem grow_trans {b : Nat} (h : grow (grow F w w') w' w'' b) (h1 : w.heap.size ≤ w'.heap.size) (h2 : w'.heap.size ≤ w''.heap.size) : grow F w w'' b := by
  rcases h with (h | ⟨h3, h4⟩) | ⟨h3, h4⟩
  · exact .inl h
  · exact .inr ⟨h3, by omega⟩
  · exact .inr ⟨by omega, h4⟩

/-- What is left when a node has changed. -/
def Gh.changed (g : Gh) (k : Bytes) : Gh := ({ g with FF := putL g.FF k () } : Gh).forget k

set_option maxRecDepth 100000 in
set_option maxHeartbeats 400000 in
theorem changed_any (H : BMem F w Y hd g) (s : ByteArray) (hs : s.size ≤ maxLen) (hF : g.FF.length < 100000) :
    Calls Try.prog 62 #[.pointer (some ⟨Y, 0, none⟩), .string s] w fun e w' => e = .returned (.tuple #[]) ∧ BMem F w' Y hd (g.changed (ky s)) ∧ Kept (fun b => b = g.bf ∨ g.lore b) w w' := by
  have hx := H.cF
  have hl : (mapV (fun _ : Unit => Value.agg #[]) g.FF).length < maxLen := by rw [mapV_length]; unfold maxLen; omega
  have c1 := fun w1 (H1 : BMem F w1 Y hd { g with FF := putL g.FF (ky s) () }) => forget_any H1 s hs
  go_enter Try.func62, Try.ntmps62
  go_wp2_with (first
    | (at_mapUpdate; refine wpL_store _ rfl _ _ _ 106 rfl 9 153 strK Try.underlying106 g.bf _ rfl H.fr hl _ _ (ky s) rfl rfl (keyS s hs) ?_; intro w1 hm1 ht1; have hm1' : MapAt Try.prog w1 9 g.bf (mapV (fun _ => .agg #[]) (putL g.FF (ky s) ())) := by { rw [← putL_mapV]; exact hm1 }; have hk1 := Kept.turned ht1; have H1 := H.setF hk1 hm1')
    | (go_at_call 60; refine (c1 w1 H1).mono ?_; rintro e w2 ⟨rfl, H2, hk2⟩))
  go_end0
  exact ⟨rfl, H2, (hk1.mono (fun i _ e => .inl e)).trans hk2 (fun i _ h => .inr h)⟩

end

end Go.Proofs.Ytchddaafibjmgaa
