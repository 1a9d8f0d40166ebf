/-
  The program's DropNode, walked.
  What lies in a block behind an alloc or a call.
-/
import Derived.Test.YtchddaafibjmgaaQPTick
namespace Go.Proofs.Ytchddaafibjmgaa
open Go.RowKit Go.Maps

/-- The pods without those of a node that are no longer to come. -/
def Gh.shed (g : Gh) (k : Bytes) (todo : Bytes → Bool) : Gh := { g with PP := g.PP.filter fun p => !(p.2.2.node == k && !todo p.1) }
/-- Without a node, and its pods. -/
def Gh.dropN (g : Gh) (k : Bytes) : Gh :=
  let g1 := ({ g with PP := g.PP.filter fun p => !(p.2.2.node == k) } : Gh).forget k
  { g1 with FF := delL g1.FF k, NN := delL g1.NN k }

section
variable {F : Nat → Prop} {w w' : World} {Y : Nat} {hd : Head} {g : Gh}

theorem BMem.setShed (H : BMem F w Y hd g) {PP : List (Bytes × (Nat × LiesV))} (hsub : PP.Sublist g.PP) (hk : Kept (fun x => x = g.bp) w w') (hm : MapAt Try.prog w' 9 g.bp (mapV (fun x => ptrV x.1) PP)) : BMem F w' Y hd { g with PP := PP } :=
  H.setP hk hm (fun p hp => ((H.pp p (hsub.subset hp)).kept hk (H.off (by simp [Gh.maps]) _) ((H.pp p (hsub.subset hp)).off (H.off (by simp [Gh.maps]) _)) (fun _ h => h))) (List.Nodup.sublist (hsub.map _) H.ppd)

theorem shed_start (H : BMem F w Y hd g) (k : Bytes) : g.shed k (fun x => (getL (mapV (fun x => ptrV x.1) g.PP) x).isSome) = g := by
  unfold Gh.shed
  have : (g.PP.filter fun p => !(p.2.2.node == k && !(getL (mapV (fun x => ptrV x.1) g.PP) p.1).isSome)) = g.PP := by
    rw [List.filter_eq_self]
    intro p hp
    rw [getL_mapV, getL_of_mem H.sortP.distinct (k := p.1) (v := p.2) hp]
    simp
  rw [this]

theorem shed_end {k : Bytes} {todo : Bytes → Bool} (h : ∀ x, todo x = false) : g.shed k todo = { g with PP := g.PP.filter fun p => !(p.2.2.node == k) } := by
  unfold Gh.shed
  simp [h]

theorem shed_skip {k o : Bytes} {todo : Bytes → Bool} {x : Nat × LiesV} (hs : g.PP.Pairwise fun p q => p.1 ≠ q.1) (hx : getL g.PP o = some x) (hn : (x.2.node == k) = false) : g.shed k (fun z => todo z && !(z == o)) = g.shed k todo := by
  unfold Gh.shed
  have : (g.PP.filter fun p => !(p.2.2.node == k && !(todo p.1 && !(p.1 == o)))) = g.PP.filter fun p => !(p.2.2.node == k && !todo p.1) := by
    apply List.filter_congr
    intro p hp
    by_cases e : p.1 = o
    · have h1 := getL_of_mem hs (k := p.1) (v := p.2) hp
      rw [e, hx] at h1
      rw [← Option.some.inj h1, hn]
      rfl
    · have : (p.1 == o) = false := by simpa using e
      rw [this]
      simp
  rw [this]

theorem shed_step {k o : Bytes} {todo : Bytes → Bool} {x : Nat × LiesV} (hs : g.PP.Pairwise fun p q => p.1 ≠ q.1) (hx : getL g.PP o = some x) (hn : (x.2.node == k) = true) : delL (g.shed k todo).PP o = (g.shed k (fun z => todo z && !(z == o))).PP := by
  unfold Gh.shed delL
  dsimp only
  rw [List.filter_filter]
  apply List.filter_congr
  intro p hp
  by_cases e : p.1 = o
  · have h1 := getL_of_mem hs (k := p.1) (v := p.2) hp
    rw [e, hx] at h1
    rw [← Option.some.inj h1, hn, e]
    simp
  · have : (p.1 == o) = false := by simpa using e
    rw [this]
    simp

theorem shed_get {k o : Bytes} {todo : Bytes → Bool} {x : Nat × LiesV} (hs : g.PP.Pairwise fun p q => p.1 ≠ q.1) (h : getL (g.shed k todo).PP o = some x) : getL g.PP o = some x := getL_of_mem hs ((List.mem_filter.1 (getL_mem h)).1)

/-- Behind DropNode. -/
def Gh.DropNTo (g : Gh) (k : Bytes) (e : Int) (g' : Gh) : Prop := (getL g.NN k = none ∧ e = 4 ∧ g' = g) ∨ ((getL g.NN k).isSome = true ∧ e = 0 ∧ g' = g.dropN k)

set_option maxRecDepth 100000 in
set_option maxHeartbeats 1000000 in
theorem dropN_some (H : BMem F w Y hd g) (s : ByteArray) (hs : s.size ≤ maxLen) (h0 : (getL g.NN (ky s)).isSome = true) :
    Calls Try.prog 47 #[.pointer (some ⟨Y, 0, none⟩), .string s] w fun e w' => e = .returned (.int .i64 0) ∧ BMem F w' Y hd (g.dropN (ky s)) ∧ Kept F w w' := by
  have hY := H.lt Y H.fy
  have c1 := hasNode_any H s hs
  rw [h0] at c1
  have HF : Hid (∀ b, F b → b < w.heap.size) := H.lt
  have HdP : Hid (g.PP.Pairwise fun p q => p.1 ≠ q.1) := H.sortP.distinct
  have c2 := fun W g1 (H1 : BMem F W Y hd g1) => forget_any H1 s hs
  have Hfp : Hid (F g.bp) := H.fm _ (by simp [Gh.maps])
  have Hff : Hid (F g.bf) := H.fm _ (by simp [Gh.maps])
  have Hfn : Hid (F g.bn) := H.fm _ (by simp [Gh.maps])
  have Hfl : Hid (∀ b, g.lore b → F b) := fun b h => H.loreF h
  have HH : Hid (BMem F w Y hd g) := H
  go_enter Try.func47, Try.ntmps47
  go_wp2_with (first
    | (go_at_call 59; refine c1.mono ?_; rintro e w1 ⟨rfl, hb1⟩; have H1 := H.below hb1; have hx1 := H1.cP)
    | (at_range; refine wpL_range _ rfl _ 105 rfl 9 117 strK Try.underlying105 g.bp _ rfl H1.pd ?_; intro w2 hr2 hb2 hs2))
  have H2 := H1.below hb2
  rw [← shed_start H (ky s)] at H2
  have hr2' : RngAt Try.prog w2 9 g.bp w1.heap.size (mapV (fun x => ptrV x.1) (g.shed (ky s) (fun x => (getL (mapV (fun x => ptrV x.1) g.PP) x).isSome)).PP) (fun x => (getL (mapV (fun x => ptrV x.1) g.PP) x).isSome) := by rw [shed_start H]; exact hr2
  have K2 : Hid (Kept F w w2) := Kept.of_below (below_trans hb1 hb2)
  have hle : w.heap.size ≤ w1.heap.size := hb1.size
  generalize hrr : w1.heap.size = r at hr2' hle ⊢
  clear hr2 hs2 hb2 hx1 H1 hrr hb1 c1
  go_frame
  go_loopw [5] (fun _ wr => ∃ todo, RngAt Try.prog wr 9 g.bp r (mapV (fun x => ptrV x.1) (g.shed (ky s) todo).PP) todo ∧ BMem F wr Y hd (g.shed (ky s) todo) ∧ Kept F w wr) (fun _ wr => wr.rangeLeft g.bp r)
  case atStart => exact ⟨_, hr2', H2, K2.out⟩
  case round =>
    clear H2 K2 hr2' H
    obtain ⟨todo, hrg, hB, hK⟩ := hrel
    have HK : Hid (Kept F w wr) := hK
    have HB : Hid (BMem F wr Y hd (g.shed (ky s) todo)) := hB
    clear hK hB
    go_wp2_with (at_next; refine wpL_next _ rfl _ rfl 9 strK Value.string (fun q : Nat => Value.pointer (some ⟨q, 0, none⟩)) g.bp r _ todo (fun _ _ => strInv) (fun _ v h => ptrInv h) rfl hrg ?_ ?_)
    · intro hl0
      have hB := HB.out
      rw [shed_end hl0] at hB
      go_wp2_with (first
        | (go_at_call 60; refine (c2 _ _ hB).mono ?_; rintro e w5 ⟨rfl, H5, hk5⟩; have hx5 := H5.cF; have m5 := H5.fr)
        | (at_delete; refine wpL_drop _ rfl _ _ 106 9 rfl 153 strK Try.underlying106 g.bf _ rfl m5 _ (ky s) rfl (keyS s hs) ?_; intro w6 hm6 ht6 _; rw [delL_mapV] at hm6; have hk6 := Kept.turned ht6; have H6 := H5.setF hk6 hm6; have hx6 := H6.cN; have m6 := H6.nd)
        | (at_delete; refine wpL_drop _ rfl _ _ 104 9 rfl 130 strK Try.underlying104 g.bn _ rfl m6 _ (ky s) rfl (keyS s hs) ?_; intro w7 hm7 ht7 _; rw [delL_mapV] at hm7; have hk7 := Kept.turned ht7; have H7 := H6.setN hk7 hm7 (fun p hp => ((H6.nn p (mem_delL.1 hp).1).kept hk7 (H6.off (by simp [Gh.maps, Gh.forget]) _) (fun _ h => h)))))
      go_ret
      exact ⟨rfl, H7, ((HK.out.trans hk5 fun i _ h => Hfl.out i h).trans hk6 fun i _ e => by rw [e]; exact Hff.out).trans hk7 fun i _ e => by rw [e]; exact Hfn.out⟩
    · intro x c kb w3 hkey htd hget hrg3 hlt3 hk3 hs3 hen
      obtain ⟨e3, hkl⟩ := keyS_inv hkey
      simp only [Value.string.injEq] at e3
      obtain ⟨y, rfl⟩ : ∃ y, kb = ky y := ⟨bs kb, (ky_bs kb).symm⟩
      rw [bs_ky] at e3
      subst e3
      have hys : x.size ≤ maxLen := by rw [← ky_length]; exact hkl
      obtain ⟨z, hz, hzc⟩ : ∃ z, getL (g.shed (ky s) todo).PP (ky x) = some z ∧ z.1 = c := by
        rw [getL_mapV] at hget
        cases hgn : getL (g.shed (ky s) todo).PP (ky x) with
        | none => rw [hgn] at hget; cases hget
        | some z => rw [hgn] at hget; simp [ptrV] at hget; exact ⟨z, rfl, hget⟩
      subst hzc
      have hrF : ¬ F r := fun h => by have := HF.out _ h; omega
      have hB3 := HB.out.kept hk3 (fun b hb e => hrF (by rw [← e]; exact hb)) (fun _ h => h) (fun b hb => Nat.lt_of_lt_of_le (HB.out.lt b hb) hk3.size)
      have HK3 : Hid (Kept F w w3) := HK.out.trans hk3 (fun i hi e => by omega)
      have Hlt : Hid (w3.rangeLeft g.bp r < wr.rangeLeft g.bp r) := hlt3
      obtain ⟨-, -, -, -, pc6, -, -, -⟩ := (hB3.getP hz).2.cells
      have Hz : Hid (getL g.PP (ky x) = some z) := shed_get HdP.out hz
      have HB3 : Hid (BMem F w3 Y hd (g.shed (ky s) todo)) := hB3
      have Hrg3 : Hid (RngAt Try.prog w3 9 g.bp r (mapV (fun x => ptrV x.1) (g.shed (ky s) todo).PP) fun k => todo k && !(k == ky x)) := hrg3
      have hx3 := hB3.cP
      have m3 := hB3.pd
      have htl : (bs z.2.node).toList = z.2.node := toList_bs _
      have hsl : s.toList = ky s := toList_ky s
      clear hz hget htd hkey hkl hlt3 hk3 hs3 hrg hB3 hrg3 HB
      cases hE : (z.2.node == ky s)
      · have HS : Hid (g.shed (ky s) (fun k => todo k && !(k == ky x)) = g.shed (ky s) todo) := shed_skip HdP.out Hz.out hE
        have hE' : ((bs z.2.node).toList == s.toList) = false := by rw [htl, hsl]; exact hE
        clear hE htl hsl
        go_wp2
        go_roundw
        case rel => exact ⟨_, by rw [HS.out]; exact Hrg3.out, by rw [HS.out]; exact HB3.out, HK3.out⟩
        case measure => exact Hlt.out
      · have HS : Hid (delL (g.shed (ky s) todo).PP (ky x) = (g.shed (ky s) (fun k => todo k && !(k == ky x))).PP) := shed_step HdP.out Hz.out hE
        have hE' : ((bs z.2.node).toList == s.toList) = true := by rw [htl, hsl]; exact hE
        clear hE htl hsl
        go_wp2_with (at_delete; refine wpL_drop _ rfl _ _ 105 9 rfl 117 strK Try.underlying105 g.bp _ rfl m3 _ (ky x) rfl (keyS x hys) ?_; intro w4 hm4 ht4 hs4; rw [delL_mapV, HS.out] at hm4; have hk4 := Kept.turned ht4; go_frame)
        have hB4 := HB3.out.setShed (by rw [← HS.out]; exact List.filter_sublist) hk4 hm4
        obtain ⟨hrg4, hle4⟩ := Hrg3.out.shrunk hs4 hm4 (hk4.block r Hrg3.out.lt (fun e => hrF (by rw [e]; exact Hfp.out)))
        have hfun : (fun k => (todo k && !(k == ky x)) && (getL (mapV (fun x => ptrV x.1) (g.shed (ky s) (fun k => todo k && !(k == ky x))).PP) k).isSome) = fun k => todo k && !(k == ky x) := by
          funext k
          cases hk : (todo k && !(k == ky x))
          · rfl
          · have h1 := Hrg3.out.there (x := k) hk
            have hne : k ≠ ky x := by intro e; simp [e] at hk
            rw [← HS.out, getL_mapV, getL_delL_other _ hne, ← getL_mapV, h1]
            rfl
        rw [hfun] at hrg4
        go_roundw
        case rel => exact ⟨_, hrg4, hB4, HK3.out.trans hk4 fun i _ e => by rw [e]; exact Hfp.out⟩
        case measure => exact Nat.lt_of_le_of_lt hle4 Hlt.out

set_option maxRecDepth 100000 in
set_option maxHeartbeats 400000 in
theorem dropN_none (H : BMem F w Y hd g) (s : ByteArray) (hs : s.size ≤ maxLen) (h0 : getL g.NN (ky s) = none) :
    Calls Try.prog 47 #[.pointer (some ⟨Y, 0, none⟩), .string s] w fun e w' => e = .returned (.int .i64 4) ∧ Below w.heap.size w w' := by
  have c1 := hasNode_any H s hs
  rw [h0] at c1
  go_enter Try.func47, Try.ntmps47
  go_wp2_with (go_at_call 59; refine c1.mono ?_; rintro e w1 ⟨rfl, hb1⟩)
  go_ret
  exact ⟨rfl, hb1⟩

theorem pDropNode_any (H : BMem F w Y hd g) (s : ByteArray) (hs : s.size ≤ maxLen) :
    Calls Try.prog 47 #[.pointer (some ⟨Y, 0, none⟩), .string s] w fun e w' => ∃ r g', e = .returned (.int .i64 r) ∧ BMem F w' Y hd g' ∧ Kept F w w' ∧ g.DropNTo (ky s) r g' := by
  cases h0 : getL g.NN (ky s) with
  | none => exact (dropN_none H s hs h0).mono fun e w' h => ⟨4, g, h.1, H.below h.2, Kept.of_below h.2, .inl ⟨h0, rfl, rfl⟩⟩
  | some x => exact (dropN_some H s hs (by rw [h0]; rfl)).mono fun e w' h => ⟨0, _, h.1, h.2.1, h.2.2, .inr ⟨by rw [h0]; rfl, rfl, rfl⟩⟩

end

end Go.Proofs.Ytchddaafibjmgaa

namespace Go.Proofs.Ytchddaafibjmgaa
open Go.RowKit Go.Maps

theorem at_new {w : World} {o : Obj} {k : Nat} (h : k = w.heap.size) : (w.alloc o).heap[k]? = some o := by rw [h]; exact block_alloc_new _ _
theorem at_old {w : World} {o x : Obj} {k : Nat} (hx : w.heap[k]? = some x) : (w.alloc o).heap[k]? = some x := by rw [Below.heap_alloc _ _ _ (lt_of_block hx)]; exact hx
theorem at_call {w w' : World} {x : Obj} {k : Nat} (hb : Below w.heap.size w w') (hx : w.heap[k]? = some x) : w'.heap[k]? = some x := by rw [hb.block k (lt_of_block hx)]; exact hx

end Go.Proofs.Ytchddaafibjmgaa
