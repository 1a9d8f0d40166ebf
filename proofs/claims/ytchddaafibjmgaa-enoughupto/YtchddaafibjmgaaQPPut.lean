/-
  The program's PutNode, walked.
-/
import Derived.Test.YtchddaafibjmgaaQPLay
namespace Go.Proofs.Ytchddaafibjmgaa
open Go.RowKit Go.Maps

/-- Lists stay while maps are written. -/
theorem LabsAt.maps {G : Nat → Prop} {w w' : World} {a : Option Addr} {L : List Lab} (h : LabsAt w a L) (hk : Kept G w w') (hG : ∀ b, G b → ∃ es c, w.heap[b]? = some (.map es c)) : LabsAt w' a L := by
  intro k hk'
  obtain ⟨b, off, e, h1, h2⟩ := h k hk'
  have hl := World.block_lt_of_cell? w _ h1
  have hn : ¬ G b := fun g => by
    obtain ⟨es, c, hm⟩ := hG b g
    simp [World.cell?, hm] at h1
  refine ⟨b, off, e, ?_, ?_⟩
  · rw [← h1]; exact hk.cell (p := ⟨b, off + k * 2, none⟩) hl hn
  · rw [← h2]; exact hk.cell (p := ⟨b, off + k * 2 + 1, none⟩) hl hn

theorem Lst.ok.maps {G : Nat → Prop} {w w' : World} {x : Lst} (h : x.ok w) (hk : Kept G w w') (hG : ∀ b, G b → ∃ es c, w.heap[b]? = some (.map es c)) : x.ok w' := ⟨h.1, h.2.1, h.2.2.1.maps hk hG, h.2.2.2⟩

theorem NodeD.good_facts {n : NodeD} (h : n.err = 0) : n.name.size ≤ 20 ∧ n.labels.L.length ≤ 8 ∧ n.taints.L.length ≤ 8 := by
  have hg : n.good = true := by
    unfold NodeD.err at h
    split at h
    · assumption
    · omega
  simp only [NodeD.good, nameB, NodeD.lists, List.all_cons, List.all_nil, listB, Bool.and_eq_true, decide_eq_true_eq] at hg
  exact ⟨hg.1.1.1.2, hg.2.1.1, hg.2.2.1.1⟩

theorem PodD.good_facts {p : PodD} (h : p.err = 0) : p.name.size ≤ 20 ∧ ∀ x ∈ p.lists, x.L.length ≤ 8 := by
  have hg : p.good = true := by
    unfold PodD.err at h
    split at h
    · assumption
    · omega
  simp only [PodD.good, nameB, Bool.and_eq_true, decide_eq_true_eq, List.all_eq_true, listB] at hg
  exact ⟨hg.1.1.1.1.1.2, fun x hx => (hg.2 x hx).1⟩

def NodeD.val (n : NodeD) : NodeV := ⟨n.r0, n.r1, n.r2, n.labels.L, n.taints.L⟩
def Gh.putRaw (g : Gh) (k : Bytes) (v : Value) (n : NodeV) : Gh := { g with NN := putL g.NN k (v, n) }

/-- What PutNode answers. -/
def Gh.putErr (g : Gh) (n : NodeD) : Int := if n.err ≠ 0 then n.err else if (getL g.NN (ky n.name)).isNone ∧ 32 ≤ g.NN.length then 6 else 0

/-- What is there behind PutNode. -/
def Gh.PutTo (g : Gh) (n : NodeD) (g' : Gh) : Prop := (g.putErr n ≠ 0 ∧ g' = g) ∨ (g.putErr n = 0 ∧ ∃ v, g' = (((g.forget (ky n.name)).putRaw (ky n.name) v n.val).changed (ky n.name)))

section
variable {F : Nat → Prop} {w : World} {Y : Nat} {hd : Head} {g : Gh}

theorem BMem.putTo (H : BMem F w Y hd g) {w2 w4 : World} {n : NodeV} {lv tv : Value} {k : Bytes} (hb : Below w.heap.size w w2) (hl : OwnList (fun b => w.heap.size ≤ b) w2 lv n.labels) (ha : OwnList (fun b => w.heap.size ≤ b) w2 tv n.taints)
    (hm : MapAt Try.prog w4 9 g.bn (putL (mapV (·.1) g.NN) k (.agg #[.int .i64 n.r0, .int .i64 n.r1, .int .i64 n.r2, lv, tv]))) (ht : w2.mapTurned w4 g.bn) :
    BMem (grow F w w4) w4 Y hd (g.putRaw k (.agg #[.int .i64 n.r0, .int .i64 n.r1, .int .i64 n.r2, lv, tv]) n) ∧ Kept (fun b => b = g.bn) w w4 := by
  have hk := Kept.turned ht
  have hz2 := hb.size
  have e1 : w2.heap.size = w4.heap.size := by
    obtain ⟨es, c, es', c', _, rfl⟩ := ht
    simp [ChangeMaps.setBlock]
  have H3 : BMem (grow F w w4) w2 Y hd g :=
    H.kept (Kept.of_below (F := noBlock) hb) (fun _ _ => id) (fun _ h => .inl h) fun b hf => hf.elim (fun h => Nat.lt_of_lt_of_le (H.lt b h) hb.size) (fun h => by rw [e1]; exact h.2)
  have own : ∀ {v : Value} {l : List Lab}, OwnList (fun b => w.heap.size ≤ b) w2 v l → OwnList (grow F w w4) w4 v l := fun {v l} h => by
    obtain ⟨b, cap, cur, e, h1, h2, h3⟩ := h
    have h' : OwnList (grow F w w4) w2 v l := ⟨b, cap, cur, e, .inr ⟨h1, by rw [← e1]; exact lt_of_block h2⟩, h2, h3⟩
    exact h'.kept hk (H3.off (by simp [Gh.maps]) _) (fun _ h => h)
  refine ⟨H3.setN hk (NN := putL g.NN k (.agg #[.int .i64 n.r0, .int .i64 n.r1, .int .i64 n.r2, lv, tv], n)) ?_ ?_, ?_⟩
  · rw [← putL_mapV]
    exact hm
  · intro p hp
    rcases mem_putL.1 hp with rfl | ⟨hp, _⟩
    · exact ⟨lv, tv, rfl, own hl, own ha⟩
    · exact (H3.nn p hp).kept hk (H3.off (by simp [Gh.maps]) _) (fun _ h => h)
  · exact (Kept.of_below hb).trans hk (fun i _ e => e)

theorem BMem.loreMap (H : BMem F w Y hd g) (b : Nat) (h : g.lore b) : ∃ es c, w.heap[b]? = some (.map es c) := by
  rcases h with rfl | h
  · exact H.isMap (by simp [Gh.maps])
  · exact H.isMap (List.mem_append_right _ h)

set_option maxRecDepth 100000 in
set_option maxHeartbeats 2000000 in
theorem putNode_old (H : BMem F w Y hd g) (n : NodeD) (hok : n.ok w) (hN : g.NN.length < 100000) (hF : g.FF.length < 100000) (h0 : n.err = 0) (hN0 : (getL g.NN (ky n.name)).isSome = true) :
    Calls Try.prog 43 #[.pointer (some ⟨Y, 0, none⟩), .agg n.cells] w fun e w' => ∃ g', e = .returned (.int .i64 (g.putErr n)) ∧ BMem (grow F w w') w' Y hd g' ∧ Kept F w w' ∧ g.PutTo n g' := by
  obtain ⟨hname, hlen1, hlen2⟩ := n.good_facts h0
  have hnm : n.name.size ≤ maxLen := by unfold maxLen; omega
  have HE : Hid (g.putErr n = 0) := by show g.putErr n = 0; simp [Gh.putErr, h0, Option.isSome_iff_ne_none.1 hN0]
  have hY := H.lt Y H.fy
  have hYn : Y ≠ g.bn := H.ny (by simp [Gh.maps])
  have hbn : g.bn < w.heap.size := H.lt _ (H.fm _ (by simp [Gh.maps]))
  have HnF : Hid (∀ b, g.lore b → b < w.heap.size) := fun b h => H.lt _ (H.loreF h)
  have hW0 : Below w.heap.size w (w.alloc (.cells #[.string n.name, .int .i64 n.r0, .int .i64 n.r1, .int .i64 n.r2, .slice n.labels.a n.labels.L.length n.labels.cap, .slice n.taints.a n.taints.L.length n.taints.cap] 42)) := below_alloc _ _
  have hz0 : w.heap.size < (w.alloc (.cells #[.string n.name, .int .i64 n.r0, .int .i64 n.r1, .int .i64 n.r2, .slice n.labels.a n.labels.L.length n.labels.cap, .slice n.taints.a n.taints.L.length n.taints.cap] 42)).heap.size := by simp
  have hzY : Y < (w.alloc (.cells #[.string n.name, .int .i64 n.r0, .int .i64 n.r1, .int .i64 n.r2, .slice n.labels.a n.labels.L.length n.labels.cap, .slice n.taints.a n.taints.L.length n.taints.cap] 42)).heap.size := by simp; omega
  have c1 := checkNode_any n (w.alloc (.cells #[.string n.name, .int .i64 n.r0, .int .i64 n.r1, .int .i64 n.r2, .slice n.labels.a n.labels.L.length n.labels.cap, .slice n.taints.a n.taints.L.length n.taints.cap] 42)) (hok.below hW0)
  rw [h0] at c1
  have c2 := fun W (hb : Below w.heap.size w W) => hasNode_any (H.below hb) n.name hnm
  rw [hN0] at c2
  have c3 := fun W (hb : Below w.heap.size w W) => forget_any (H.below hb) n.name hnm
  have k1 := fun W hok1 => copied_any n.labels W hok1 (by omega)
  have k2 := fun W hok1 => copied_any n.taints W hok1 (by omega)
  have k3 := fun (F' : Nat → Prop) W g' (hB : BMem F' W Y hd g') hF' => changed_any hB n.name hnm hF'
  have hst := fun W (hM : MapAt Try.prog W 9 g.bn (mapV (·.1) g.NN)) v => hM.store (val := v) strK Try.underlying104 (by rw [mapV_length]; unfold maxLen; omega) (keyS n.name hnm)
  have Hok : Hid (n.ok w) := hok
  unfold NodeD.cells Lst.val at c1
  unfold NodeD.cells Lst.val
  unfold Lst.val at k1 k2
  clear hok h0
  have Hh : Hid (BMem F w Y hd g) := H
  have hxw := H.cN
  go_enter Try.func43, Try.ntmps43
  go_wp2_with (first
    | (go_at_call 12; refine c1.mono ?_; rintro e w1 ⟨rfl, hb1⟩; have s1 := fun o => hb1.cell (p := ⟨w.heap.size, o, none⟩) hz0; have y1 := fun o => hb1.cell (p := ⟨Y, o, none⟩) hzY; have hW1 := below_trans hW0 hb1; have z1 : w.heap.size < w1.heap.size := Nat.lt_of_lt_of_le hz0 hb1.size; have zY1 : Y < w1.heap.size := Nat.lt_of_lt_of_le hzY hb1.size)
    | (go_at_call 59; refine (c2 w1 hW1).mono ?_; rintro e w2 ⟨rfl, hb2⟩; have s2 := fun o => hb2.cell (p := ⟨w.heap.size, o, none⟩) z1; have y2 := fun o => hb2.cell (p := ⟨Y, o, none⟩) zY1; have hW2 := below_trans hW1 hb2; have z2 : w.heap.size < w2.heap.size := Nat.lt_of_lt_of_le z1 hb2.size; have zY2 : Y < w2.heap.size := Nat.lt_of_lt_of_le zY1 hb2.size)
    | (go_at_call 60; refine (c3 w2 hW2).mono ?_; rintro e w3 ⟨rfl, H3, hk3⟩))
  have s3 := fun o => hk3.cell (p := ⟨w.heap.size, o, none⟩) z2 (fun h => by have := HnF.out _ h; dsimp only at this; omega)
  have y3 : w3.cell? ⟨Y, 4, none⟩ = some (.map (some g.bn)) := H3.cN
  have hok3 : ∀ x ∈ n.lists, x.ok w3 := fun x hx => ((Hok.out.2 x hx).below hW2).maps hk3 ((Hh.out.below hW2).loreMap)
  have Ho1 : Hid (∀ W, Below w3.heap.size w3 W → n.labels.ok W) := fun W hb => (hok3 _ (by simp [NodeD.lists])).below hb
  have Ho2 : Hid (∀ W, Below w3.heap.size w3 W → n.taints.ok W) := fun W hb => (hok3 _ (by simp [NodeD.lists])).below hb
  have z3 : w.heap.size < w3.drew.heap.size := Nat.lt_of_lt_of_le z2 hk3.size
  have zY3 : Y < w3.drew.heap.size := Nat.lt_of_lt_of_le zY2 hk3.size
  have hW3 : Below w3.heap.size w3 w3.drew := (Below.refl _ _).drew
  have hg3 : (g.forget (ky n.name)).bn = g.bn := rfl
  have hgN : (g.forget (ky n.name)).NN = g.NN := rfl
  have Hm3 : Hid (∀ W, Below w3.heap.size w3 W → MapAt Try.prog W 9 g.bn (mapV (·.1) g.NN)) := fun W hb => (H3.below hb).nd
  have HH3 : Hid (BMem F w3 Y hd (g.forget (ky n.name))) := H3
  have HK3 : Hid (Kept F w w3) := (Kept.of_below hW2).trans hk3 (fun i _ h => Hh.out.loreF h)
  clear H3 hok3 hk3
  go_region_held3 (fun w' => w'.cell? ⟨w.heap.size, 0, none⟩ = some (.string n.name) ∧ w'.cell? ⟨w.heap.size, 1, none⟩ = some (.int .i64 n.r0) ∧ w'.cell? ⟨w.heap.size, 2, none⟩ = some (.int .i64 n.r1) ∧ w'.cell? ⟨w.heap.size, 3, none⟩ = some (.int .i64 n.r2) ∧ w'.cell? ⟨w.heap.size, 4, none⟩ = some (.slice n.labels.a n.labels.L.length n.labels.cap) ∧ w'.cell? ⟨w.heap.size, 5, none⟩ = some (.slice n.taints.a n.taints.L.length n.taints.cap) ∧ w'.cell? ⟨Y, 4, none⟩ = some (.map (some g.bn))) (go_keep)
    (first
      | (go_at_call_of 61 (Value.slice n.labels.a n.labels.L.length n.labels.cap); refine (k1 _ (Ho1.out _ hW3)).mono ?_; rintro e w4 ⟨b1, cp1, rfl, hl1, ho1, hb4⟩; have s4 := fun o => hb4.cell (p := ⟨w.heap.size, o, none⟩) z3; have y4 := fun o => hb4.cell (p := ⟨Y, o, none⟩) zY3; have hW4 := below_trans hW3 hb4; have z4 : w.heap.size < w4.heap.size := Nat.lt_of_lt_of_le z3 hb4.size; have zY4 : Y < w4.heap.size := Nat.lt_of_lt_of_le zY3 hb4.size)
      | (go_at_call_of 61 (Value.slice n.taints.a n.taints.L.length n.taints.cap); refine (k2 w4 (Ho2.out _ hW4)).mono ?_; rintro e w5 ⟨b2, cp2, rfl, hl2, ho2, hb5⟩; have s5 := fun o => hb5.cell (p := ⟨w.heap.size, o, none⟩) z4; have y5 := fun o => hb5.cell (p := ⟨Y, o, none⟩) zY4; have hW5 := below_trans hW4 hb5; have z5 : w.heap.size < w5.heap.size := Nat.lt_of_lt_of_le z4 hb5.size; have zY5 : Y < w5.heap.size := Nat.lt_of_lt_of_le zY4 hb5.size; obtain ⟨w6, hst6, hm6, ht6⟩ := hst w5 (Hm3.out _ hW5) (.agg #[.int .i64 n.r0, .int .i64 n.r1, .int .i64 n.r2, .slice (some ⟨b1, 0, none⟩) n.labels.L.length cp1, .slice (some ⟨b2, 0, none⟩) n.taints.L.length cp2]); have hk6 := Kept.turned ht6; have s6 := fun o => hk6.cell (p := ⟨w.heap.size, o, none⟩) z5 (by dsimp only; omega); have y6 := fun o => hk6.cell (p := ⟨Y, o, none⟩) zY5 hYn))
  obtain ⟨hB6, hK6⟩ := HH3.out.putTo (n := n.val) (k := ky n.name) hW5 ((ho1.below hb5).mono fun b e => by rw [e]; exact hl1) (ho2.mono fun b e => by rw [e]; have := hb4.size; simp at this; omega) hm6 ht6
  have HB6 : Hid (BMem (grow F w3 w6) w6 Y hd ((g.forget (ky n.name)).putRaw (ky n.name) (.agg #[.int .i64 n.val.r0, .int .i64 n.val.r1, .int .i64 n.val.r2, .slice (some ⟨b1, 0, none⟩) n.labels.L.length cp1, .slice (some ⟨b2, 0, none⟩) n.taints.L.length cp2]) n.val)) := hB6
  have HK6 : Hid (Kept (fun b => b = g.bn) w3 w6) := hK6
  have hs6 := hK6.size
  have hs36 := HK3.out.size
  clear hB6 hK6 ht6 hm6 hst6 y6 y5 y4 ho1 ho2 hb4 hb5 k1 k2 hst
  go_wp2_with (go_at_call 62; refine (k3 _ _ _ HB6.out hF).mono ?_; rintro e w7 ⟨rfl, hB7, hK7⟩)
  go_ret
  have hs7 := hK7.size
  refine ⟨_, by rw [HE.out]; rfl, hB7.more (fun b h => h.elim .inl fun h => .inr ⟨by omega, by omega⟩) (fun b h => h.elim (fun h => by have := Hh.out.lt b h; omega) (fun h => h.2)), (HK3.out.trans HK6.out (fun i _ e => by rw [e]; exact Hh.out.fm _ (by simp [Gh.maps]))).trans hK7 (fun i _ h => ?_), .inr ⟨HE.out, _, rfl⟩⟩
  rcases h with h | h
  · rw [h]; exact Hh.out.fm _ (by simp [Gh.maps, Gh.putRaw, Gh.forget])
  · refine Hh.out.loreF (h.imp id fun h => ?_)
    unfold Gh.putRaw Gh.forget at h
    rw [strike_blocks] at h
    exact h

set_option maxRecDepth 100000 in
set_option maxHeartbeats 2000000 in
theorem putNode_new (H : BMem F w Y hd g) (n : NodeD) (hok : n.ok w) (hN : g.NN.length < 100000) (hF : g.FF.length < 100000) (h0 : n.err = 0) (hN0 : getL g.NN (ky n.name) = none) (hlt : g.NN.length < 32) :
    Calls Try.prog 43 #[.pointer (some ⟨Y, 0, none⟩), .agg n.cells] w fun e w' => ∃ g', e = .returned (.int .i64 (g.putErr n)) ∧ BMem (grow F w w') w' Y hd g' ∧ Kept F w w' ∧ g.PutTo n g' := by
  obtain ⟨hname, hlen1, hlen2⟩ := n.good_facts h0
  have hnm : n.name.size ≤ maxLen := by unfold maxLen; omega
  have HE : Hid (g.putErr n = 0) := by show g.putErr n = 0; simp [Gh.putErr, h0, hN0, Nat.not_le.2 hlt]
  have hY := H.lt Y H.fy
  have hYn : Y ≠ g.bn := H.ny (by simp [Gh.maps])
  have hbn : g.bn < w.heap.size := H.lt _ (H.fm _ (by simp [Gh.maps]))
  have HnF : Hid (∀ b, g.lore b → b < w.heap.size) := fun b h => H.lt _ (H.loreF h)
  have hW0 : Below w.heap.size w (w.alloc (.cells #[.string n.name, .int .i64 n.r0, .int .i64 n.r1, .int .i64 n.r2, .slice n.labels.a n.labels.L.length n.labels.cap, .slice n.taints.a n.taints.L.length n.taints.cap] 42)) := below_alloc _ _
  have hz0 : w.heap.size < (w.alloc (.cells #[.string n.name, .int .i64 n.r0, .int .i64 n.r1, .int .i64 n.r2, .slice n.labels.a n.labels.L.length n.labels.cap, .slice n.taints.a n.taints.L.length n.taints.cap] 42)).heap.size := by simp
  have hzY : Y < (w.alloc (.cells #[.string n.name, .int .i64 n.r0, .int .i64 n.r1, .int .i64 n.r2, .slice n.labels.a n.labels.L.length n.labels.cap, .slice n.taints.a n.taints.L.length n.taints.cap] 42)).heap.size := by simp; omega
  have c1 := checkNode_any n (w.alloc (.cells #[.string n.name, .int .i64 n.r0, .int .i64 n.r1, .int .i64 n.r2, .slice n.labels.a n.labels.L.length n.labels.cap, .slice n.taints.a n.taints.L.length n.taints.cap] 42)) (hok.below hW0)
  rw [h0] at c1
  have c2 := fun W (hb : Below w.heap.size w W) => hasNode_any (H.below hb) n.name hnm
  rw [hN0] at c2
  have Hlen : Hid (∀ W, Below w.heap.size w W → ∀ ty, (Builtin.len_ #[104] ty #[.map (some g.bn)]).run Try.prog W = .ok (.int .i64 g.NN.length) W) := fun W hb ty => by have := (H.below hb).nd.len Try.underlying104 ty; rwa [mapV_length] at this
  have c3 := fun W (hb : Below w.heap.size w W) => forget_any (H.below hb) n.name hnm
  have k1 := fun W hok1 => copied_any n.labels W hok1 (by omega)
  have k2 := fun W hok1 => copied_any n.taints W hok1 (by omega)
  have k3 := fun (F' : Nat → Prop) W g' (hB : BMem F' W Y hd g') hF' => changed_any hB n.name hnm hF'
  have hst := fun W (hM : MapAt Try.prog W 9 g.bn (mapV (·.1) g.NN)) v => hM.store (val := v) strK Try.underlying104 (by rw [mapV_length]; unfold maxLen; omega) (keyS n.name hnm)
  have Hok : Hid (n.ok w) := hok
  unfold NodeD.cells Lst.val at c1
  unfold NodeD.cells Lst.val
  unfold Lst.val at k1 k2
  clear hok h0
  have Hh : Hid (BMem F w Y hd g) := H
  have hxw := H.cN
  go_enter Try.func43, Try.ntmps43
  go_wp2_with (first
    | (go_at_call 12; refine c1.mono ?_; rintro e w1 ⟨rfl, hb1⟩; have s1 := fun o => hb1.cell (p := ⟨w.heap.size, o, none⟩) hz0; have y1 := fun o => hb1.cell (p := ⟨Y, o, none⟩) hzY; have hW1 := below_trans hW0 hb1; have z1 : w.heap.size < w1.heap.size := Nat.lt_of_lt_of_le hz0 hb1.size; have zY1 : Y < w1.heap.size := Nat.lt_of_lt_of_le hzY hb1.size)
    | (go_at_call 59; refine (c2 w1 hW1).mono ?_; rintro e w2 ⟨rfl, hb2⟩; have s2 := fun o => hb2.cell (p := ⟨w.heap.size, o, none⟩) z1; have y2 := fun o => hb2.cell (p := ⟨Y, o, none⟩) zY1; have hW2 := below_trans hW1 hb2; have z2 : w.heap.size < w2.heap.size := Nat.lt_of_lt_of_le z1 hb2.size; have zY2 : Y < w2.heap.size := Nat.lt_of_lt_of_le zY1 hb2.size; have hlen := Hlen.out w2 hW2)
    | (go_at_call 60; refine (c3 w2 hW2).mono ?_; rintro e w3 ⟨rfl, H3, hk3⟩))
  have s3 := fun o => hk3.cell (p := ⟨w.heap.size, o, none⟩) z2 (fun h => by have := HnF.out _ h; dsimp only at this; omega)
  have y3 : w3.cell? ⟨Y, 4, none⟩ = some (.map (some g.bn)) := H3.cN
  have hok3 : ∀ x ∈ n.lists, x.ok w3 := fun x hx => ((Hok.out.2 x hx).below hW2).maps hk3 ((Hh.out.below hW2).loreMap)
  have Ho1 : Hid (∀ W, Below w3.heap.size w3 W → n.labels.ok W) := fun W hb => (hok3 _ (by simp [NodeD.lists])).below hb
  have Ho2 : Hid (∀ W, Below w3.heap.size w3 W → n.taints.ok W) := fun W hb => (hok3 _ (by simp [NodeD.lists])).below hb
  have z3 : w.heap.size < w3.drew.heap.size := Nat.lt_of_lt_of_le z2 hk3.size
  have zY3 : Y < w3.drew.heap.size := Nat.lt_of_lt_of_le zY2 hk3.size
  have hW3 : Below w3.heap.size w3 w3.drew := (Below.refl _ _).drew
  have hg3 : (g.forget (ky n.name)).bn = g.bn := rfl
  have hgN : (g.forget (ky n.name)).NN = g.NN := rfl
  have Hm3 : Hid (∀ W, Below w3.heap.size w3 W → MapAt Try.prog W 9 g.bn (mapV (·.1) g.NN)) := fun W hb => (H3.below hb).nd
  have HH3 : Hid (BMem F w3 Y hd (g.forget (ky n.name))) := H3
  have HK3 : Hid (Kept F w w3) := (Kept.of_below hW2).trans hk3 (fun i _ h => Hh.out.loreF h)
  clear H3 hok3 hk3
  go_region_held3 (fun w' => w'.cell? ⟨w.heap.size, 0, none⟩ = some (.string n.name) ∧ w'.cell? ⟨w.heap.size, 1, none⟩ = some (.int .i64 n.r0) ∧ w'.cell? ⟨w.heap.size, 2, none⟩ = some (.int .i64 n.r1) ∧ w'.cell? ⟨w.heap.size, 3, none⟩ = some (.int .i64 n.r2) ∧ w'.cell? ⟨w.heap.size, 4, none⟩ = some (.slice n.labels.a n.labels.L.length n.labels.cap) ∧ w'.cell? ⟨w.heap.size, 5, none⟩ = some (.slice n.taints.a n.taints.L.length n.taints.cap) ∧ w'.cell? ⟨Y, 4, none⟩ = some (.map (some g.bn))) (go_keep)
    (first
      | (go_at_call_of 61 (Value.slice n.labels.a n.labels.L.length n.labels.cap); refine (k1 _ (Ho1.out _ hW3)).mono ?_; rintro e w4 ⟨b1, cp1, rfl, hl1, ho1, hb4⟩; have s4 := fun o => hb4.cell (p := ⟨w.heap.size, o, none⟩) z3; have y4 := fun o => hb4.cell (p := ⟨Y, o, none⟩) zY3; have hW4 := below_trans hW3 hb4; have z4 : w.heap.size < w4.heap.size := Nat.lt_of_lt_of_le z3 hb4.size; have zY4 : Y < w4.heap.size := Nat.lt_of_lt_of_le zY3 hb4.size)
      | (go_at_call_of 61 (Value.slice n.taints.a n.taints.L.length n.taints.cap); refine (k2 w4 (Ho2.out _ hW4)).mono ?_; rintro e w5 ⟨b2, cp2, rfl, hl2, ho2, hb5⟩; have s5 := fun o => hb5.cell (p := ⟨w.heap.size, o, none⟩) z4; have y5 := fun o => hb5.cell (p := ⟨Y, o, none⟩) zY4; have hW5 := below_trans hW4 hb5; have z5 : w.heap.size < w5.heap.size := Nat.lt_of_lt_of_le z4 hb5.size; have zY5 : Y < w5.heap.size := Nat.lt_of_lt_of_le zY4 hb5.size; obtain ⟨w6, hst6, hm6, ht6⟩ := hst w5 (Hm3.out _ hW5) (.agg #[.int .i64 n.r0, .int .i64 n.r1, .int .i64 n.r2, .slice (some ⟨b1, 0, none⟩) n.labels.L.length cp1, .slice (some ⟨b2, 0, none⟩) n.taints.L.length cp2]); have hk6 := Kept.turned ht6; have s6 := fun o => hk6.cell (p := ⟨w.heap.size, o, none⟩) z5 (by dsimp only; omega); have y6 := fun o => hk6.cell (p := ⟨Y, o, none⟩) zY5 hYn))
  obtain ⟨hB6, hK6⟩ := HH3.out.putTo (n := n.val) (k := ky n.name) hW5 ((ho1.below hb5).mono fun b e => by rw [e]; exact hl1) (ho2.mono fun b e => by rw [e]; have := hb4.size; simp at this; omega) hm6 ht6
  have HB6 : Hid (BMem (grow F w3 w6) w6 Y hd ((g.forget (ky n.name)).putRaw (ky n.name) (.agg #[.int .i64 n.val.r0, .int .i64 n.val.r1, .int .i64 n.val.r2, .slice (some ⟨b1, 0, none⟩) n.labels.L.length cp1, .slice (some ⟨b2, 0, none⟩) n.taints.L.length cp2]) n.val)) := hB6
  have HK6 : Hid (Kept (fun b => b = g.bn) w3 w6) := hK6
  have hs6 := hK6.size
  have hs36 := HK3.out.size
  clear hB6 hK6 ht6 hm6 hst6 y6 y5 y4 ho1 ho2 hb4 hb5 k1 k2 hst
  go_wp2_with (go_at_call 62; refine (k3 _ _ _ HB6.out hF).mono ?_; rintro e w7 ⟨rfl, hB7, hK7⟩)
  go_ret
  have hs7 := hK7.size
  refine ⟨_, by rw [HE.out]; rfl, hB7.more (fun b h => h.elim .inl fun h => .inr ⟨by omega, by omega⟩) (fun b h => h.elim (fun h => by have := Hh.out.lt b h; omega) (fun h => h.2)), (HK3.out.trans HK6.out (fun i _ e => by rw [e]; exact Hh.out.fm _ (by simp [Gh.maps]))).trans hK7 (fun i _ h => ?_), .inr ⟨HE.out, _, rfl⟩⟩
  rcases h with h | h
  · rw [h]; exact Hh.out.fm _ (by simp [Gh.maps, Gh.putRaw, Gh.forget])
  · refine Hh.out.loreF (h.imp id fun h => ?_)
    unfold Gh.putRaw Gh.forget at h
    rw [strike_blocks] at h
    exact h

set_option maxRecDepth 100000 in
set_option maxHeartbeats 1000000 in
theorem putNode_full (H : BMem F w Y hd g) (n : NodeD) (hok : n.ok w) (h0 : n.err = 0) (hN0 : getL g.NN (ky n.name) = none) (hge : 32 ≤ g.NN.length) (hN : g.NN.length < 100000) :
    Calls Try.prog 43 #[.pointer (some ⟨Y, 0, none⟩), .agg n.cells] w fun e w' => e = .returned (.int .i64 6) ∧ Below w.heap.size w w' := by
  obtain ⟨hname, -, -⟩ := n.good_facts h0
  have hnm : n.name.size ≤ maxLen := by unfold maxLen; omega
  have hY := H.lt Y H.fy
  have hW0 : Below w.heap.size w (w.alloc (.cells #[.string n.name, .int .i64 n.r0, .int .i64 n.r1, .int .i64 n.r2, .slice n.labels.a n.labels.L.length n.labels.cap, .slice n.taints.a n.taints.L.length n.taints.cap] 42)) := below_alloc _ _
  have hz0 : w.heap.size < (w.alloc (.cells #[.string n.name, .int .i64 n.r0, .int .i64 n.r1, .int .i64 n.r2, .slice n.labels.a n.labels.L.length n.labels.cap, .slice n.taints.a n.taints.L.length n.taints.cap] 42)).heap.size := by simp
  have hzY : Y < (w.alloc (.cells #[.string n.name, .int .i64 n.r0, .int .i64 n.r1, .int .i64 n.r2, .slice n.labels.a n.labels.L.length n.labels.cap, .slice n.taints.a n.taints.L.length n.taints.cap] 42)).heap.size := by simp; omega
  have c1 := checkNode_any n (w.alloc (.cells #[.string n.name, .int .i64 n.r0, .int .i64 n.r1, .int .i64 n.r2, .slice n.labels.a n.labels.L.length n.labels.cap, .slice n.taints.a n.taints.L.length n.taints.cap] 42)) (hok.below hW0)
  rw [h0] at c1
  have c2 := fun W (hb : Below w.heap.size w W) => hasNode_any (H.below hb) n.name hnm
  rw [hN0] at c2
  have Hlen : Hid (∀ W, Below w.heap.size w W → ∀ ty, (Builtin.len_ #[104] ty #[.map (some g.bn)]).run Try.prog W = .ok (.int .i64 g.NN.length) W) := fun W hb ty => by have := (H.below hb).nd.len Try.underlying104 ty; rwa [mapV_length] at this
  unfold NodeD.cells Lst.val at c1
  unfold NodeD.cells Lst.val
  clear hok h0
  have hxw := H.cN
  go_enter Try.func43, Try.ntmps43
  go_wp2_with (first
    | (go_at_call 12; refine c1.mono ?_; rintro e w1 ⟨rfl, hb1⟩; have s1 := fun o => hb1.cell (p := ⟨w.heap.size, o, none⟩) hz0; have y1 := fun o => hb1.cell (p := ⟨Y, o, none⟩) hzY; have hW1 := below_trans hW0 hb1; have z1 : w.heap.size < w1.heap.size := Nat.lt_of_lt_of_le hz0 hb1.size; have zY1 : Y < w1.heap.size := Nat.lt_of_lt_of_le hzY hb1.size)
    | (go_at_call 59; refine (c2 w1 hW1).mono ?_; rintro e w2 ⟨rfl, hb2⟩; have y2 := fun o => hb2.cell (p := ⟨Y, o, none⟩) zY1; have hW2 := below_trans hW1 hb2; have hlen := Hlen.out w2 hW2))
  go_ret
  exact ⟨rfl, hW2⟩

set_option maxRecDepth 100000 in
set_option maxHeartbeats 400000 in
theorem putNode_bad (n : NodeD) (hok : n.ok w) (h0 : n.err ≠ 0) :
    Calls Try.prog 43 #[.pointer (some ⟨Y, 0, none⟩), .agg n.cells] w fun e w' => e = .returned (.int .i64 n.err) ∧ Below w.heap.size w w' := by
  have hW0 : Below w.heap.size w (w.alloc (.cells #[.string n.name, .int .i64 n.r0, .int .i64 n.r1, .int .i64 n.r2, .slice n.labels.a n.labels.L.length n.labels.cap, .slice n.taints.a n.taints.L.length n.taints.cap] 42)) := below_alloc _ _
  have c1 := checkNode_any n (w.alloc (.cells #[.string n.name, .int .i64 n.r0, .int .i64 n.r1, .int .i64 n.r2, .slice n.labels.a n.labels.L.length n.labels.cap, .slice n.taints.a n.taints.L.length n.taints.cap] 42)) (hok.below hW0)
  have h0' : (n.err == 0) = false := by simpa using h0
  have h0'' : (n.err != 0) = true := by simpa using h0
  clear h0
  unfold NodeD.cells Lst.val at c1
  unfold NodeD.cells Lst.val
  go_enter Try.func43, Try.ntmps43
  go_wp2_with (go_at_call 12; refine c1.mono ?_; rintro e w1 ⟨rfl, hb1⟩)
  go_ret
  exact ⟨rfl, below_trans hW0 hb1⟩

theorem pPutNode_any (H : BMem F w Y hd g) (n : NodeD) (hok : n.ok w) (hN : g.NN.length < 100000) (hF : g.FF.length < 100000) :
    Calls Try.prog 43 #[.pointer (some ⟨Y, 0, none⟩), .agg n.cells] w fun e w' => ∃ g', e = .returned (.int .i64 (g.putErr n)) ∧ BMem (grow F w w') w' Y hd g' ∧ Kept F w w' ∧ g.PutTo n g' := by
  by_cases h0 : n.err = 0
  · cases hN0 : getL g.NN (ky n.name) with
    | some x => exact putNode_old H n hok hN hF h0 (by rw [hN0]; rfl)
    | none =>
      by_cases hlt : g.NN.length < 32
      · exact putNode_new H n hok hN hF h0 hN0 hlt
      · have he : g.putErr n = 6 := by simp [Gh.putErr, h0, hN0, Nat.le_of_not_lt hlt]
        exact (putNode_full H n hok h0 hN0 (by omega) hN).mono fun e w' h => ⟨g, by rw [he]; exact h.1, H.grows h.2, Kept.of_below h.2, .inl ⟨by rw [he]; decide, rfl⟩⟩
  · have he : g.putErr n = n.err := by simp [Gh.putErr, h0]
    exact (putNode_bad n hok h0).mono fun e w' h => ⟨g, by rw [he]; exact h.1, H.grows h.2, Kept.of_below h.2, .inl ⟨by rw [he]; exact h0, rfl⟩⟩

end

end Go.Proofs.Ytchddaafibjmgaa
