/-
  The program's lay, walked: a pod comes.
-/
import Derived.Test.YtchddaafibjmgaaQA5
import Derived.Deep.RegionHeld3
import Derived.Deep.DrawnRows
namespace Go.Proofs.Ytchddaafibjmgaa
open Go.RowKit Go.Maps

/-- The pod that lies there then. -/
def PodD.lies (p : PodD) (node : Bytes) (bound : Bool) (since : Int) : LiesV := ⟨p.n0, p.n1, p.n2, p.port, p.labels.L, p.apart.L, node, bound, since⟩

def Gh.layRaw (g : Gh) (k : Bytes) (q : Nat) (x : LiesV) : Gh := { g with PP := putL g.PP k (q, x) }

section
variable {F : Nat → Prop} {w : World} {Y : Nat} {hd : Head} {g : Gh}

theorem OwnList.mono {F F' : Nat → Prop} {w : World} {v : Value} {l : List Lab} (h : OwnList F w v l) (hF : ∀ b, F b → F' b) : OwnList F' w v l := by
  obtain ⟨b, cap, cur, e, h1, h2⟩ := h
  exact ⟨b, cap, cur, e, hF _ h1, h2⟩

theorem OwnList.below {F : Nat → Prop} {w w' : World} {v : Value} {l : List Lab} (h : OwnList F w v l) (hb : Below w.heap.size w w') : OwnList F w' v l := h.kept (Kept.of_below (F := noBlock) hb) (fun _ _ h => h.elim) (fun _ h => h)

/-- A pod's box has come, and its place is told. -/
theorem BMem.layTo (H : BMem F w Y hd g) {w2 w4 : World} {x : LiesV} {lv av : Value} {k : Bytes} (hb : Below w.heap.size w w2) (hl : OwnList (fun b => w.heap.size ≤ b) w2 lv x.labels) (ha : OwnList (fun b => w.heap.size ≤ b) w2 av x.apart)
    (hm : MapAt Try.prog w4 9 g.bp (putL (mapV (fun x => ptrV x.1) g.PP) k (.pointer (some ⟨w2.heap.size, 0, none⟩)))) (ht : (w2.alloc (.cells (podCells x lv av) 120)).mapTurned w4 g.bp) :
    BMem (grow F w w4) w4 Y hd (g.layRaw k w2.heap.size x) ∧ Kept (fun b => b = g.bp) w w4 := by
  have hb3 : Below w.heap.size w (w2.alloc (.cells (podCells x lv av) 120)) := below_trans hb (below_alloc _ _)
  have hk := Kept.turned ht
  have hz : w2.heap.size + 1 ≤ w4.heap.size := by have := hk.size; simp at this; omega
  have hz2 := hb.size
  have H3 : BMem (grow F w w4) (w2.alloc (.cells (podCells x lv av) 120)) Y hd g := by
    refine H.kept (Kept.of_below (F := noBlock) hb3) (fun _ _ => id) (fun _ h => .inl h) fun b hf => hf.elim (fun h => Nat.lt_of_lt_of_le (H.lt b h) hb3.size) (fun h => ?_)
    have e1 : (w2.alloc (.cells (podCells x lv av) 120)).heap.size = w4.heap.size := by
      obtain ⟨es, c, es', c', _, rfl⟩ := ht
      simp [ChangeMaps.setBlock]
    rw [e1]
    exact h.2
  have hnew : (w2.alloc (.cells (podCells x lv av) 120)).heap[w2.heap.size]? = some (.cells (podCells x lv av) 120 (0, 0)) := block_alloc_new _ _
  have hP3 : PodAt (grow F w w4) (w2.alloc (.cells (podCells x lv av) 120)) w2.heap.size x := by
    refine ⟨lv, av, hnew, .inr ⟨hz2, by omega⟩, ?_, ?_⟩
    · obtain ⟨b, cap, cur, e, h1, h2, h3⟩ := hl.below (below_alloc _ (.cells (podCells x lv av) 120))
      exact ⟨b, cap, cur, e, .inr ⟨h1, by have := lt_of_block h2; have := hk.size; omega⟩, h2, h3⟩
    · obtain ⟨b, cap, cur, e, h1, h2, h3⟩ := ha.below (below_alloc _ (.cells (podCells x lv av) 120))
      exact ⟨b, cap, cur, e, .inr ⟨h1, by have := lt_of_block h2; have := hk.size; omega⟩, h2, h3⟩
  have hin : g.bp ∈ g.maps := by simp [Gh.maps]
  refine ⟨H3.setP hk (PP := putL g.PP k (w2.heap.size, x)) ?_ ?_ ?_, ?_⟩
  · rw [← putL_mapV]
    exact hm
  · intro p hp
    rcases mem_putL.1 hp with rfl | ⟨hp, _⟩
    · exact hP3.kept hk (H3.off hin _) (hP3.off (H3.off hin _)) (fun _ h => h)
    · exact (H3.pp p hp).kept hk (H3.off hin _) ((H3.pp p hp).off (H3.off hin _)) (fun _ h => h)
  · refine nodup_putL H.ppd fun p hp e => ?_
    obtain ⟨_, _, h1, h2, _⟩ := H.pp p hp
    have := H.lt _ h2
    dsimp only at e
    omega
  · exact (Kept.of_below hb3).trans hk (fun i _ e => e)

set_option maxRecDepth 100000 in
set_option maxHeartbeats 2000000 in
theorem play_any (H : BMem F w Y hd g) (p : PodD) (node : ByteArray) (st since : Int) (bound : Bool) (hst : st = boolI bound) (hok : p.ok w) (hname : p.name.size ≤ maxLen) (hnode : node.size ≤ maxLen) (hl : ∀ x ∈ p.lists, x.L.length ≤ 1000) (hP : g.PP.length < 100000) (hF : g.FF.length < 100000) :
    Calls Try.prog 54 #[.pointer (some ⟨Y, 0, none⟩), .agg p.cells, .string node, .int .i64 st, .int .i64 since] w fun e w' => e = .returned (.tuple #[]) ∧ ∃ q, w.heap.size ≤ q ∧ BMem (grow F w w') w' Y hd ((g.layRaw (ky p.name) q (p.lies (ky node) bound since)).changed (ky node)) ∧ Kept F w w' := by
  have hY := H.lt Y H.fy
  have hYp : Y ≠ g.bp := H.ny (by simp [Gh.maps])
  have hbp : g.bp < w.heap.size := H.lt _ (H.fm _ (by simp [Gh.maps]))
  have hW0 : Below w.heap.size w (w.alloc (.cells #[.string p.name, .int .i64 p.n0, .int .i64 p.n1, .int .i64 p.n2, .int .i64 p.port, .slice p.labels.a p.labels.L.length p.labels.cap, .slice p.select.a p.select.L.length p.select.cap, .slice p.bears.a p.bears.L.length p.bears.cap, .slice p.near.a p.near.L.length p.near.cap, .slice p.apart.a p.apart.L.length p.apart.cap] 33)).drew := (below_alloc _ _).drew
  have hz0 : w.heap.size < (w.alloc (.cells #[.string p.name, .int .i64 p.n0, .int .i64 p.n1, .int .i64 p.n2, .int .i64 p.port, .slice p.labels.a p.labels.L.length p.labels.cap, .slice p.select.a p.select.L.length p.select.cap, .slice p.bears.a p.bears.L.length p.bears.cap, .slice p.near.a p.near.L.length p.near.cap, .slice p.apart.a p.apart.L.length p.apart.cap] 33)).drew.heap.size := by simp
  have hzY : Y < (w.alloc (.cells #[.string p.name, .int .i64 p.n0, .int .i64 p.n1, .int .i64 p.n2, .int .i64 p.port, .slice p.labels.a p.labels.L.length p.labels.cap, .slice p.select.a p.select.L.length p.select.cap, .slice p.bears.a p.bears.L.length p.bears.cap, .slice p.near.a p.near.L.length p.near.cap, .slice p.apart.a p.apart.L.length p.apart.cap] 33)).drew.heap.size := by simp; omega
  have k1 := fun W (hb : Below w.heap.size w W) => copied_any p.labels W ((hok.2 p.labels (by simp [PodD.lists])).below hb) (hl _ (by simp [PodD.lists]))
  have k2 := fun W (hb : Below w.heap.size w W) => copied_any p.apart W ((hok.2 p.apart (by simp [PodD.lists])).below hb) (hl _ (by simp [PodD.lists]))
  have k3 := fun (F' : Nat → Prop) W g' (hB : BMem F' W Y hd g') hF' => changed_any hB node hnode hF'
  have hm := fun W (hb : Below w.heap.size w W) q => (H.below hb).pd.store (val := .pointer (some ⟨q, 0, none⟩)) strK Try.underlying105 (by rw [mapV_length]; unfold maxLen; omega) (keyS p.name hname)
  subst hst
  unfold PodD.cells Lst.val
  unfold Lst.val at k1 k2
  have hxw := H.cP
  have Hl : Hid (∀ x ∈ p.lists, x.L.length ≤ 1000) := hl
  have Hk : Hid (p.ok w) := hok
  clear hok hl
  go_enter Try.func54, Try.ntmps54
  go_wp2
  go_region_held3 (fun w' => w'.cell? ⟨w.heap.size, 0, none⟩ = some (.string p.name) ∧ w'.cell? ⟨w.heap.size, 1, none⟩ = some (.int .i64 p.n0) ∧ w'.cell? ⟨w.heap.size, 2, none⟩ = some (.int .i64 p.n1) ∧ w'.cell? ⟨w.heap.size, 3, none⟩ = some (.int .i64 p.n2) ∧ w'.cell? ⟨w.heap.size, 4, none⟩ = some (.int .i64 p.port) ∧ w'.cell? ⟨w.heap.size, 5, none⟩ = some (.slice p.labels.a p.labels.L.length p.labels.cap) ∧ w'.cell? ⟨w.heap.size, 9, none⟩ = some (.slice p.apart.a p.apart.L.length p.apart.cap) ∧ w'.cell? ⟨Y, 5, none⟩ = some (.map (some g.bp))) (go_keep)
    (first
      | (go_at_call_of 61 (Value.slice p.labels.a p.labels.L.length p.labels.cap); refine (k1 _ hW0).mono ?_; rintro e w1 ⟨b1, cp1, rfl, hl1, ho1, hb1⟩; have s1 := fun o => hb1.cell (p := ⟨w.heap.size, o, none⟩) hz0; have y1 := fun o => hb1.cell (p := ⟨Y, o, none⟩) hzY; have hW1 := below_trans hW0 hb1; have z1 : w.heap.size < w1.heap.size := Nat.lt_of_lt_of_le hz0 hb1.size; have zY1 : Y < w1.heap.size := Nat.lt_of_lt_of_le hzY hb1.size)
      | (go_at_call_of 61 (Value.slice p.apart.a p.apart.L.length p.apart.cap); refine (k2 w1 hW1).mono ?_; rintro e w2 ⟨b2, cp2, rfl, hl2, ho2, hb2⟩; have s2 := fun o => hb2.cell (p := ⟨w.heap.size, o, none⟩) z1; have y2 := fun o => hb2.cell (p := ⟨Y, o, none⟩) zY1; have hW2 := below_trans hW1 hb2; have z2 : w.heap.size < w2.heap.size := Nat.lt_of_lt_of_le z1 hb2.size; have zY2 : Y < w2.heap.size := Nat.lt_of_lt_of_le zY1 hb2.size; obtain ⟨w3, hst3, hm3, ht3⟩ := hm (w2.alloc (.cells #[.int .i64 p.n0, .int .i64 p.n1, .int .i64 p.n2, .int .i64 p.port, .slice (some ⟨b1, 0, none⟩) p.labels.L.length cp1, .slice (some ⟨b2, 0, none⟩) p.apart.L.length cp2, .string node, .int .i64 (boolI bound), .int .i64 since] 120)) (below_trans hW2 (below_alloc _ _)) w2.heap.size; have hk3 := Kept.turned ht3; have s3 := fun o => hk3.cell (p := ⟨w.heap.size, o, none⟩) (Nat.lt_of_lt_of_le z2 (by simp)) (by dsimp only; omega); have y3 := fun o => hk3.cell (p := ⟨Y, o, none⟩) (Nat.lt_of_lt_of_le zY2 (by simp)) hYp))
  have hpc : podCells (p.lies (ky node) bound since) (.slice (some ⟨b1, 0, none⟩) p.labels.L.length cp1) (.slice (some ⟨b2, 0, none⟩) p.apart.L.length cp2) = #[.int .i64 p.n0, .int .i64 p.n1, .int .i64 p.n2, .int .i64 p.port, .slice (some ⟨b1, 0, none⟩) p.labels.L.length cp1, .slice (some ⟨b2, 0, none⟩) p.apart.L.length cp2, .string node, .int .i64 (boolI bound), .int .i64 since] := by simp [podCells, PodD.lies, bs_ky]
  rw [← hpc] at ht3
  obtain ⟨hB3, hK3⟩ := H.layTo (x := p.lies (ky node) bound since) (k := ky p.name) hW2 ((ho1.below hb2).mono fun b e => by rw [e]; omega) (ho2.mono fun b e => by rw [e]; omega) hm3 ht3
  have HB3 : Hid (BMem (grow F w w3) w3 Y hd (g.layRaw (ky p.name) w2.heap.size (p.lies (ky node) bound since))) := hB3
  have HK3 : Hid (Kept (fun b => b = g.bp) w w3) := hK3
  have hz2 : w.heap.size ≤ w2.heap.size := by omega
  clear hB3 hK3 hpc ht3 hk3 hm3 hst3 s3 y3 s2 y2 s1 y1 ho1 ho2 hb1 hb2 k1 k2 hm
  go_wp2_with (go_at_call 62; refine (k3 _ _ _ HB3.out hF).mono ?_; rintro e w4 ⟨rfl, hB4, hK4⟩)
  go_end0
  have hs4 := hK4.size
  have hs3 := HK3.out.size
  refine ⟨rfl, w2.heap.size, hz2, hB4.more (fun b h => h.elim .inl fun h => .inr ⟨h.1, by omega⟩) (fun b h => h.elim (fun h => by have := H.lt b h; omega) (fun h => h.2)), (HK3.out.mono fun i _ e => by rw [e]; exact H.fm _ (by simp [Gh.maps])).trans hK4 fun i _ h => ?_⟩
  rcases h with h | h
  · rw [h]; exact H.fm _ (by simp [Gh.maps, Gh.layRaw])
  · exact H.loreF h

end

end Go.Proofs.Ytchddaafibjmgaa
