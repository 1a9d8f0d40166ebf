/-
  The program's lift, Drop and Confirm, walked.
  The program's Bind, walked.
-/
import Derived.Test.YtchddaafibjmgaaQPPut
namespace Go.Proofs.Ytchddaafibjmgaa
open Go.RowKit Go.Maps

def Gh.unlay (g : Gh) (k : Bytes) : Gh := { g with PP := delL g.PP k }
def Gh.confirm (g : Gh) (k : Bytes) : Gh := { g with PP := g.PP.map fun p => (p.1, (p.2.1, if p.1 == k then { p.2.2 with bound := true } else p.2.2)) }

section
variable {F : Nat → Prop} {w w' : World} {Y : Nat} {hd : Head} {g : Gh}

theorem PodAt.cells {q : Nat} {x : LiesV} (h : PodAt F w q x) : w.cell? ⟨q, 0, none⟩ = some (.int .i64 x.n0) ∧ w.cell? ⟨q, 1, none⟩ = some (.int .i64 x.n1) ∧ w.cell? ⟨q, 2, none⟩ = some (.int .i64 x.n2) ∧ w.cell? ⟨q, 3, none⟩ = some (.int .i64 x.port) ∧
    w.cell? ⟨q, 6, none⟩ = some (.string (bs x.node)) ∧ w.cell? ⟨q, 7, none⟩ = some (.int .i64 (boolI x.bound)) ∧ w.cell? ⟨q, 8, none⟩ = some (.int .i64 x.since) ∧ ∀ o, w.frozen? ⟨q, o, none⟩ = false := by
  obtain ⟨lv, av, h1, _⟩ := h
  refine ⟨?_, ?_, ?_, ?_, ?_, ?_, ?_, fun o => frozen_of_block h1⟩ <;> (rw [cell_of_block h1]; rfl)

theorem BMem.unlay (H : BMem F w Y hd g) (k : Bytes) (hk : Kept (fun x => x = g.bp) w w') (hm : MapAt Try.prog w' 9 g.bp (mapV (fun x => ptrV x.1) (delL g.PP k))) : BMem F w' Y hd (g.unlay k) :=
  H.setP hk hm (fun p hp => ((H.pp p (mem_delL.1 hp).1).kept hk (H.off (by simp [Gh.maps]) _) ((H.pp p (mem_delL.1 hp).1).off (H.off (by simp [Gh.maps]) _)) (fun _ h => h))) (nodup_delL k H.ppd)

set_option maxRecDepth 100000 in
set_option maxHeartbeats 400000 in
theorem lift_any (H : BMem F w Y hd g) (s : ByteArray) (hs : s.size ≤ maxLen) (hF : g.FF.length < 100000) (x : Nat × LiesV) (hx : getL g.PP (ky s) = some x) (hn : x.2.node.length ≤ maxLen) :
    Calls Try.prog 51 #[.pointer (some ⟨Y, 0, none⟩), .string s] w fun e w' => e = .returned (.tuple #[]) ∧ BMem F w' Y hd ((g.unlay (ky s)).changed x.2.node) ∧ Kept (fun b => b = g.bp ∨ b = g.bf ∨ g.lore b) w w' ∧ Shrunk w w' g.bp := by
  have hx5 := H.cP
  have hY := H.lt Y H.fy
  obtain ⟨h1, h2⟩ := H.getP hx
  obtain ⟨-, -, -, -, hc6, -, -, -⟩ := h2.cells
  have hq : x.1 < w.heap.size := by obtain ⟨_, _, h, _⟩ := h2; exact lt_of_block h
  have c1 := fun W (H1 : BMem F W Y hd (g.unlay (ky s))) => changed_any H1 (bs x.2.node) (by rw [bs_size]; exact hn) hF
  rw [ky_bs] at c1
  have Hne : Hid (g.bf ≠ g.bp ∧ ¬ g.lore g.bp) := ⟨Ne.symm H.ne5.2.2.2.2.1, fun h => h.elim (fun h => H.ne5.2.2.2.2.2.1 h) fun h => by
    obtain ⟨p, hp, e⟩ := List.mem_map.1 h
    exact (H.neA hp).2.1 e⟩
  clear h2 hx
  go_enter Try.func51, Try.ntmps51
  go_wp2_with (first
    | (at_lookup; refine wpL_get_some _ rfl _ _ 105 rfl 9 117 strK Try.underlying105 (zeroPod _) g.bp _ rfl H.pd _ (ky s) rfl (keyS s hs) _ h1 ?_)
    | (at_delete; refine wpL_drop _ rfl _ _ 105 9 rfl 117 strK Try.underlying105 g.bp _ rfl H.pd _ (ky s) rfl (keyS s hs) ?_; intro w1 hm1 ht1 hs1; rw [delL_mapV] at hm1; have hk1 := Kept.turned ht1; have H1 := H.unlay (ky s) hk1 hm1)
    | (go_at_call 62; refine (c1 w1 H1).mono ?_; rintro e w2 ⟨rfl, H2, hk2⟩))
  go_end0
  refine ⟨rfl, H2, (hk1.mono fun i _ e => .inl e).trans hk2 fun i _ h => .inr h, hs1.kept (hk2.block _ (Nat.lt_of_lt_of_le (H.lt _ (H.fm _ (by simp [Gh.maps]))) hk1.size) fun h => ?_)⟩
  exact h.elim (fun h => Hne.out.1 h.symm) fun h => Hne.out.2 h

/-- Behind Drop. -/
def Gh.DropTo (g : Gh) (k : Bytes) (e : Int) (g' : Gh) : Prop := (getL g.PP k = none ∧ e = 4 ∧ g' = g) ∨ ∃ x, getL g.PP k = some x ∧ e = 0 ∧ g' = (g.unlay k).changed x.2.node

theorem BMem.dropFoot (H : BMem F w Y hd g) {i : Nat} (h : i = g.bp ∨ i = g.bf ∨ g.lore i) : F i := by
  rcases h with h | h | h
  · rw [h]; exact H.fm _ (by simp [Gh.maps])
  · rw [h]; exact H.fm _ (by simp [Gh.maps])
  · exact H.loreF h

set_option maxRecDepth 100000 in
set_option maxHeartbeats 400000 in
theorem pDrop_any (H : BMem F w Y hd g) (s : ByteArray) (hs : s.size ≤ maxLen) (hF : g.FF.length < 100000) (hn : ∀ x, getL g.PP (ky s) = some x → x.2.node.length ≤ maxLen) :
    Calls Try.prog 32 #[.pointer (some ⟨Y, 0, none⟩), .string s] w fun e w' => ∃ r g', e = .returned (.int .i64 r) ∧ BMem F w' Y hd g' ∧ Kept F w w' ∧ g.DropTo (ky s) r g' := by
  have hx5 := H.cP
  cases hx : getL g.PP (ky s) with
  | none =>
    have h1 : getL (mapV (fun x => ptrV x.1) g.PP) (ky s) = none := by rw [getL_mapV, hx]; rfl
    have HX : Hid (getL g.PP (ky s) = none) := hx
    clear hx
    go_enter Try.func32, Try.ntmps32
    go_wp2_with (at_lookup; refine wpL_look_none _ rfl _ _ 105 rfl 9 117 strK Try.underlying105 (zeroPod _) g.bp _ rfl H.pd _ (ky s) rfl (keyS s hs) h1 ?_)
    go_ret
    exact ⟨_, _, rfl, H, Kept.refl _ _, .inl ⟨HX.out, rfl, rfl⟩⟩
  | some x =>
    obtain ⟨h1, -⟩ := H.getP hx
    have c1 := lift_any H s hs hF x hx (hn x hx)
    have HX : Hid (getL g.PP (ky s) = some x) := hx
    clear hx
    go_enter Try.func32, Try.ntmps32
    go_wp2_with (first
      | (at_lookup; refine wpL_look_some _ rfl _ _ 105 rfl 9 117 strK Try.underlying105 (zeroPod _) g.bp _ rfl H.pd _ (ky s) rfl (keyS s hs) _ h1 ?_)
      | (go_at_call 51; refine c1.mono ?_; rintro e w2 ⟨rfl, H2, hk2, _⟩))
    go_ret
    exact ⟨_, _, rfl, H2, hk2.mono fun i _ h => H.dropFoot h, .inr ⟨x, HX.out, rfl, rfl⟩⟩

/-- A pod is bound now. -/
theorem BMem.setBound (H : BMem F w Y hd g) {k : Bytes} {x : Nat × LiesV} (hx : getL g.PP k = some x) : BMem F (w.setCell ⟨x.1, 7, none⟩ (.int .i64 1)) Y hd (g.confirm k) := by
  have hmem := getL_mem hx
  obtain ⟨lv, av, h1, h2, h3, h4⟩ := H.pp _ hmem
  dsimp only at h1 h2
  have hk : Kept (fun b => b = x.1) w (w.setCell ⟨x.1, 7, none⟩ (.int .i64 1)) := (Kept.refl (fun b => b = x.1) w).setCell (p := ⟨x.1, 7, none⟩) (fun _ => rfl) _
  have oL : Off 51 (fun b => b = x.1) w := Off.cells h1 (by decide)
  have oR : Off 117 (fun b => b = x.1) w := Off.cells h1 (by decide)
  have nm : ∀ {b : Nat}, b ∈ g.maps → b ≠ x.1 := fun {b} hb e => by
    obtain ⟨es, c, hm⟩ := H.isMap hb
    rw [e, h1] at hm
    cases hm
  have nY : Y ≠ x.1 := fun e => by
    have hb := H.box
    rw [e, h1] at hb
    simp only [Option.some.injEq, Obj.cells.injEq] at hb
    exact absurd hb.2.1 (by decide)
  have hraw : mapV (fun x => ptrV x.1) (g.confirm k).PP = mapV (fun x => ptrV x.1) g.PP := by simp [Gh.confirm, mapV]
  refine ⟨fun b hb => Nat.lt_of_lt_of_le (H.lt b hb) hk.size, H.fy, H.fm, by rw [hk.block Y (lt_of_block H.box) nY]; exact H.box, H.nd.kept hk (nm (by simp [Gh.maps])), by rw [hraw]; exact H.pd.kept hk (nm (by simp [Gh.maps])), H.fr.kept hk (nm (by simp [Gh.maps])),
    H.vw.kept hk (nm (by simp [Gh.maps])), H.an.kept hk (nm (by simp [Gh.maps])), fun p hp => (H.nn p hp).kept hk oL (fun _ h => h), fun p hp => ?_, fun p hp => (H.vv p hp).kept hk oR (fun _ h => h), fun p hp => (H.aa p hp).kept hk (nm (H.inA hp)), H.dist, ?_, H.ch.kept hk (H.ch.ncells h1) oL (fun _ h => h)⟩
  · obtain ⟨q, hq, rfl⟩ := List.mem_map.1 hp
    dsimp only
    by_cases e : q.1 = k
    · have hqx : q.2 = x := by
        have e1 := getL_of_mem H.sortP.distinct (k := q.1) (v := q.2) hq
        rw [e, hx] at e1
        exact (Option.some.inj e1).symm
      rw [if_pos (by simpa using e), hqx]
      refine ⟨lv, av, ?_, h2, h3.kept hk oL (fun _ h => h), h4.kept hk oL (fun _ h => h)⟩
      rw [block_setCell h1]
      simp [podCells, boolI]
    · rw [if_neg (by simpa using e)]
      refine (H.pp q hq).kept hk oL (fun eb => e ?_) (fun _ h => h)
      have := nodup_inj H.ppd hq hmem eb
      rw [this]
  · have : (g.confirm k).PP.map (·.2.1) = g.PP.map (·.2.1) := by simp [Gh.confirm]
    rw [this]
    exact H.ppd

/-- Behind Confirm. -/
def Gh.ConfirmTo (g : Gh) (k : Bytes) (e : Int) (g' : Gh) : Prop := (getL g.PP k = none ∧ e = 4 ∧ g' = g) ∨ ∃ x, getL g.PP k = some x ∧ ((x.2.bound = true ∧ e = 7 ∧ g' = g) ∨ (x.2.bound = false ∧ e = 0 ∧ g' = g.confirm k))

set_option maxRecDepth 100000 in
set_option maxHeartbeats 400000 in
theorem pConfirm_any (H : BMem F w Y hd g) (s : ByteArray) (hs : s.size ≤ maxLen) :
    Calls Try.prog 31 #[.pointer (some ⟨Y, 0, none⟩), .string s] w fun e w' => ∃ r g', e = .returned (.int .i64 r) ∧ BMem F w' Y hd g' ∧ Kept F w w' ∧ g.ConfirmTo (ky s) r g' := by
  have hx5 := H.cP
  cases hx : getL g.PP (ky s) with
  | none =>
    have h1 : getL (mapV (fun x => ptrV x.1) g.PP) (ky s) = none := by rw [getL_mapV, hx]; rfl
    have HX : Hid (getL g.PP (ky s) = none) := hx
    clear hx
    go_enter Try.func31, Try.ntmps31
    go_wp2_with (at_lookup; refine wpL_look_none _ rfl _ _ 105 rfl 9 117 strK Try.underlying105 (zeroPod _) g.bp _ rfl H.pd _ (ky s) rfl (keyS s hs) h1 ?_)
    go_ret
    exact ⟨_, _, rfl, H, Kept.refl _ _, .inl ⟨HX.out, rfl, rfl⟩⟩
  | some x =>
    obtain ⟨h1, h2⟩ := H.getP hx
    obtain ⟨-, -, -, -, -, hc7, -, hfz⟩ := h2.cells
    have HS : Hid (BMem F (w.setCell ⟨x.1, 7, none⟩ (.int .i64 1)) Y hd (g.confirm (ky s))) := H.setBound hx
    have HX : Hid (getL g.PP (ky s) = some x) := hx
    have Hq : Hid (F x.1) := by obtain ⟨_, _, _, h, _⟩ := h2; exact h
    have hf7 := hfz 7
    clear hx h2 hfz
    cases hb : x.2.bound
    · rw [hb, show boolI false = 0 from rfl] at hc7
      have HB : Hid (x.2.bound = false) := hb
      clear hb
      go_enter Try.func31, Try.ntmps31
      go_wp2_with (at_lookup; refine wpL_look_some _ rfl _ _ 105 rfl 9 117 strK Try.underlying105 (zeroPod _) g.bp _ rfl H.pd _ (ky s) rfl (keyS s hs) _ h1 ?_)
      go_ret
      exact ⟨_, _, rfl, HS.out, (Kept.refl _ w).setCell (p := ⟨x.1, 7, none⟩) (fun _ => Hq.out) _, .inr ⟨x, HX.out, .inr ⟨HB.out, rfl, rfl⟩⟩⟩
    · rw [hb, show boolI true = 1 from rfl] at hc7
      have HB : Hid (x.2.bound = true) := hb
      clear hb
      go_enter Try.func31, Try.ntmps31
      go_wp2_with (at_lookup; refine wpL_look_some _ rfl _ _ 105 rfl 9 117 strK Try.underlying105 (zeroPod _) g.bp _ rfl H.pd _ (ky s) rfl (keyS s hs) _ h1 ?_)
      go_ret
      exact ⟨_, _, rfl, H, Kept.refl _ _, .inr ⟨x, HX.out, .inl ⟨HB.out, rfl, rfl⟩⟩⟩

end

end Go.Proofs.Ytchddaafibjmgaa

namespace Go.Proofs.Ytchddaafibjmgaa
open Go.RowKit Go.Maps

/-- What Bind answers. -/
def Gh.bindErr (g : Gh) (p : PodD) (node : Bytes) : Int := if p.err ≠ 0 then p.err else if (getL g.NN node).isNone then 4 else g.admits (ky p.name)
/-- Behind Bind. -/
def Gh.BindTo (g : Gh) (p : PodD) (node : Bytes) (g' : Gh) : Prop := (g.bindErr p node ≠ 0 ∧ g' = g) ∨ (g.bindErr p node = 0 ∧ ∃ q, g' = (g.layRaw (ky p.name) q (p.lies node true 0)).changed node)

section
variable {F : Nat → Prop} {w : World} {Y : Nat} {hd : Head} {g : Gh}

set_option maxRecDepth 100000 in
set_option maxHeartbeats 400000 in
theorem bind_bad (H : BMem F w Y hd g) (p : PodD) (node : ByteArray) (hok : p.ok w) (h0 : p.err ≠ 0) :
    Calls Try.prog 45 #[.pointer (some ⟨Y, 0, none⟩), .agg p.cells, .string node] w fun e w' => e = .returned (.int .i64 p.err) ∧ Below w.heap.size w w' := by
  have hY := H.lt Y H.fy
  have hW0 : Below w.heap.size w (w.alloc (.cells #[.string p.name, .int .i64 p.n0, .int .i64 p.n1, .int .i64 p.n2, .int .i64 p.port, .slice p.labels.a p.labels.L.length p.labels.cap, .slice p.select.a p.select.L.length p.select.cap, .slice p.bears.a p.bears.L.length p.bears.cap, .slice p.near.a p.near.L.length p.near.cap, .slice p.apart.a p.apart.L.length p.apart.cap] 33)) := below_alloc _ _
  have hz0 : w.heap.size < (w.alloc (.cells #[.string p.name, .int .i64 p.n0, .int .i64 p.n1, .int .i64 p.n2, .int .i64 p.port, .slice p.labels.a p.labels.L.length p.labels.cap, .slice p.select.a p.select.L.length p.select.cap, .slice p.bears.a p.bears.L.length p.bears.cap, .slice p.near.a p.near.L.length p.near.cap, .slice p.apart.a p.apart.L.length p.apart.cap] 33)).heap.size := by simp
  have hzY : Y < (w.alloc (.cells #[.string p.name, .int .i64 p.n0, .int .i64 p.n1, .int .i64 p.n2, .int .i64 p.port, .slice p.labels.a p.labels.L.length p.labels.cap, .slice p.select.a p.select.L.length p.select.cap, .slice p.bears.a p.bears.L.length p.bears.cap, .slice p.near.a p.near.L.length p.near.cap, .slice p.apart.a p.apart.L.length p.apart.cap] 33)).heap.size := by simp; omega
  have c1 := check_any p (w.alloc (.cells #[.string p.name, .int .i64 p.n0, .int .i64 p.n1, .int .i64 p.n2, .int .i64 p.port, .slice p.labels.a p.labels.L.length p.labels.cap, .slice p.select.a p.select.L.length p.select.cap, .slice p.bears.a p.bears.L.length p.bears.cap, .slice p.near.a p.near.L.length p.near.cap, .slice p.apart.a p.apart.L.length p.apart.cap] 33)) (hok.below hW0)
  have h0' : (p.err == 0) = false := by simpa using h0
  have h0'' : (p.err != 0) = true := by simpa using h0
  clear h0
  unfold PodD.cells Lst.val at c1
  unfold PodD.cells Lst.val
  go_enter Try.func45, Try.ntmps45
  go_wp2_with (first
    | (go_at_call 10; refine c1.mono ?_; rintro e w1 ⟨rfl, hb1⟩; have s1 := fun o => hb1.cell (p := ⟨w.heap.size, o, none⟩) hz0; have y1 := fun o => hb1.cell (p := ⟨Y, o, none⟩) hzY; have hW1 := below_trans hW0 hb1; have z1 : w.heap.size < w1.heap.size := Nat.lt_of_lt_of_le hz0 hb1.size; have zY1 : Y < w1.heap.size := Nat.lt_of_lt_of_le hzY hb1.size))
  go_ret
  exact ⟨rfl, hW1⟩

set_option maxRecDepth 100000 in
set_option maxHeartbeats 400000 in
theorem bind_none (H : BMem F w Y hd g) (p : PodD) (node : ByteArray) (hok : p.ok w) (h0 : p.err = 0) (hnode : node.size ≤ maxLen) (h1 : getL g.NN (ky node) = none) :
    Calls Try.prog 45 #[.pointer (some ⟨Y, 0, none⟩), .agg p.cells, .string node] w fun e w' => e = .returned (.int .i64 4) ∧ Below w.heap.size w w' := by
  have hY := H.lt Y H.fy
  have hW0 : Below w.heap.size w (w.alloc (.cells #[.string p.name, .int .i64 p.n0, .int .i64 p.n1, .int .i64 p.n2, .int .i64 p.port, .slice p.labels.a p.labels.L.length p.labels.cap, .slice p.select.a p.select.L.length p.select.cap, .slice p.bears.a p.bears.L.length p.bears.cap, .slice p.near.a p.near.L.length p.near.cap, .slice p.apart.a p.apart.L.length p.apart.cap] 33)) := below_alloc _ _
  have hz0 : w.heap.size < (w.alloc (.cells #[.string p.name, .int .i64 p.n0, .int .i64 p.n1, .int .i64 p.n2, .int .i64 p.port, .slice p.labels.a p.labels.L.length p.labels.cap, .slice p.select.a p.select.L.length p.select.cap, .slice p.bears.a p.bears.L.length p.bears.cap, .slice p.near.a p.near.L.length p.near.cap, .slice p.apart.a p.apart.L.length p.apart.cap] 33)).heap.size := by simp
  have hzY : Y < (w.alloc (.cells #[.string p.name, .int .i64 p.n0, .int .i64 p.n1, .int .i64 p.n2, .int .i64 p.port, .slice p.labels.a p.labels.L.length p.labels.cap, .slice p.select.a p.select.L.length p.select.cap, .slice p.bears.a p.bears.L.length p.bears.cap, .slice p.near.a p.near.L.length p.near.cap, .slice p.apart.a p.apart.L.length p.apart.cap] 33)).heap.size := by simp; omega
  have c1 := check_any p (w.alloc (.cells #[.string p.name, .int .i64 p.n0, .int .i64 p.n1, .int .i64 p.n2, .int .i64 p.port, .slice p.labels.a p.labels.L.length p.labels.cap, .slice p.select.a p.select.L.length p.select.cap, .slice p.bears.a p.bears.L.length p.bears.cap, .slice p.near.a p.near.L.length p.near.cap, .slice p.apart.a p.apart.L.length p.apart.cap] 33)) (hok.below hW0)
  have c2 := fun W (hb : Below w.heap.size w W) => hasNode_any (H.below hb) node hnode
  rw [h0] at c1
  rw [h1] at c2
  unfold PodD.cells Lst.val at c1
  unfold PodD.cells Lst.val
  go_enter Try.func45, Try.ntmps45
  go_wp2_with (first
    | (go_at_call 10; refine c1.mono ?_; rintro e w1 ⟨rfl, hb1⟩; have s1 := fun o => hb1.cell (p := ⟨w.heap.size, o, none⟩) hz0; have y1 := fun o => hb1.cell (p := ⟨Y, o, none⟩) hzY; have hW1 := below_trans hW0 hb1; have z1 : w.heap.size < w1.heap.size := Nat.lt_of_lt_of_le hz0 hb1.size; have zY1 : Y < w1.heap.size := Nat.lt_of_lt_of_le hzY hb1.size)
    | (go_at_call 59; refine (c2 w1 hW1).mono ?_; rintro e w2 ⟨rfl, hb2⟩; have s2 := fun o => hb2.cell (p := ⟨w.heap.size, o, none⟩) z1; have y2 := fun o => hb2.cell (p := ⟨Y, o, none⟩) zY1; have hW2 := below_trans hW1 hb2))
  go_ret
  exact ⟨rfl, hW2⟩

set_option maxRecDepth 100000 in
set_option maxHeartbeats 400000 in
theorem bind_adm (H : BMem F w Y hd g) (p : PodD) (node : ByteArray) (hok : p.ok w) (h0 : p.err = 0) (hnode : node.size ≤ maxLen) (h1 : (getL g.NN (ky node)).isSome = true) (h2 : g.admits (ky p.name) ≠ 0) :
    Calls Try.prog 45 #[.pointer (some ⟨Y, 0, none⟩), .agg p.cells, .string node] w fun e w' => e = .returned (.int .i64 (g.admits (ky p.name))) ∧ Below w.heap.size w w' := by
  have hnm : p.name.size ≤ maxLen := by have := (p.good_facts h0).1; unfold maxLen; omega
  have hY := H.lt Y H.fy
  have hW0 : Below w.heap.size w (w.alloc (.cells #[.string p.name, .int .i64 p.n0, .int .i64 p.n1, .int .i64 p.n2, .int .i64 p.port, .slice p.labels.a p.labels.L.length p.labels.cap, .slice p.select.a p.select.L.length p.select.cap, .slice p.bears.a p.bears.L.length p.bears.cap, .slice p.near.a p.near.L.length p.near.cap, .slice p.apart.a p.apart.L.length p.apart.cap] 33)) := below_alloc _ _
  have hz0 : w.heap.size < (w.alloc (.cells #[.string p.name, .int .i64 p.n0, .int .i64 p.n1, .int .i64 p.n2, .int .i64 p.port, .slice p.labels.a p.labels.L.length p.labels.cap, .slice p.select.a p.select.L.length p.select.cap, .slice p.bears.a p.bears.L.length p.bears.cap, .slice p.near.a p.near.L.length p.near.cap, .slice p.apart.a p.apart.L.length p.apart.cap] 33)).heap.size := by simp
  have hzY : Y < (w.alloc (.cells #[.string p.name, .int .i64 p.n0, .int .i64 p.n1, .int .i64 p.n2, .int .i64 p.port, .slice p.labels.a p.labels.L.length p.labels.cap, .slice p.select.a p.select.L.length p.select.cap, .slice p.bears.a p.bears.L.length p.bears.cap, .slice p.near.a p.near.L.length p.near.cap, .slice p.apart.a p.apart.L.length p.apart.cap] 33)).heap.size := by simp; omega
  have c1 := check_any p (w.alloc (.cells #[.string p.name, .int .i64 p.n0, .int .i64 p.n1, .int .i64 p.n2, .int .i64 p.port, .slice p.labels.a p.labels.L.length p.labels.cap, .slice p.select.a p.select.L.length p.select.cap, .slice p.bears.a p.bears.L.length p.bears.cap, .slice p.near.a p.near.L.length p.near.cap, .slice p.apart.a p.apart.L.length p.apart.cap] 33)) (hok.below hW0)
  have c2 := fun W (hb : Below w.heap.size w W) => hasNode_any (H.below hb) node hnode
  have c3 := fun W (hb : Below w.heap.size w W) => padmits_any (H.below hb) p.name hnm
  rw [h0] at c1
  rw [h1] at c2
  have h0' : (g.admits (ky p.name) == 0) = false := by simpa using h2
  have h0'' : (g.admits (ky p.name) != 0) = true := by simpa using h2
  clear h2
  unfold PodD.cells Lst.val at c1
  unfold PodD.cells Lst.val
  go_enter Try.func45, Try.ntmps45
  go_wp2_with (first
    | (go_at_call 10; refine c1.mono ?_; rintro e w1 ⟨rfl, hb1⟩; have s1 := fun o => hb1.cell (p := ⟨w.heap.size, o, none⟩) hz0; have y1 := fun o => hb1.cell (p := ⟨Y, o, none⟩) hzY; have hW1 := below_trans hW0 hb1; have z1 : w.heap.size < w1.heap.size := Nat.lt_of_lt_of_le hz0 hb1.size; have zY1 : Y < w1.heap.size := Nat.lt_of_lt_of_le hzY hb1.size)
    | (go_at_call 59; refine (c2 w1 hW1).mono ?_; rintro e w2 ⟨rfl, hb2⟩; have s2 := fun o => hb2.cell (p := ⟨w.heap.size, o, none⟩) z1; have y2 := fun o => hb2.cell (p := ⟨Y, o, none⟩) zY1; have hW2 := below_trans hW1 hb2)
    | (go_at_call 52; refine (c3 w2 hW2).mono ?_; rintro e w3 ⟨rfl, rfl⟩))
  go_ret
  exact ⟨rfl, hW2⟩

set_option maxRecDepth 100000 in
set_option maxHeartbeats 400000 in
theorem bind_good (H : BMem F w Y hd g) (p : PodD) (node : ByteArray) (hok : p.ok w) (h0 : p.err = 0) (hnode : node.size ≤ maxLen) (h1 : (getL g.NN (ky node)).isSome = true) (h2 : g.admits (ky p.name) = 0) (hP : g.PP.length < 100000) (hF : g.FF.length < 100000) :
    Calls Try.prog 45 #[.pointer (some ⟨Y, 0, none⟩), .agg p.cells, .string node] w fun e w' => e = .returned (.int .i64 0) ∧ ∃ q, w.heap.size ≤ q ∧ BMem (grow F w w') w' Y hd ((g.layRaw (ky p.name) q (p.lies (ky node) true 0)).changed (ky node)) ∧ Kept F w w' := by
  have hgf := p.good_facts h0
  have hnm : p.name.size ≤ maxLen := by have := hgf.1; unfold maxLen; omega
  have hY := H.lt Y H.fy
  have hW0 : Below w.heap.size w (w.alloc (.cells #[.string p.name, .int .i64 p.n0, .int .i64 p.n1, .int .i64 p.n2, .int .i64 p.port, .slice p.labels.a p.labels.L.length p.labels.cap, .slice p.select.a p.select.L.length p.select.cap, .slice p.bears.a p.bears.L.length p.bears.cap, .slice p.near.a p.near.L.length p.near.cap, .slice p.apart.a p.apart.L.length p.apart.cap] 33)) := below_alloc _ _
  have hz0 : w.heap.size < (w.alloc (.cells #[.string p.name, .int .i64 p.n0, .int .i64 p.n1, .int .i64 p.n2, .int .i64 p.port, .slice p.labels.a p.labels.L.length p.labels.cap, .slice p.select.a p.select.L.length p.select.cap, .slice p.bears.a p.bears.L.length p.bears.cap, .slice p.near.a p.near.L.length p.near.cap, .slice p.apart.a p.apart.L.length p.apart.cap] 33)).heap.size := by simp
  have hzY : Y < (w.alloc (.cells #[.string p.name, .int .i64 p.n0, .int .i64 p.n1, .int .i64 p.n2, .int .i64 p.port, .slice p.labels.a p.labels.L.length p.labels.cap, .slice p.select.a p.select.L.length p.select.cap, .slice p.bears.a p.bears.L.length p.bears.cap, .slice p.near.a p.near.L.length p.near.cap, .slice p.apart.a p.apart.L.length p.apart.cap] 33)).heap.size := by simp; omega
  have c1 := check_any p (w.alloc (.cells #[.string p.name, .int .i64 p.n0, .int .i64 p.n1, .int .i64 p.n2, .int .i64 p.port, .slice p.labels.a p.labels.L.length p.labels.cap, .slice p.select.a p.select.L.length p.select.cap, .slice p.bears.a p.bears.L.length p.bears.cap, .slice p.near.a p.near.L.length p.near.cap, .slice p.apart.a p.apart.L.length p.apart.cap] 33)) (hok.below hW0)
  have c2 := fun W (hb : Below w.heap.size w W) => hasNode_any (H.below hb) node hnode
  have c3 := fun W (hb : Below w.heap.size w W) => padmits_any (H.below hb) p.name hnm
  have c4 := fun W (hb : Below w.heap.size w W) => play_any (H.below hb) p node 1 0 true rfl (hok.below hb) hnm hnode (fun x hx => by have := hgf.2 x hx; omega) hP hF
  rw [h0] at c1
  rw [h1] at c2
  rw [h2] at c3
  clear hgf
  unfold PodD.cells Lst.val at c1 c4
  unfold PodD.cells Lst.val
  go_enter Try.func45, Try.ntmps45
  go_wp2_with (first
    | (go_at_call 10; refine c1.mono ?_; rintro e w1 ⟨rfl, hb1⟩; have s1 := fun o => hb1.cell (p := ⟨w.heap.size, o, none⟩) hz0; have y1 := fun o => hb1.cell (p := ⟨Y, o, none⟩) hzY; have hW1 := below_trans hW0 hb1; have z1 : w.heap.size < w1.heap.size := Nat.lt_of_lt_of_le hz0 hb1.size; have zY1 : Y < w1.heap.size := Nat.lt_of_lt_of_le hzY hb1.size)
    | (go_at_call 59; refine (c2 w1 hW1).mono ?_; rintro e w2 ⟨rfl, hb2⟩; have s2 := fun o => hb2.cell (p := ⟨w.heap.size, o, none⟩) z1; have y2 := fun o => hb2.cell (p := ⟨Y, o, none⟩) zY1; have hW2 := below_trans hW1 hb2)
    | (go_at_call 52; refine (c3 w2 hW2).mono ?_; rintro e w3 ⟨rfl, rfl⟩)
    | (go_at_call 54; refine (c4 _ hW2).mono ?_; rintro e w4 ⟨rfl, q, hq, hB4, hK4⟩))
  go_ret
  have hs2 := hW2.size
  have hs4 := hK4.size
  exact ⟨rfl, q, by omega, hB4.more (fun b h => h.elim .inl fun h => .inr ⟨by omega, h.2⟩) (fun b h => h.elim (fun h => by have := H.lt b h; omega) (fun h => h.2)), (Kept.of_below hW2).trans hK4 fun i _ h => h⟩

theorem pBind_any (H : BMem F w Y hd g) (p : PodD) (node : ByteArray) (hok : p.ok w) (hnode : node.size ≤ maxLen) (hP : g.PP.length < 100000) (hF : g.FF.length < 100000) :
    Calls Try.prog 45 #[.pointer (some ⟨Y, 0, none⟩), .agg p.cells, .string node] w fun e w' => ∃ g', e = .returned (.int .i64 (g.bindErr p (ky node))) ∧ BMem (grow F w w') w' Y hd g' ∧ Kept F w w' ∧ g.BindTo p (ky node) g' := by
  by_cases h0 : p.err = 0
  · cases h1 : getL g.NN (ky node) with
    | none =>
      have he : g.bindErr p (ky node) = 4 := by simp [Gh.bindErr, h0, h1]
      exact (bind_none H p node hok h0 hnode h1).mono fun e w' h => ⟨g, by rw [he]; exact h.1, H.grows h.2, Kept.of_below h.2, .inl ⟨by rw [he]; decide, rfl⟩⟩
    | some x =>
      have he : g.bindErr p (ky node) = g.admits (ky p.name) := by simp [Gh.bindErr, h0, h1]
      by_cases h2 : g.admits (ky p.name) = 0
      · exact (bind_good H p node hok h0 hnode (by rw [h1]; rfl) h2 hP hF).mono fun e w' ⟨h, q, _, h3, h4⟩ => ⟨_, by rw [he, h2]; exact h, h3, h4, .inr ⟨by rw [he]; exact h2, q, rfl⟩⟩
      · exact (bind_adm H p node hok h0 hnode (by rw [h1]; rfl) h2).mono fun e w' h => ⟨g, by rw [he]; exact h.1, H.grows h.2, Kept.of_below h.2, .inl ⟨by rw [he]; exact h2, rfl⟩⟩
  · have he : g.bindErr p (ky node) = p.err := by simp [Gh.bindErr, h0]
    exact (bind_bad H p node hok h0).mono fun e w' h => ⟨g, by rw [he]; exact h.1, H.grows h.2, Kept.of_below h.2, .inl ⟨by rw [he]; exact h0, rfl⟩⟩

end

end Go.Proofs.Ytchddaafibjmgaa
