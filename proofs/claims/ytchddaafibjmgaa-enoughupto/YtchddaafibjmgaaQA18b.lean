/-
  The program's Schedule, walked.
  The program's Schedule, walked: a node takes the pod.
-/
import Derived.Test.YtchddaafibjmgaaQPChoose3
import Derived.Test.YtchddaafibjmgaaQA18
namespace Go.Proofs.Ytchddaafibjmgaa
open Go.RowKit Go.Maps

/-- A reply with an error alone. -/
def repE (e : Int) : Rep := ⟨e, [], 0, [], 0⟩

section
variable {F0 : Nat → Prop} {w0 : World} {Y : Nat} {hd : Head} {g0 : Gh}

set_option maxRecDepth 100000 in
set_option maxHeartbeats 2000000 in
theorem sched_bad (p : PodD) (hok : p.ok w0) (h0 : p.err ≠ 0) :
    Calls Try.prog 33 #[.pointer (some ⟨Y, 0, none⟩), .agg p.cells] w0 fun e w' => e = .returned (repV (repE p.err) none 0) ∧ Below w0.heap.size w0 w' := by
  obtain ⟨wL, hwL⟩ : ∃ W, W = (w0.alloc (.cells p.cells 33)).alloc (.cells repZero 59) := ⟨_, rfl⟩
  have hbL : Below w0.heap.size w0 wL := by rw [hwL]; exact below_trans (below_alloc _ _) (below_alloc _ _)
  have zL : wL.heap.size = w0.heap.size + 2 := by rw [hwL]; simp
  have resL : wL.heap[w0.heap.size + 1]? = some (.cells repZero 59 (0, 0)) := by
    have := block_alloc_new (w0.alloc (.cells p.cells 33)) (.cells repZero 59)
    rw [hwL]
    simpa using this
  have c1 := check_any p wL (hok.below hbL)
  have h0' : (p.err == 0) = false := by simpa using h0
  have h0'' : (p.err != 0) = true := by simpa using h0
  have HE : Hid (p.err ≠ 0) := h0
  clear h0
  unfold PodD.cells Lst.val at c1 hwL ⊢
  unfold repZero at hwL
  rw [hwL] at c1
  go_enter Try.func33, Try.ntmps33
  go_wp2_with (go_at_call 10; refine c1.mono ?_; rintro e w1 ⟨rfl, hb1⟩; rw [← hwL] at hb1; have res1 := (hb1.block _ (by omega)).trans resL; have f1 := fun o => frozen_of_block (i := o) res1; have q0 : w1.cell? ⟨w0.heap.size + 1, 0, none⟩ = some (.int .i64 0) := (by rw [cell_of_block res1]; rfl); have q1 : w1.cell? ⟨w0.heap.size + 1, 1, none⟩ = some (.string ⟨#[]⟩) := (by rw [cell_of_block res1]; rfl); have q2 : w1.cell? ⟨w0.heap.size + 1, 2, none⟩ = some (.int .i64 0) := (by rw [cell_of_block res1]; rfl); have q3 : w1.cell? ⟨w0.heap.size + 1, 3, none⟩ = some (.slice none 0 0) := (by rw [cell_of_block res1]; rfl); have q4 : w1.cell? ⟨w0.heap.size + 1, 4, none⟩ = some (.int .i64 0) := (by rw [cell_of_block res1]; rfl))
  have hblk := five_cells res1 (.int .i64 p.err) (.string ⟨#[]⟩) (.int .i64 0) (.slice none 0 0) (.int .i64 0)
  refine bodyPost_ret (v := .agg #[.int .i64 p.err, .string ⟨#[]⟩, .int .i64 0, .slice none 0 0, .int .i64 0]) (results_cell rfl rfl (run_loadVar_row _ _ _ _ _ _ _ hblk Try.underlying59 rfl sizeRT)) rfl ?_
  refine ⟨rfl, (below_trans hbL hb1).trans ?_⟩
  exact ((((((Kept.refl (fun b => b = w0.heap.size + 1) w1).setCell (p := ⟨w0.heap.size + 1, 0, none⟩) (fun _ => rfl) _).setCell (p := ⟨w0.heap.size + 1, 1, none⟩) (fun _ => rfl) _).setCell (p := ⟨w0.heap.size + 1, 2, none⟩) (fun _ => rfl) _).setCell (p := ⟨w0.heap.size + 1, 3, none⟩) (fun _ => rfl) _).setCell (p := ⟨w0.heap.size + 1, 4, none⟩) (fun _ => rfl) _).below (by have := hb1.size; omega) fun i hi e => by omega

set_option maxRecDepth 100000 in
set_option maxHeartbeats 2000000 in
theorem sched_adm (H : BMem F0 w0 Y hd g0) (p : PodD) (hok : p.ok w0) (h0 : p.err = 0) (h1 : g0.admits (ky p.name) ≠ 0) :
    Calls Try.prog 33 #[.pointer (some ⟨Y, 0, none⟩), .agg p.cells] w0 fun e w' => e = .returned (repV (repE (g0.admits (ky p.name))) none 0) ∧ Below w0.heap.size w0 w' := by
  obtain ⟨wL, hwL⟩ : ∃ W, W = (w0.alloc (.cells p.cells 33)).alloc (.cells repZero 59) := ⟨_, rfl⟩
  have hbL : Below w0.heap.size w0 wL := by rw [hwL]; exact below_trans (below_alloc _ _) (below_alloc _ _)
  have zL : wL.heap.size = w0.heap.size + 2 := by rw [hwL]; simp
  have resL : wL.heap[w0.heap.size + 1]? = some (.cells repZero 59 (0, 0)) := by
    have := block_alloc_new (w0.alloc (.cells p.cells 33)) (.cells repZero 59)
    rw [hwL]
    simpa using this
  have boxL : BoxAt wL w0.heap.size p := by
    unfold BoxAt
    rw [hwL, Below.heap_alloc _ _ _ (by simp)]
    exact block_alloc_new _ _
  have hgd := PodD.good_Good (PodD.err_good.1 h0)
  have hnm : p.name.size ≤ maxLen := by have := hgd.name; unfold maxLen; omega
  have c1 := check_any p wL (hok.below hbL)
  rw [h0] at c1
  have c2 := fun W (hb : Below w0.heap.size w0 W) => padmits_any (H.below hb) p.name hnm
  generalize g0.admits (ky p.name) = er at *
  have h0' : (er == 0) = false := by simpa using h1
  have h0'' : (er != 0) = true := by simpa using h1
  clear h1 h0 hgd
  unfold PodD.cells Lst.val at c1 hwL ⊢
  unfold repZero at hwL
  rw [hwL] at c1
  go_enter Try.func33, Try.ntmps33
  go_wp2_with (first
    | (go_at_call 10; refine c1.mono ?_; rintro e w1 ⟨rfl, hb1⟩; rw [← hwL] at hb1; have hW1 := below_trans hbL hb1; have res1 := (hb1.block _ (by omega)).trans resL; have box1 : BoxAt w1 w0.heap.size p := (hb1.block _ (by omega)).trans boxL; obtain ⟨p0, p1, p2, p3, p4, p5, p6, p7, p8, p9⟩ := boxC box1; have f1 := fun o => frozen_of_block (i := o) res1; have q0 : w1.cell? ⟨w0.heap.size + 1, 0, none⟩ = some (.int .i64 0) := (by rw [cell_of_block res1]; rfl); have q1 : w1.cell? ⟨w0.heap.size + 1, 1, none⟩ = some (.string ⟨#[]⟩) := (by rw [cell_of_block res1]; rfl); have q2 : w1.cell? ⟨w0.heap.size + 1, 2, none⟩ = some (.int .i64 0) := (by rw [cell_of_block res1]; rfl); have q3 : w1.cell? ⟨w0.heap.size + 1, 3, none⟩ = some (.slice none 0 0) := (by rw [cell_of_block res1]; rfl); have q4 : w1.cell? ⟨w0.heap.size + 1, 4, none⟩ = some (.int .i64 0) := (by rw [cell_of_block res1]; rfl))
    | (go_at_call 52; refine (c2 _ hW1).mono ?_; rintro e w1 ⟨rfl, rfl⟩))
  have hblk := five_cells res1 (.int .i64 er) (.string ⟨#[]⟩) (.int .i64 0) (.slice none 0 0) (.int .i64 0)
  refine bodyPost_ret (v := .agg #[.int .i64 er, .string ⟨#[]⟩, .int .i64 0, .slice none 0 0, .int .i64 0]) (results_cell rfl rfl (run_loadVar_row _ _ _ _ _ _ _ hblk Try.underlying59 rfl sizeRT)) rfl ?_
  refine ⟨rfl, hW1.trans ?_⟩
  exact ((((((Kept.refl (fun b => b = w0.heap.size + 1) w1).setCell (p := ⟨w0.heap.size + 1, 0, none⟩) (fun _ => rfl) _).setCell (p := ⟨w0.heap.size + 1, 1, none⟩) (fun _ => rfl) _).setCell (p := ⟨w0.heap.size + 1, 2, none⟩) (fun _ => rfl) _).setCell (p := ⟨w0.heap.size + 1, 3, none⟩) (fun _ => rfl) _).setCell (p := ⟨w0.heap.size + 1, 4, none⟩) (fun _ => rfl) _).below (by have := hb1.size; omega) fun i hi e => by omega

/-- What Schedule leaves where it came as far as the nodes. -/
structure SchedTo (F0 : Nat → Prop) (w0 : World) (g0 : Gh) (hd : Head) (Y : Nat) (r : Rep) (oo : Option Addr) (oc : Nat) (F : Nat → Prop) (w' : World) (G : Gh) : Prop where
  mem : BMem F w' Y hd G
  less : ∀ b, F b → grow F0 w0 w' b
  kept : Kept F0 w0 w'
  sound : Sound hd G
  rsn : w'.ownsRow 0 103 2 (.slice oo r.reasons.length oc) r.reasons.length (r.reasons.flatMap rsnRow)
  rnew : ∀ b, (Value.slice oo r.reasons.length oc).ownBlock = some b → w0.heap.size ≤ b ∧ ¬ F b

/-- Behind the choice: the reply's box is new; what is fresh is told and cleared. -/
theorem ChosenTo.behind {w1 w2 : World} {r : Rep} {oo : Option Addr} {oc : Nat} {F : Nat → Prop} {G : Gh} {p : PodD} (T : ChosenTo F0 w1 g0 hd Y p r oo oc F w2 G) :
    (∀ o, (w2.alloc o).cell? ⟨Y, 6, none⟩ = some (.map (some G.bf))) ∧ (∀ o ty, (Builtin.len_ #[106] ty #[.map (some G.bf)]).run Try.prog (w2.alloc o) = .ok (.int .i64 g0.FF.length) (w2.alloc o)) ∧
      ∀ o, ∃ w4, (∀ ty, (Builtin.clear_ #[106] ty #[.map (some G.bf)]).run Try.prog (w2.alloc o) = .ok (.tuple #[]) w4) ∧ BMem F w4 Y hd { G with FF := [] } ∧ Kept (fun b => b = G.bf) (w2.alloc o) w4 ∧ w4.heap[w2.heap.size]? = some o ∧ (∀ c X, w1.heap[c]? = some X → ¬ F0 c → w4.heap[c]? = some X) ∧ p.ok w4 := by
  have hF := T.mem.fm G.bf (by simp [Gh.maps])
  have hlt := T.mem.lt _ hF
  refine ⟨fun o => (T.mem.below (below_alloc w2 o)).cF, fun o ty => ?_, fun o => ?_⟩
  · have := (T.mem.below (below_alloc w2 o)).fr.len Try.underlying106 ty
    rw [mapV_length, T.ff] at this
    exact this
  · have H3 := T.mem.below (below_alloc w2 o)
    obtain ⟨w4, h1, h2, h3⟩ := H3.fr.clearAll Try.underlying106
    have hk := Kept.turned h3
    refine ⟨w4, h1, H3.setF hk h2, hk, ?_, fun c X hc hn => ?_, (T.ok.below (below_alloc w2 o)).keptNo hk fun b o' h => by subst h; exact cell_of_map (H3.isMap (by simp [Gh.maps])) o'⟩
    · rw [hk.block _ (by simp) (by omega)]
      exact block_alloc_new _ _
    · have hc1 := lt_of_block hc
      have hc2 := T.kept.size
      have hne : ¬ c = G.bf := fun e => by
        subst e
        rcases T.less _ hF with h | h
        · exact hn h
        · omega
      rw [hk.block _ (by simp; omega) hne, Below.heap_alloc _ _ _ (by omega), T.kept.block _ hc1 hn]
      exact hc

theorem ChosenTo.fits {w1 w2 w4 w' : World} {r r' : Rep} {oo : Option Addr} {oc : Nat} {F : Nat → Prop} {G : Gh} {p : PodD} (T : ChosenTo F0 w1 g0 hd Y p r oo oc F w2 G) (f0 : ∀ b, F0 b → b < w0.heap.size) (hW1 : Below w0.heap.size w0 w1) (hz1 : w0.heap.size + 2 ≤ w1.heap.size) {o : Obj} (H4 : BMem F w4 Y hd { G with FF := [] }) (k4 : Kept (fun b => b = G.bf) (w2.alloc o) w4) (hk : Kept (fun b => b = w0.heap.size + 1) w4 w') (hr : r'.reasons = r.reasons) :
    SchedTo F0 w0 g0 hd Y r' oo oc F w' { G with FF := [] } := by
  have hF := T.mem.fm G.bf (by simp [Gh.maps])
  have hz12 := T.kept.size
  have z4 := k4.size
  simp only [World.size_alloc] at z4
  have nF : ∀ b, F b → ¬ b = w0.heap.size + 1 := fun b hb e => by
    rcases T.less b hb with h | h
    · have := f0 b h; omega
    · omega
  refine ⟨H4.kept hk nF (fun _ h => h) (fun b hb => Nat.lt_of_lt_of_le (H4.lt b hb) hk.size), fun b hb => ?_, ?_, T.sound.clearF, ?_, ?_⟩
  · rcases T.less b hb with h | h
    · exact .inl h
    · exact .inr ⟨by omega, by have := hk.size; omega⟩
  · refine ((((Kept.of_below hW1).trans T.kept fun _ _ h => h).trans (Kept.of_below (F := noBlock) (below_alloc w2 o)) fun _ _ h => h.elim).trans k4 fun i hi e => ?_).trans hk fun i hi e => by omega
    subst e
    rcases T.less _ hF with h | h
    · exact h
    · omega
  · rw [hr]
    refine hk.ownsRow (k4.ownsRow ((Kept.of_below (F := noBlock) (below_alloc w2 o)).ownsRow T.rsn fun _ _ => id) fun b hb e => ?_) fun b hb e => ?_
    · subst e
      exact (T.rnew _ hb).2 hF
    · have := (T.rnew b hb).1
      omega
  · rw [hr]
    intro b hb
    have := T.rnew b hb
    exact ⟨by omega, this.2⟩

set_option maxRecDepth 100000 in
set_option maxHeartbeats 4000000 in
theorem sched_fit (H : BMem F0 w0 Y hd g0) (S : Sound hd g0) (p : PodD) (hok : p.ok w0) (h0 : p.err = 0) (h1 : g0.admits (ky p.name) = 0) (h2 : (chooseA g0.nodes g0.pods p.val).err ≠ 0) :
    Calls Try.prog 33 #[.pointer (some ⟨Y, 0, none⟩), .agg p.cells] w0 fun e w' => ∃ oo oc F G, e = .returned (repV { chooseA g0.nodes g0.pods p.val with fresh := g0.FF.length } oo oc) ∧ SchedTo F0 w0 g0 hd Y { chooseA g0.nodes g0.pods p.val with fresh := g0.FF.length } oo oc F w' G ∧ G.NN = g0.NN ∧ G.PP = g0.PP ∧ G.FF = [] ∧ G.WW = g0.WW := by
  obtain ⟨wL, hwL⟩ : ∃ W, W = (w0.alloc (.cells p.cells 33)).alloc (.cells repZero 59) := ⟨_, rfl⟩
  have hbL : Below w0.heap.size w0 wL := by rw [hwL]; exact below_trans (below_alloc _ _) (below_alloc _ _)
  have zL : wL.heap.size = w0.heap.size + 2 := by rw [hwL]; simp
  have resL : wL.heap[w0.heap.size + 1]? = some (.cells repZero 59 (0, 0)) := by
    have := block_alloc_new (w0.alloc (.cells p.cells 33)) (.cells repZero 59)
    rw [hwL]
    simpa using this
  have boxL : BoxAt wL w0.heap.size p := by
    unfold BoxAt
    rw [hwL, Below.heap_alloc _ _ _ (by simp)]
    exact block_alloc_new _ _
  have hgd := PodD.good_Good (PodD.err_good.1 h0)
  have hnm : p.name.size ≤ maxLen := by have := hgd.name; unfold maxLen; omega
  have c1 := check_any p wL (hok.below hbL)
  rw [h0] at c1
  have c2 := fun W (hb : Below w0.heap.size w0 W) => padmits_any (H.below hb) p.name hnm
  rw [h1] at c2
  have c3 := fun W (hb : Below w0.heap.size w0 W) => choose_any (H.below hb) S p (hok.below hb) hgd
  have hfr := chooseA_fresh g0.nodes g0.pods p.val
  unfold repV at c3 ⊢
  rw [hfr] at c3
  generalize chooseA g0.nodes g0.pods p.val = r at *
  have h2' : (r.err == 0) = false := by simpa using h2
  have h2'' : (r.err != 0) = true := by simpa using h2
  have HH : Hid (BMem F0 w0 Y hd g0) := H
  have hY := H.lt Y H.fy
  clear h0 h1 h2 hgd hfr H S
  unfold PodD.cells Lst.val at c1 c3 hwL ⊢
  unfold repZero at hwL
  rw [hwL] at c1
  go_enter Try.func33, Try.ntmps33
  go_wp2_with (first
    | (go_at_call 10; refine c1.mono ?_; rintro e w1 ⟨rfl, hb1⟩; rw [← hwL] at hb1; have hW1 := below_trans hbL hb1; have res1 := (hb1.block _ (by omega)).trans resL; have box1 : BoxAt w1 w0.heap.size p := (hb1.block _ (by omega)).trans boxL; obtain ⟨p0, p1, p2, p3, p4, p5, p6, p7, p8, p9⟩ := boxC box1)
    | (go_at_call 52; refine (c2 _ hW1).mono ?_; rintro e w1 ⟨rfl, rfl⟩)
    | (go_at_call 53; refine (c3 _ hW1).mono ?_; rintro e w2 ⟨oo, oc, F, G, rfl, T⟩; obtain ⟨y6, len3, cl3⟩ := T.behind; obtain ⟨w4, cl4, H4, k4, x4, c4, ok4⟩ := cl3 (.cells #[.int .i64 r.err, .string (bs r.node), .int .i64 r.score, .slice oo r.reasons.length oc, .int .i64 g0.FF.length] 59); have res4 := c4 _ _ res1 (fun h => by have := HH.out.lt _ h; omega); have lY2 := T.mem.lt Y T.mem.fy; have HT : Hid _ := T; have H4' : Hid _ := H4; have z12 := T.kept.size; have z1 := hb1.size; clear T cl3 c1 c2 c3 H4; have e0 : w4.cell? ⟨w2.heap.size, 0, none⟩ = some (.int .i64 r.err) := (by rw [cell_of_block x4]; rfl); have e1 : w4.cell? ⟨w2.heap.size, 1, none⟩ = some (.string (bs r.node)) := (by rw [cell_of_block x4]; rfl); have e2 : w4.cell? ⟨w2.heap.size, 2, none⟩ = some (.int .i64 r.score) := (by rw [cell_of_block x4]; rfl); have e3 : w4.cell? ⟨w2.heap.size, 3, none⟩ = some (.slice oo r.reasons.length oc) := (by rw [cell_of_block x4]; rfl); have e4 : w4.cell? ⟨w2.heap.size, 4, none⟩ = some (.int .i64 g0.FF.length) := (by rw [cell_of_block x4]; rfl); have f1 := fun o => frozen_of_block (i := o) res4; have q0 : w4.cell? ⟨w0.heap.size + 1, 0, none⟩ = some (.int .i64 0) := (by rw [cell_of_block res4]; rfl); have q1 : w4.cell? ⟨w0.heap.size + 1, 1, none⟩ = some (.string ⟨#[]⟩) := (by rw [cell_of_block res4]; rfl); have q2 : w4.cell? ⟨w0.heap.size + 1, 2, none⟩ = some (.int .i64 0) := (by rw [cell_of_block res4]; rfl); have q3 : w4.cell? ⟨w0.heap.size + 1, 3, none⟩ = some (.slice none 0 0) := (by rw [cell_of_block res4]; rfl); have q4 : w4.cell? ⟨w0.heap.size + 1, 4, none⟩ = some (.int .i64 0) := (by rw [cell_of_block res4]; rfl)))
  have hblk := five_cells res4 (.int .i64 r.err) (.string (bs r.node)) (.int .i64 r.score) (.slice oo r.reasons.length oc) (.int .i64 g0.FF.length)
  refine bodyPost_ret (v := .agg #[.int .i64 r.err, .string (bs r.node), .int .i64 r.score, .slice oo r.reasons.length oc, .int .i64 g0.FF.length]) (results_cell rfl rfl (run_loadVar_row _ _ _ _ _ _ _ hblk Try.underlying59 rfl sizeRT)) rfl ?_
  have K := ((((((Kept.refl (fun b => b = w0.heap.size + 1) w4).setCell (p := ⟨w0.heap.size + 1, 0, none⟩) (fun _ => rfl) (.int .i64 r.err)).setCell (p := ⟨w0.heap.size + 1, 1, none⟩) (fun _ => rfl) (.string (bs r.node))).setCell (p := ⟨w0.heap.size + 1, 2, none⟩) (fun _ => rfl) (.int .i64 r.score)).setCell (p := ⟨w0.heap.size + 1, 3, none⟩) (fun _ => rfl) (.slice oo r.reasons.length oc)).setCell (p := ⟨w0.heap.size + 1, 4, none⟩) (fun _ => rfl) (.int .i64 g0.FF.length))
  exact ⟨oo, oc, F, _, rfl, HT.out.fits HH.out.lt hW1 (by omega) H4'.out k4 K rfl, HT.out.nn, HT.out.pp, rfl, HT.out.ww⟩

end

end Go.Proofs.Ytchddaafibjmgaa

namespace Go.Proofs.Ytchddaafibjmgaa
open Go.RowKit Go.Maps

section
variable {F0 : Nat → Prop} {w0 : World} {Y : Nat} {hd : Head} {g0 : Gh}

theorem SchedTo.laid {F0 : Nat → Prop} {w0 : World} {g0 : Gh} {hd : Head} {Y : Nat} {r : Rep} {oo : Option Addr} {oc : Nat} {F F' : Nat → Prop} {w4 w5 w' : World} {G G' : Gh} (T : SchedTo F0 w0 g0 hd Y r oo oc F w4 G) (hz : w0.heap.size + 2 ≤ w4.heap.size) (hF : ∀ b, F b → ¬ b = w0.heap.size + 1) (hR : ∀ b, (Value.slice oo r.reasons.length oc).ownBlock = some b → ¬ b = w0.heap.size + 1) (H5 : BMem F' w5 Y hd G') (hF' : ∀ b, F' b → grow F w4 w5 b) (k5 : Kept F w4 w5) (hk : Kept (fun b => b = w0.heap.size + 1) w5 w') (S : Sound hd G') : SchedTo F0 w0 g0 hd Y r oo oc F' w' G' := by
  have z5 := k5.size
  have hz' := hk.size
  have hn : ∀ b, F' b → ¬ b = w0.heap.size + 1 := fun b hb e => by
    rcases hF' b hb with h | h
    · exact hF b h e
    · omega
  have rlt : ∀ b, (Value.slice oo r.reasons.length oc).ownBlock = some b → b < w4.heap.size := fun b hb => by
    obtain ⟨c, hc⟩ := row_typeS T.rsn hb
    exact lt_of_block hc
  refine ⟨H5.kept hk hn (fun _ h => h) (fun b hb => Nat.lt_of_lt_of_le (H5.lt b hb) hz'), fun b hb => ?_, (T.kept.trans k5 fun i hi h => ?_).trans hk fun i hi e => by omega, S, hk.ownsRow (k5.ownsRow T.rsn fun b hb h => (T.rnew b hb).2 h) fun b hb e => ?_, fun b hb => ⟨(T.rnew b hb).1, fun h => ?_⟩⟩
  · rcases hF' b hb with h | h
    · exact (T.less b h).imp id fun h => ⟨h.1, by omega⟩
    · exact .inr ⟨by have := T.kept.size; omega, by omega⟩
  · rcases T.less i h with h | h
    · exact h
    · omega
  · exact hR b hb e
  · rcases hF' b h with h | h
    · exact (T.rnew b hb).2 h
    · have := rlt b hb
      omega

set_option maxRecDepth 100000 in
set_option maxHeartbeats 4000000 in
theorem sched_ok (H : BMem F0 w0 Y hd g0) (S : Sound hd g0) (p : PodD) (hok : p.ok w0) (h0 : p.err = 0) (h1 : g0.admits (ky p.name) = 0) (h2 : (chooseA g0.nodes g0.pods p.val).err = 0) :
    Calls Try.prog 33 #[.pointer (some ⟨Y, 0, none⟩), .agg p.cells] w0 fun e w' => ∃ (oo : Option Addr) (oc : Nat) (F : Nat → Prop) (G : Gh) (q : Nat), e = .returned (repV { chooseA g0.nodes g0.pods p.val with fresh := g0.FF.length } oo oc) ∧ SchedTo F0 w0 g0 hd Y { chooseA g0.nodes g0.pods p.val with fresh := g0.FF.length } oo oc F w' ((({ G with FF := [] } : Gh).layRaw (ky p.name) q (p.lies (chooseA g0.nodes g0.pods p.val).node false hd.now)).changed (chooseA g0.nodes g0.pods p.val).node) ∧ G.NN = g0.NN ∧ G.PP = g0.PP ∧ G.WW = g0.WW := by
  obtain ⟨wL, hwL⟩ : ∃ W, W = (w0.alloc (.cells p.cells 33)).alloc (.cells repZero 59) := ⟨_, rfl⟩
  have hbL : Below w0.heap.size w0 wL := by rw [hwL]; exact below_trans (below_alloc _ _) (below_alloc _ _)
  have zL : wL.heap.size = w0.heap.size + 2 := by rw [hwL]; simp
  have resL : wL.heap[w0.heap.size + 1]? = some (.cells repZero 59 (0, 0)) := by
    have := block_alloc_new (w0.alloc (.cells p.cells 33)) (.cells repZero 59)
    rw [hwL]
    simpa using this
  have boxL : BoxAt wL w0.heap.size p := by
    unfold BoxAt
    rw [hwL, Below.heap_alloc _ _ _ (by simp)]
    exact block_alloc_new _ _
  have hgd := PodD.good_Good (PodD.err_good.1 h0)
  have hnm : p.name.size ≤ maxLen := by have := hgd.name; unfold maxLen; omega
  have c1 := check_any p wL (hok.below hbL)
  rw [h0] at c1
  have c2 := fun W (hb : Below w0.heap.size w0 W) => padmits_any (H.below hb) p.name hnm
  rw [h1] at c2
  have c3 := fun W (hb : Below w0.heap.size w0 W) => choose_any (H.below hb) S p (hok.below hb) hgd
  have hfr := chooseA_fresh g0.nodes g0.pods p.val
  obtain ⟨nd, hnd, hndn, _⟩ := chooseA_ok h2
  obtain ⟨q', hq', rfl⟩ := mem_mapV.1 hnd
  have hnl : (chooseA g0.nodes g0.pods p.val).node.length ≤ 20 := by rw [← hndn]; exact S.b.nk q' hq'
  have HL : Hid (∀ x ∈ p.lists, x.L.length ≤ 1000) := fun x hx => by have := (hgd.lists x hx).1; omega
  have HPP : Hid (g0.PP.length < 100000) := by show g0.PP.length < 100000; have := S.b.small.pods; omega
  have HLays : Hid (∀ G : Gh, G.NN = g0.NN → G.PP = g0.PP → LaysOk hd ({ G with FF := [] } : Gh) (ky p.name) (p.lies (chooseA g0.nodes g0.pods p.val).node false hd.now)) := fun G e1 e2 => by
    have hadm := h1
    unfold Gh.admits at hadm
    have a1 : getL g0.PP (ky p.name) = none := by
      cases e : getL g0.PP (ky p.name) with
      | none => rfl
      | some x => rw [e] at hadm; simp at hadm
    have a2 : g0.PP.length < 128 := by
      rw [a1] at hadm
      simp at hadm
      omega
    refine ⟨by rw [e2]; exact a1, by rw [e2]; exact a2, by rw [ky_length]; exact hgd.name.2, ?_, hgd.need, S.b.now.1, Int.le_refl _⟩
    show (getL G.NN (chooseA g0.nodes g0.pods p.val).node).isSome = true
    rw [e1, ← hndn, getL_of_mem H.sortN.distinct hq']
    rfl
  clear hnd hndn hq'
  unfold repV at c3 ⊢
  rw [hfr] at c3
  generalize chooseA g0.nodes g0.pods p.val = r at *
  have HH : Hid (BMem F0 w0 Y hd g0) := H
  have hY := H.lt Y H.fy
  clear h0 h1 hgd hfr H S
  rw [h2] at c3 ⊢
  clear h2
  unfold PodD.cells Lst.val at c1 c3 hwL ⊢
  unfold repZero at hwL
  rw [hwL] at c1
  go_enter Try.func33, Try.ntmps33
  go_wp2_with (first
    | (go_at_call 10; refine c1.mono ?_; rintro e w1 ⟨rfl, hb1⟩; rw [← hwL] at hb1; have hW1 := below_trans hbL hb1; have res1 := (hb1.block _ (by omega)).trans resL; have box1 : BoxAt w1 w0.heap.size p := (hb1.block _ (by omega)).trans boxL; obtain ⟨p0, p1, p2, p3, p4, p5, p6, p7, p8, p9⟩ := boxC box1)
    | (go_at_call 52; refine (c2 _ hW1).mono ?_; rintro e w1 ⟨rfl, rfl⟩)
    | (go_at_call 53; refine (c3 _ hW1).mono ?_; rintro e w2 ⟨oo, oc, F, G, rfl, T⟩; obtain ⟨y6, len3, cl3⟩ := T.behind; obtain ⟨w4, cl4, H4, k4, x4, c4, ok4⟩ := cl3 (.cells #[.int .i64 0, .string (bs r.node), .int .i64 r.score, .slice oo r.reasons.length oc, .int .i64 g0.FF.length] 59); have res4 := c4 _ _ res1 (fun h => by have := HH.out.lt _ h; omega); have lY2 := T.mem.lt Y T.mem.fy; have HT : Hid _ := T; have H4' : Hid _ := H4; have z12 := T.kept.size; have z1 := hb1.size; clear T cl3 c1 c2 c3 H4; obtain ⟨-, -, -, hnow, -⟩ := H4'.out.cells; have box4 : BoxAt w4 w0.heap.size p := c4 _ _ box1 (fun h => by have := HH.out.lt _ h; omega); obtain ⟨p0, p1, p2, p3, p4, p5, p6, p7, p8, p9⟩ := boxC box4; have e0 : w4.cell? ⟨w2.heap.size, 0, none⟩ = some (.int .i64 0) := (by rw [cell_of_block x4]; rfl); have e1 : w4.cell? ⟨w2.heap.size, 1, none⟩ = some (.string (bs r.node)) := (by rw [cell_of_block x4]; rfl); have e2 : w4.cell? ⟨w2.heap.size, 2, none⟩ = some (.int .i64 r.score) := (by rw [cell_of_block x4]; rfl); have e3 : w4.cell? ⟨w2.heap.size, 3, none⟩ = some (.slice oo r.reasons.length oc) := (by rw [cell_of_block x4]; rfl); have e4 : w4.cell? ⟨w2.heap.size, 4, none⟩ = some (.int .i64 g0.FF.length) := (by rw [cell_of_block x4]; rfl); have f1 := fun o => frozen_of_block (i := o) res4; have q0 : w4.cell? ⟨w0.heap.size + 1, 0, none⟩ = some (.int .i64 0) := (by rw [cell_of_block res4]; rfl); have q1 : w4.cell? ⟨w0.heap.size + 1, 1, none⟩ = some (.string ⟨#[]⟩) := (by rw [cell_of_block res4]; rfl); have q2 : w4.cell? ⟨w0.heap.size + 1, 2, none⟩ = some (.int .i64 0) := (by rw [cell_of_block res4]; rfl); have q3 : w4.cell? ⟨w0.heap.size + 1, 3, none⟩ = some (.slice none 0 0) := (by rw [cell_of_block res4]; rfl); have q4 : w4.cell? ⟨w0.heap.size + 1, 4, none⟩ = some (.int .i64 0) := (by rw [cell_of_block res4]; rfl)))
  have hbd : Below w4.heap.size w4 w4.drew := (Below.refl _ _).drew
  have nF1 : ¬ F (w0.heap.size + 1) := fun h => by
    rcases HT.out.less _ h with h | h
    · have := HH.out.lt _ h; omega
    · omega
  have nF2 : ¬ F w2.heap.size := fun h => by have := HT.out.mem.lt _ h; omega
  have cY := play_any (H4'.out.below hbd) p (bs r.node) 0 hd.now false rfl (ok4.below hbd) hnm (by rw [bs_size]; unfold maxLen; omega) HL.out (by show G.PP.length < _; rw [HT.out.pp]; exact HPP.out) (by show (0 : Nat) < _; omega)
  rw [ky_bs] at cY
  unfold PodD.cells Lst.val at cY
  have l2 := lt_of_block x4
  have l1 := lt_of_block res4
  go_region_with (first
    | (go_at_call 54; refine cY.mono ?_; rintro e w5 ⟨rfl, q, hq, H5, k5⟩; have x5 := (k5.block _ l2 nF2).trans x4; have res5 := (k5.block _ l1 nF1).trans res4; have f5 := fun o => frozen_of_block (i := o) res5; have q0' : w5.cell? ⟨w0.heap.size + 1, 0, none⟩ = some (.int .i64 0) := (by rw [cell_of_block res5]; rfl); have q1' : w5.cell? ⟨w0.heap.size + 1, 1, none⟩ = some (.string ⟨#[]⟩) := (by rw [cell_of_block res5]; rfl); have q2' : w5.cell? ⟨w0.heap.size + 1, 2, none⟩ = some (.int .i64 0) := (by rw [cell_of_block res5]; rfl); have q3' : w5.cell? ⟨w0.heap.size + 1, 3, none⟩ = some (.slice none 0 0) := (by rw [cell_of_block res5]; rfl); have q4' : w5.cell? ⟨w0.heap.size + 1, 4, none⟩ = some (.int .i64 0) := (by rw [cell_of_block res5]; rfl); have e0' : w5.cell? ⟨w2.heap.size, 0, none⟩ = some (.int .i64 0) := (by rw [cell_of_block x5]; rfl); have e1' : w5.cell? ⟨w2.heap.size, 1, none⟩ = some (.string (bs r.node)) := (by rw [cell_of_block x5]; rfl); have e2' : w5.cell? ⟨w2.heap.size, 2, none⟩ = some (.int .i64 r.score) := (by rw [cell_of_block x5]; rfl); have e3' : w5.cell? ⟨w2.heap.size, 3, none⟩ = some (.slice oo r.reasons.length oc) := (by rw [cell_of_block x5]; rfl); have e4' : w5.cell? ⟨w2.heap.size, 4, none⟩ = some (.int .i64 g0.FF.length) := (by rw [cell_of_block x5]; rfl)))
  all_goals go_wp2
  all_goals have hblk := five_cells res5 (.int .i64 0) (.string (bs r.node)) (.int .i64 r.score) (.slice oo r.reasons.length oc) (.int .i64 g0.FF.length)
  all_goals refine bodyPost_ret (v := .agg #[.int .i64 0, .string (bs r.node), .int .i64 r.score, .slice oo r.reasons.length oc, .int .i64 g0.FF.length]) (results_cell rfl rfl (run_loadVar_row _ _ _ _ _ _ _ hblk Try.underlying59 rfl sizeRT)) rfl ?_
  all_goals have K := ((((((Kept.refl (fun b => b = w0.heap.size + 1) w5).setCell (p := ⟨w0.heap.size + 1, 0, none⟩) (fun _ => rfl) (.int .i64 0)).setCell (p := ⟨w0.heap.size + 1, 1, none⟩) (fun _ => rfl) (.string (bs r.node))).setCell (p := ⟨w0.heap.size + 1, 2, none⟩) (fun _ => rfl) (.int .i64 r.score)).setCell (p := ⟨w0.heap.size + 1, 3, none⟩) (fun _ => rfl) (.slice oo r.reasons.length oc)).setCell (p := ⟨w0.heap.size + 1, 4, none⟩) (fun _ => rfl) (.int .i64 g0.FF.length))
  all_goals have T4 := HT.out.fits (r' := { r with fresh := g0.FF.length }) HH.out.lt hW1 (by omega) H4'.out k4 (Kept.refl (fun b => b = w0.heap.size + 1) w4) rfl
  all_goals have z4 := k4.size
  all_goals simp only [World.size_alloc] at z4
  all_goals refine ⟨oo, oc, _, G, q, rfl, T4.laid (by omega) (fun b hb e => nF1 (e ▸ hb)) (fun b hb e => by have := (HT.out.rnew b hb).1; omega) H5 (fun b hb => hb) ((Kept.refl F w4).drew.trans k5 fun _ _ h => h) K (T4.sound.lay H4'.out.ord (HLays.out G HT.out.nn HT.out.pp)), HT.out.nn, HT.out.pp, HT.out.ww⟩

end

end Go.Proofs.Ytchddaafibjmgaa
