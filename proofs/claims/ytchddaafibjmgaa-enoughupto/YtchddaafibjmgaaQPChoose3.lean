/-
  The program's choose, walked.
-/
import Derived.Test.YtchddaafibjmgaaQA17
namespace Go.Proofs.Ytchddaafibjmgaa
open Go.RowKit Go.Maps

theorem len_nodes' (g : Gh) : g.nodes.length = g.NN.length := by unfold Gh.nodes; rw [mapV_length]
theorem boxC {W : World} {b : Nat} {p : PodD} (hB : BoxAt W b p) : W.cell? ⟨b, 0, none⟩ = some (.string p.name) ∧ W.cell? ⟨b, 1, none⟩ = some (.int .i64 p.n0) ∧ W.cell? ⟨b, 2, none⟩ = some (.int .i64 p.n1) ∧ W.cell? ⟨b, 3, none⟩ = some (.int .i64 p.n2) ∧ W.cell? ⟨b, 4, none⟩ = some (.int .i64 p.port) ∧ W.cell? ⟨b, 5, none⟩ = some (.slice p.labels.a p.labels.L.length p.labels.cap) ∧ W.cell? ⟨b, 6, none⟩ = some (.slice p.select.a p.select.L.length p.select.cap) ∧ W.cell? ⟨b, 7, none⟩ = some (.slice p.bears.a p.bears.L.length p.bears.cap) ∧ W.cell? ⟨b, 8, none⟩ = some (.slice p.near.a p.near.L.length p.near.cap) ∧ W.cell? ⟨b, 9, none⟩ = some (.slice p.apart.a p.apart.L.length p.apart.cap) := by
  refine ⟨?_, ?_, ?_, ?_, ?_, ?_, ?_, ?_, ?_, ?_⟩ <;> (rw [cell_of_block hB]; rfl)
theorem bestC {W : World} {b : Nat} {st : Rep} (hB : W.heap[b]? = some (.cells (bestCells st) 59 (0, 0))) : W.cell? ⟨b, 0, none⟩ = some (.int .i64 st.err) ∧ W.cell? ⟨b, 1, none⟩ = some (.string (bs st.node)) ∧ W.cell? ⟨b, 2, none⟩ = some (.int .i64 st.score) ∧ W.cell? ⟨b, 3, none⟩ = some (.slice none 0 0) ∧ W.cell? ⟨b, 4, none⟩ = some (.int .i64 0) ∧ ∀ o, W.frozen? ⟨b, o, none⟩ = false := by
  refine ⟨?_, ?_, ?_, ?_, ?_, fun o => frozen_of_block hB⟩ <;> (rw [cell_of_block hB]; rfl)
theorem ansC {W : World} {b : Nat} {a1 a2 : Int} (hB : W.heap[b]? = some (.cells #[.int .i64 a1, .int .i64 a2] 143 (0, 0))) : W.cell? ⟨b, 0, none⟩ = some (.int .i64 a1) ∧ W.cell? ⟨b, 1, none⟩ = some (.int .i64 a2) ∧ ∀ o, W.frozen? ⟨b, o, none⟩ = false := by
  refine ⟨?_, ?_, fun o => frozen_of_block hB⟩ <;> (rw [cell_of_block hB]; rfl)
theorem pair_at (w : World) (a b : Value) (t : TypeId) : ∀ (j : Nat) u, [a, b][j]? = some u → (w.alloc (.cells #[a, b] t)).cell? ((⟨w.heap.size, 0, none⟩ : Addr).add j) = some u := by
  intro j u hu
  have ha : (⟨w.heap.size, 0, none⟩ : Addr).add j = ⟨w.heap.size, j, none⟩ := by
    unfold Addr.add
    split
    · rename_i h; rw [h]
    · simp
  rw [ha, cell_of_block (block_alloc_new w _), ← hu]
  simp
theorem sizeRT : (Try.prog.info? 59).map (·.size) = some 5 := by kernel_rfl
theorem five_cells {w : World} {b : Nat} {t : TypeId} {y0 y1 y2 y3 y4 : Value} (h : w.heap[b]? = some (.cells #[y0, y1, y2, y3, y4] t (0, 0))) (x0 x1 x2 x3 x4 : Value) :
    (((((w.setCell ⟨b, 0, none⟩ x0).setCell ⟨b, 1, none⟩ x1).setCell ⟨b, 2, none⟩ x2).setCell ⟨b, 3, none⟩ x3).setCell ⟨b, 4, none⟩ x4).heap[b]? = some (.cells #[x0, x1, x2, x3, x4] t (0, 0)) := by
  have h0 := block_setCell h (i := 0) x0
  have h1 := block_setCell h0 (i := 1) x1
  have h2 := block_setCell h1 (i := 2) x2
  have h3 := block_setCell h2 (i := 3) x3
  have h4 := block_setCell h3 (i := 4) x4
  rw [h4]
  simp
theorem infoRS : (Try.prog.info? 103).map (fun i => (i.zero, i.size, i.bytes)) = some (some (.agg #[.string ⟨#[]⟩, .int .i64 0]), 2, 24) := by kernel_rfl
theorem zeroAns (w : World) : (zeroValue 143).run Try.prog w = .ok (.agg #[.int .i64 0, .int .i64 0]) w := by kernel_rfl

def repV (r : Rep) (oo : Option Addr) (oc : Nat) : Value := .agg #[.int .i64 r.err, .string (bs r.node), .int .i64 r.score, .slice oo r.reasons.length oc, .int .i64 r.fresh]

/-- What choose leaves. -/
structure ChosenTo (F0 : Nat → Prop) (w0 : World) (g0 : Gh) (hd : Head) (Y : Nat) (p : PodD) (r : Rep) (oo : Option Addr) (oc : Nat) (F : Nat → Prop) (w' : World) (G : Gh) : Prop where
  mem : BMem F w' Y hd G
  more : ∀ b, F0 b → F b
  less : ∀ b, F b → grow F0 w0 w' b
  kept : Kept F0 w0 w'
  nn : G.NN = g0.NN
  pp : G.PP = g0.PP
  ff : G.FF = g0.FF
  ww : G.WW = g0.WW
  sound : Sound hd G
  rsn : w'.ownsRow 0 103 2 (.slice oo r.reasons.length oc) r.reasons.length (r.reasons.flatMap rsnRow)
  rnew : ∀ b, (Value.slice oo r.reasons.length oc).ownBlock = some b → w0.heap.size ≤ b ∧ ¬ F b
  ok : p.ok w'

theorem loopC_fresh (N : List (Bytes × NodeV)) (P : List (Bytes × LiesV)) (v : PodV) : ∀ k, (loopC N P v k).fresh = 0
  | 0 => rfl
  | k + 1 => by
    by_cases h : k < N.length
    · rw [loopC_succ N P v h]
      have ih := loopC_fresh N P v k
      unfold stepC
      split
      · exact ih
      · split
        · exact ih
        · exact ih
    · have : loopC N P v (k + 1) = loopC N P v k := by
        unfold loopC
        rw [List.take_of_length_le (by omega), List.take_of_length_le (by omega)]
      rw [this]
      exact loopC_fresh N P v k

theorem ChLoop.finish {F0 : Nat → Prop} {w0 : World} {g0 : Gh} {hd : Head} {Y : Nat} {p : PodD} {F : Nat → Prop} {bk xb : Nat} {nv : Value} {st : Rep} {oo : Option Addr} {oc : Nat} {wr w' : World} (C : ChLoop F0 w0 g0 hd Y p F bk xb nv st oo oc wr) (X : ChFix F0 w0 F bk xb) (h0 : p.ok w0)
    (hk : Kept (fun b => b = xb ∨ b = w0.heap.size + 1) wr w') {r : Rep} {ro : Option Addr} {rc : Nat} (hr : (r = st ∧ ro = oo ∧ rc = oc) ∨ (r.reasons = [] ∧ ro = none ∧ rc = 0)) : ∃ G, ChosenTo F0 w0 g0 hd Y p r ro rc F w' G := by
  obtain ⟨G, l, hK, e1, e2, e3, e4, hS, hF, _⟩ := C.mem.known
  have hx := X.xge
  have hnf : ∀ b, F b → ¬ (b = xb ∨ b = w0.heap.size + 1) := fun b hb h => by
    have h1 := X.flt b hb
    have h2 := X.less b hb
    rcases h with h | h
    · omega
    · rcases h2 with h2 | h2
      · have := X.f0lt b h2; omega
      · omega
  refine ⟨G, hK.mem.kept hk hnf (fun _ h => h) (fun b hb => Nat.lt_of_lt_of_le (hK.mem.lt b hb) hk.size), X.more, fun b hb => ?_, C.mem.kept.trans hk (fun i hi h => by omega), e1, e2, e3, e4, hS, ?_, ?_, C.mem.ok.keptNew h0 hk fun b h => by omega⟩
  · rcases X.less b hb with h | h
    · exact .inl h
    · have := hK.mem.lt b hb
      have := hk.size
      exact .inr ⟨by omega, by omega⟩
  · rcases hr with ⟨rfl, rfl, rfl⟩ | ⟨h, rfl, rfl⟩
    · exact hk.ownsRow C.rsn fun b hb h => by have := C.rnew b hb; omega
    · rw [h]
      exact World.ownsRow_nil _ _ _ _
  · rcases hr with ⟨rfl, rfl, rfl⟩ | ⟨h, rfl, rfl⟩
    · intro b hb
      have h1 := C.rnew b hb
      exact ⟨by omega, fun h => by have := X.flt b h; omega⟩
    · rw [h]
      intro b hb
      simp [Value.ownBlock] at hb

set_option maxRecDepth 100000 in
set_option maxHeartbeats 4000000 in
theorem choose_any {F0 : Nat → Prop} {w0 : World} {Y : Nat} {hd : Head} {g0 : Gh} (H : BMem F0 w0 Y hd g0) (S : Sound hd g0) (p : PodD) (hok : p.ok w0) (hg : p.Good) :
    Calls Try.prog 53 #[.pointer (some ⟨Y, 0, none⟩), .agg p.cells] w0 fun e w' => ∃ oo oc F G, e = .returned (repV (chooseA g0.nodes g0.pods p.val) oo oc) ∧ ChosenTo F0 w0 g0 hd Y p (chooseA g0.nodes g0.pods p.val) oo oc F w' G := by
  obtain ⟨i0, hi, hz0, hz1, hz2⟩ := info_parts infoRS
  have hY := H.lt Y H.fy
  obtain ⟨wL, hwL⟩ : ∃ W, W = (w0.alloc (.cells p.cells 33)).alloc (.cells repZero 59) := ⟨_, rfl⟩
  have hbL : Below w0.heap.size w0 wL := by rw [hwL]; exact below_trans (below_alloc _ _) (below_alloc _ _)
  have zL : wL.heap.size = w0.heap.size + 2 := by rw [hwL]; simp
  have boxL : wL.heap[w0.heap.size]? = some (.cells p.cells 33 (0, 0)) := by
    rw [hwL, Below.heap_alloc _ _ _ (by simp)]
    exact block_alloc_new _ _
  have resL : wL.heap[w0.heap.size + 1]? = some (.cells repZero 59 (0, 0)) := by
    have := block_alloc_new (w0.alloc (.cells p.cells 33)) (.cells repZero 59)
    rw [hwL]
    simpa using this
  have HL := H.below hbL
  have cL := look_any HL S.b.small S.l.views S.b.nn (by have := S.l.vv_len H.ord; have := S.b.nn; omega) (fun q hq => by have h1 := (S.b.pk q hq).1; have h2 := S.b.node_len (S.b.pk q hq).2.1; unfold maxLen; omega)
  have hnb := HL.lt g0.bv (HL.fm _ (by simp [Gh.maps]))
  have hbvL : ∃ es c, wL.heap[g0.bv]? = some (.map es c) := HL.isMap (by simp [Gh.maps])
  have hb0 : g0.bv < w0.heap.size := H.lt g0.bv (H.fm _ (by simp [Gh.maps]))
  /- behind look -/
  have step1 : Hid (∀ w1 VV, BMem (grow F0 wL w1) w1 Y hd { g0 with VV := VV } → ViewsOk { g0 with VV := VV } → (∀ k v, getL VV k = some v → (getL g0.NN k).isSome = true ∨ (getL g0.VV k).isSome = true) → Kept (fun b => b = g0.bv) wL w1 →
      Sound hd { g0 with VV := VV } ∧ p.ok w1 ∧ BoxAt w1 w0.heap.size p ∧ w1.heap[w0.heap.size + 1]? = some (.cells repZero 59 (0, 0)) ∧ Kept F0 w0 w1 ∧ wL.heap.size ≤ w1.heap.size) := fun w1 VV H1 hVo hVk hk1 => by
    refine ⟨S.look hVo hVk, (hok.below hbL).keptNo hk1 (fun b o h => by subst h; exact cell_of_map hbvL o), ?_, ?_, (Kept.of_below hbL).trans hk1 (fun i _ e => by rw [e]; exact H.fm _ (by simp [Gh.maps])), hk1.size⟩
    · unfold BoxAt
      rw [hk1.block _ (lt_of_block boxL) (by omega)]
      exact boxL
    · rw [hk1.block _ (lt_of_block resL) (by omega)]
      exact resL
  have pcs : ∀ W, BoxAt W w0.heap.size p → W.cell? ⟨w0.heap.size, 0, none⟩ = some (.string p.name) ∧ W.cell? ⟨w0.heap.size, 1, none⟩ = some (.int .i64 p.n0) ∧ W.cell? ⟨w0.heap.size, 2, none⟩ = some (.int .i64 p.n1) ∧ W.cell? ⟨w0.heap.size, 3, none⟩ = some (.int .i64 p.n2) ∧ W.cell? ⟨w0.heap.size, 4, none⟩ = some (.int .i64 p.port) ∧ W.cell? ⟨w0.heap.size, 5, none⟩ = some (.slice p.labels.a p.labels.L.length p.labels.cap) ∧ W.cell? ⟨w0.heap.size, 6, none⟩ = some (.slice p.select.a p.select.L.length p.select.cap) ∧ W.cell? ⟨w0.heap.size, 7, none⟩ = some (.slice p.bears.a p.bears.L.length p.bears.cap) ∧ W.cell? ⟨w0.heap.size, 8, none⟩ = some (.slice p.near.a p.near.L.length p.near.cap) ∧ W.cell? ⟨w0.heap.size, 9, none⟩ = some (.slice p.apart.a p.apart.L.length p.apart.cap) := fun W hB => by
    refine ⟨?_, ?_, ?_, ?_, ?_, ?_, ?_, ?_, ?_, ?_⟩ <;> (rw [cell_of_block hB]; rfl)
  have cK : ∀ w1 VV, BMem (grow F0 wL w1) w1 Y hd { g0 with VV := VV } → p.ok w1 → _ := fun w1 VV H1 ok1 => known_any H1 p ok1 hg.fine
  unfold PodD.cells Lst.val at hwL cK ⊢
  unfold repZero at hwL
  rw [hwL] at cL
  have HH : Hid (BMem F0 w0 Y hd g0) := H
  have HS : Hid (Sound hd g0) := S
  clear H S HL hbvL boxL resL
  go_enter Try.func53, Try.ntmps53
  have hlenN : ∀ F' W G', BMem F' W Y hd G' → ∀ ty, (Builtin.len_ #[104] ty #[.map (some G'.bn)]).run Try.prog W = .ok (.int .i64 G'.NN.length) W := fun F' W G' hB ty => by
    have := hB.nd.len Try.underlying104 ty
    rwa [mapV_length] at this
  have hnn := HS.out.b.nn
  go_wp2_with (first
    | (go_at_call 68; refine cL.mono ?_; rintro e w1 ⟨rfl, VV, H1, hFu, hVo, hVk, hk1⟩; rw [← hwL] at H1 hk1; obtain ⟨S1, ok1, box1, res1, K1, z1⟩ := step1.out w1 VV H1 hVo hVk hk1; obtain ⟨p0, p1, p2, p3, p4, p5, p6, p7, p8, p9⟩ := pcs w1 box1; have ck := cK w1 VV H1 ok1)
    | (go_at_call 69; refine ck.mono ?_; rintro e w2 ⟨bk, l, F, AA, rfl, T⟩; have HC := (show Hid _ from ChLoop.start HH.out hg zL H1 hFu S1 ok1 box1 res1 K1 z1 T); have H2 := T.at_.mem; have y2 := H2.cN; have lY2 := H2.lt Y H2.fy; have b2 := below_alloc w2 (.cells #[.int .i64 9, .string ⟨#[]⟩, .int .i64 0, .slice none 0 0, .int .i64 0] 59); have H3 := H2.below b2; have y3 := H3.cN; have len3 := hlenN _ _ _ H3; clear T H1 hFu hVo hVk hk1 S1 ok1 box1 res1 p0 p1 p2 p3 p4 p5 p6 p7 p8 p9 ck cK)
    | (at_make; refine wpList_make_own _ rfl _ _ 57 rfl 0 103 i0 _ 2 Try.underlying57 hi hz0 hz1 _ _ _ g0.NN.length rfl rfl rfl (by rw [hz2]; omega) (by unfold maxLen; omega) (Nat.zero_le _) ?_; intro w4 hr4 hg4; have b4 : Below ((w2.alloc (.cells #[.int .i64 9, .string ⟨#[]⟩, .int .i64 0, .slice none 0 0, .int .i64 0] 59))).heap.size (w2.alloc (.cells #[.int .i64 9, .string ⟨#[]⟩, .int .i64 0, .slice none 0 0, .int .i64 0] 59)) w4 := ⟨hg4.os, hg4.tape, hg4.output, hg4.size, fun i hi => hg4.block i hi (by simp)⟩; have H4 := H3.below b4; have y4 := H4.cN; have ck := keysN_any g0.bn w4; have cs := sortedN_fresh H4.nd (by rw [mapV_length]; show g0.NN.length ≤ _; omega); rw [mapV_length, nameVals_mapV] at cs)
    | (go_at_call 66; refine ck.mono ?_; rintro e w5 ⟨rfl, rfl⟩)
    | (go_at_call 65; refine cs.mono ?_; rintro e w6 ⟨ao, cap, rfl, hrow, hnew, hb6⟩))
  obtain ⟨X, hstart⟩ := HC.out
  have hr4' : w4.ownsRow 0 103 2 (.slice (some ⟨w2.heap.size + 1, 0, none⟩) 0 g0.NN.length) 0 [] := by simpa using hr4
  have zb4 := b4.size
  simp only [World.size_alloc] at zb4
  have C0 := hstart w6 (.slice ao g0.NN.length cap) (some ⟨w2.heap.size + 1, 0, none⟩) g0.NN.length ((b4.mono (by simp)).trans (hb6.mono zb4)) hrow (fun b hb => by have := hnew b hb; omega) ((Kept.of_below (F := noBlock) hb6).ownsRow hr4' fun _ _ => id) (fun b hb => by simp [Value.ownBlock] at hb; omega)
  have HX : Hid (ChFix F0 w0 F bk w2.heap.size) := X
  have HC0 : Hid _ := C0
  obtain ⟨xb, hxb⟩ : ∃ x, x = w2.heap.size := ⟨_, rfl⟩
  obtain ⟨n, hn⟩ : ∃ x, x = g0.NN.length := ⟨_, rfl⟩
  clear C0 HC hstart X hr4 hr4' hg4 b4 H4 y4 ck cs hrow hnew hb6 H3 y3 len3 b2 H2 y2 hlenN hwL step1 pcs cL K1 z1 hb0 zL hbL hnb lY2 zb4
  rw [← hxb] at HX HC0 ⊢
  rw [← hn] at HC0 hnn ⊢
  have HNN : Hid (n = g0.NN.length) := hn
  clear hxb hn
  go_loopw [7, 31] (fun o i wr => ∃ (k : Nat) (oo : Option Addr) (oc : Nat), k ≤ n ∧ i = .int .i64 k ∧ o = .slice oo (loopC g0.nodes g0.pods p.val k).reasons.length oc ∧ ChLoop F0 w0 g0 hd Y p F bk xb (.slice ao n cap) (loopC g0.nodes g0.pods p.val k) oo oc wr) (fun _ i _ => n - (intOf i).toNat)
  case atStart => exact ⟨0, _, _, Nat.zero_le _, rfl, rfl, HC0.out⟩
  case round =>
    obtain ⟨k, oo, oc, hk, rfl, rfl, C⟩ := hrel
    have X := HX.out
    have HC : Hid _ := C
    by_cases hlt : k < n
    · obtain ⟨G, l, hKA, e1, e2, e3, e4, hSG, hFG, hans⟩ := C.mem.known
      have hltN : k < g0.NN.length := by rw [← HNN.out]; exact hlt
      have hcN := C.mem.names
      rw [HNN.out] at hcN
      obtain ⟨gb, rfl, hgb, hcl⟩ := own_at C.mem.names (by omega)
      have hcell : wr.cell? ⟨gb, k, none⟩ = some (.string (bs g0.NN[k].1)) := by
        rw [hcl k hltN]
        simp [nameVals, hltN]
      have hnd : getL g0.NN g0.NN[k].1 = some g0.NN[k].2 := getL_of_mem HH.out.sortN.distinct (show (g0.NN[k].1, g0.NN[k].2) ∈ g0.NN from List.getElem_mem hltN)
      have hnk := HS.out.b.nk g0.NN[k] (List.getElem_mem hltN)
      have hnode : g0.nodes[k]'(by rw [len_nodes']; exact hltN) = (g0.NN[k].1, g0.NN[k].2.2) := by simp [Gh.nodes, mapV]
      have HN : Hid (loopC g0.nodes g0.pods p.val (k + 1) = stepC g0.nodes g0.pods p.val (loopC g0.nodes g0.pods p.val k) (g0.NN[k].1, g0.NN[k].2.2)) := by
        show _ = _
        rw [loopC_succ g0.nodes g0.pods p.val (k := k) (by rw [len_nodes']; exact hltN), hnode]
      have hrl := loopC_len g0.nodes g0.pods p.val k
      generalize g0.NN[k] = E at *
      obtain ⟨nm, nd⟩ := E
      dsimp only at hcell hnd hnk HN
      generalize loopC g0.nodes g0.pods p.val k = st at *
      obtain ⟨a1, a2, hA⟩ : ∃ a1 a2, answerA g0.nodes g0.pods nm nd.2 p.val = (a1, a2) := ⟨_, _, rfl⟩
      have HA : Hid (answerA g0.nodes g0.pods nm nd.2 p.val = (a1, a2)) := hA
      have keyNm : keyOf Try.prog 9 (.string (bs nm)) = some (.string nm) := by rw [keyS _ (by rw [bs_size]; unfold maxLen; omega), ky_bs]
      have hmap := hKA.map
      have hxr := C.mem.xlt
      have hbs : (bs nm).size ≤ maxLen := by rw [bs_size]; unfold maxLen; omega
      have hGn : G.nodes = g0.nodes := by unfold Gh.nodes; rw [e1]
      have hGp : G.pods = g0.pods := by unfold Gh.pods; rw [e2]
      have HJ : Hid (∀ W, Below wr.heap.size wr W → Calls Try.prog 70 #[.pointer (some ⟨Y, 0, none⟩), .string (bs nm), .agg #[.string p.name, .int .i64 p.n0, .int .i64 p.n1, .int .i64 p.n2, .int .i64 p.port, .slice p.labels.a p.labels.L.length p.labels.cap, .slice p.select.a p.select.L.length p.select.cap, .slice p.bears.a p.bears.L.length p.bears.cap, .slice p.near.a p.near.L.length p.near.cap, .slice p.apart.a p.apart.L.length p.apart.cap]] W fun e w' => e = .returned (.agg #[.int .i64 a1, .int .i64 a2]) ∧ Below W.heap.size W w') := fun W hW => by
        have := judge_any (hKA.mem.below hW) hFG hSG.b.small (bs nm) hbs nd (by rw [ky_bs, e1]; exact hnd) p (C.mem.ok.below hW) hg.need
        rw [ky_bs, answerG_eq, hGn, hGp, hA] at this
        exact this
      have Hl : Hid (∀ a, getL l nm = some a → a = (a1, a2)) := fun a ha => by
        obtain ⟨nd', h1, h2⟩ := hans nm a ha
        rw [hnd] at h1
        cases h1
        rw [h2, hA]
      have hnl : (getL (mapV ansV l) nm) = (getL l nm).map ansV := getL_mapV _ _ _
      have hb1 := below_alloc wr (.cells #[.int .i64 0, .int .i64 0] 143)
      have H1 := hKA.mem.below hb1
      clear HC0 hKA hFG hSG hans hcN hcl hnode hA e1 e2 e3 e4 hGn hGp hk C H1
      cases hln : getL l nm with
      | some a =>
        have ha := Hl.out a hln
        subst ha
        rw [hln] at hnl
        have hnl : getL (mapV ansV l) nm = some (.agg #[.int .i64 a1, .int .i64 a2]) := hnl
        clear hln Hl HJ hb1
        have Cx := HC.out.below X hok (below_alloc wr (.cells #[.int .i64 a1, .int .i64 a2] 143))
        have hab : (wr.alloc (.cells #[.int .i64 a1, .int .i64 a2] 143)).heap[wr.heap.size]? = _ := block_alloc_new _ _
        go_upto_if 52 with (at_lookup; refine wpL_look_some _ rfl _ _ 140 rfl 9 143 strK Try.underlying140 (zeroAns _) bk _ rfl hmap _ nm rfl keyNm _ hnl ?_)
        obtain ⟨w9, hw9⟩ : ∃ W, W = wr.alloc (.cells #[.int .i64 a1, .int .i64 a2] 143) := ⟨_, rfl⟩
        rw [← hw9] at Cx hab ⊢
        clear hw9
        have C9 := Cx
        have hab9 : w9.heap[wr.heap.size]? = some (.cells #[.int .i64 a1, .int .i64 a2] 143 (0, 0)) := hab
        clear Cx hab
        obtain ⟨t0, t1, t2⟩ := ansC hab9
        obtain ⟨s0, s1, s2, s3, s4, s5⟩ := bestC C9.best
        have zx := C9.mem.xlt
        have zab := lt_of_block hab9
        have hne : ¬ xb = wr.heap.size := by omega
        have hne' : ¬ wr.heap.size = xb := by omega
        have HC9 : Hid _ := C9
        have Hstep : Hid (stepC g0.nodes g0.pods p.val st (nm, nd.2) = if a1 ≠ 0 then { st with reasons := st.reasons ++ [(nm, a1)] } else if st.err ≠ 0 ∨ st.score < a2 then { st with err := 0, node := nm, score := a2 } else st) := by
          show _ = _
          unfold stepC
          rw [HA.out]
        clear C9 hmap hnl keyNm hnd hbs
        by_cases hw : a1 = 0
        · subst hw
          by_cases he : st.err = 0
          · rw [he] at s0
            by_cases hsc : st.score < a2
            · have hE : stepC g0.nodes g0.pods p.val st (nm, nd.2) = { st with err := 0, node := nm, score := a2 } := by rw [Hstep.out, if_neg (by simp), if_pos (.inr hsc)]
              have HF : Hid ((Value.slice oo st.reasons.length oc) = .slice oo (loopC g0.nodes g0.pods p.val (k + 1)).reasons.length oc ∧ ChLoop F0 w0 g0 hd Y p F bk xb (.slice (some ⟨gb, 0, none⟩) n cap) (loopC g0.nodes g0.pods p.val (k + 1)) oo oc (((((w9.setCell ⟨xb, 0, none⟩ (.int .i64 0)).setCell ⟨xb, 1, none⟩ (.string (bs nm))).setCell ⟨xb, 2, none⟩ (.int .i64 a2)).setCell ⟨xb, 3, none⟩ (.slice none 0 0)).setCell ⟨xb, 4, none⟩ (.int .i64 0))) := ⟨by rw [HN.out, hE], by rw [HN.out, hE]; exact HC9.out.better X hok nm a2⟩
              clear hE
              go_wp2
              go_roundw
              all_goals first
                | (exact ⟨k + 1, oo, oc, by omega, by go_num, HF.out.1, HF.out.2⟩)
                | (simp [intOf]; omega)
            · have hE : stepC g0.nodes g0.pods p.val st (nm, nd.2) = st := by rw [Hstep.out, if_neg (by simp), if_neg (by simp [he, hsc])]
              have HF : Hid ((Value.slice oo st.reasons.length oc) = .slice oo (loopC g0.nodes g0.pods p.val (k + 1)).reasons.length oc ∧ ChLoop F0 w0 g0 hd Y p F bk xb (.slice (some ⟨gb, 0, none⟩) n cap) (loopC g0.nodes g0.pods p.val (k + 1)) oo oc w9) := ⟨by rw [HN.out, hE], by rw [HN.out, hE]; exact HC9.out⟩
              clear hE
              go_wp2
              go_roundw
              all_goals first
                | (exact ⟨k + 1, oo, oc, by omega, by go_num, HF.out.1, HF.out.2⟩)
                | (simp [intOf]; omega)
          · have hE : stepC g0.nodes g0.pods p.val st (nm, nd.2) = { st with err := 0, node := nm, score := a2 } := by rw [Hstep.out, if_neg (by simp), if_pos (.inl he)]
            have HF : Hid ((Value.slice oo st.reasons.length oc) = .slice oo (loopC g0.nodes g0.pods p.val (k + 1)).reasons.length oc ∧ ChLoop F0 w0 g0 hd Y p F bk xb (.slice (some ⟨gb, 0, none⟩) n cap) (loopC g0.nodes g0.pods p.val (k + 1)) oo oc (((((w9.setCell ⟨xb, 0, none⟩ (.int .i64 0)).setCell ⟨xb, 1, none⟩ (.string (bs nm))).setCell ⟨xb, 2, none⟩ (.int .i64 a2)).setCell ⟨xb, 3, none⟩ (.slice none 0 0)).setCell ⟨xb, 4, none⟩ (.int .i64 0))) := ⟨by rw [HN.out, hE], by rw [HN.out, hE]; exact HC9.out.better X hok nm a2⟩
            clear hE
            go_wp2
            go_roundw
            all_goals first
              | (exact ⟨k + 1, oo, oc, by omega, by go_num, HF.out.1, HF.out.2⟩)
              | (simp [intOf]; omega)
        · have hE : stepC g0.nodes g0.pods p.val st (nm, nd.2) = { st with reasons := st.reasons ++ [(nm, a1)] } := by rw [Hstep.out, if_pos hw]
          have Hr5 : Hid _ := (HC9.out.below X hok (below_alloc w9 (.cells #[.string (bs nm), .int .i64 a1] 103))).rsn
          have hone : ∀ u ∈ [Value.string (bs nm), .int .i64 a1], u.oneCell' = true := fun u hu => by simp at hu; rcases hu with rfl | rfl <;> rfl
          have HE : Hid _ := hE
          clear hE
          go_wp2_with (at_builtin; refine wpList_append_row _ rfl (.tmp 53) (.tmp 58) 57 rfl 103 i0 _ 2 24 Try.underlying57 hi hz0 hz1 hz2 rfl (by decide) (.slice oo st.reasons.length oc) st.reasons.length _ rfl Hr5.out ⟨w9.heap.size, 0, none⟩ 1 1 [.string (bs nm), .int .i64 a1] rfl rfl (pair_at w9 _ _ _) hone (by unfold maxLen; omega) (by omega) ?_; intro ao5 cap5 w5 r5 g5 f5)
          go_roundw
          all_goals first
            | (refine ⟨k + 1, ao5, cap5, by omega, by go_num, ?_, ?_⟩
               · rw [HN.out, HE.out]
                 simp
               · rw [HN.out, HE.out]
                 exact HC9.out.reason X hok (below_alloc w9 _) r5 g5 f5)
            | (simp [intOf]; omega)
      | none =>
        rw [hln] at hnl
        have hnl : getL (mapV ansV l) nm = none := hnl
        clear hln Hl
        have C1 := HC.out.below X hok hb1
        have hab1 : (wr.alloc (.cells #[.int .i64 0, .int .i64 0] 143)).heap[wr.heap.size]? = _ := block_alloc_new _ _
        have cJ := HJ.out _ hb1
        obtain ⟨p0, p1, p2, p3, p4, p5, p6, p7, p8, p9⟩ := boxC C1.mem.box
        have HC1 : Hid _ := C1
        clear C1 HJ
        go_upto_if 52 with (first
          | (at_lookup; refine wpL_look_none _ rfl _ _ 140 rfl 9 143 strK Try.underlying140 (zeroAns _) bk _ rfl hmap _ nm rfl keyNm hnl ?_)
          | (go_at_call 70; refine cJ.mono ?_; rintro e w7 ⟨rfl, hb7⟩; have zb7 := hb7.size; have C7 := HC1.out.below X hok hb7; have hab7 := (hb7.block wr.heap.size (by simp)).trans hab1; obtain ⟨v0, v1, v2⟩ := ansC hab7; have k8 : Kept (fun b => b = wr.heap.size) w7 ((w7.setCell ⟨wr.heap.size, 0, none⟩ (.int .i64 a1)).setCell ⟨wr.heap.size, 1, none⟩ (.int .i64 a2)) := (((Kept.refl (fun b => b = wr.heap.size) w7).setCell (p := ⟨wr.heap.size, 0, none⟩) (fun _ => rfl) _).setCell (p := ⟨wr.heap.size, 1, none⟩) (fun _ => rfl) _); have C8 := C7.ansBlock X hok hab7 hxr k8; have hab8 : ((w7.setCell ⟨wr.heap.size, 0, none⟩ (.int .i64 a1)).setCell ⟨wr.heap.size, 1, none⟩ (.int .i64 a2)).heap[wr.heap.size]? = some (.cells #[.int .i64 a1, .int .i64 a2] 143 (0, 0)) := block_setCell (block_setCell hab7 (i := 0) (.int .i64 a1)) (i := 1) (.int .i64 a2); obtain ⟨w9, hr9, C9, k9⟩ := C8.note X hg.fine (Nat.le_trans hnk (by unfold maxLen; omega)) hnd; rw [HA.out] at hr9; have hab9 := (k9.block wr.heap.size (lt_of_block hab8) (by have := X.bklt; omega)).trans hab8; obtain ⟨t0, t1, t2⟩ := ansC hab9; clear C7 C8 hab7 hab8 k8 k9 hb7))
        obtain ⟨s0, s1, s2, s3, s4, s5⟩ := bestC C9.best
        have zx := C9.mem.xlt
        have zab := lt_of_block hab9
        have hne : ¬ xb = wr.heap.size := by omega
        have hne' : ¬ wr.heap.size = xb := by omega
        have HC9 : Hid _ := C9
        have Hstep : Hid (stepC g0.nodes g0.pods p.val st (nm, nd.2) = if a1 ≠ 0 then { st with reasons := st.reasons ++ [(nm, a1)] } else if st.err ≠ 0 ∨ st.score < a2 then { st with err := 0, node := nm, score := a2 } else st) := by
          show _ = _
          unfold stepC
          rw [HA.out]
        clear C9 hmap hnl keyNm hnd hbs
        by_cases hw : a1 = 0
        · subst hw
          by_cases he : st.err = 0
          · rw [he] at s0
            by_cases hsc : st.score < a2
            · have hE : stepC g0.nodes g0.pods p.val st (nm, nd.2) = { st with err := 0, node := nm, score := a2 } := by rw [Hstep.out, if_neg (by simp), if_pos (.inr hsc)]
              have HF : Hid ((Value.slice oo st.reasons.length oc) = .slice oo (loopC g0.nodes g0.pods p.val (k + 1)).reasons.length oc ∧ ChLoop F0 w0 g0 hd Y p F bk xb (.slice (some ⟨gb, 0, none⟩) n cap) (loopC g0.nodes g0.pods p.val (k + 1)) oo oc (((((w9.setCell ⟨xb, 0, none⟩ (.int .i64 0)).setCell ⟨xb, 1, none⟩ (.string (bs nm))).setCell ⟨xb, 2, none⟩ (.int .i64 a2)).setCell ⟨xb, 3, none⟩ (.slice none 0 0)).setCell ⟨xb, 4, none⟩ (.int .i64 0))) := ⟨by rw [HN.out, hE], by rw [HN.out, hE]; exact HC9.out.better X hok nm a2⟩
              clear hE
              go_wp2
              go_roundw
              all_goals first
                | (exact ⟨k + 1, oo, oc, by omega, by go_num, HF.out.1, HF.out.2⟩)
                | (simp [intOf]; omega)
            · have hE : stepC g0.nodes g0.pods p.val st (nm, nd.2) = st := by rw [Hstep.out, if_neg (by simp), if_neg (by simp [he, hsc])]
              have HF : Hid ((Value.slice oo st.reasons.length oc) = .slice oo (loopC g0.nodes g0.pods p.val (k + 1)).reasons.length oc ∧ ChLoop F0 w0 g0 hd Y p F bk xb (.slice (some ⟨gb, 0, none⟩) n cap) (loopC g0.nodes g0.pods p.val (k + 1)) oo oc w9) := ⟨by rw [HN.out, hE], by rw [HN.out, hE]; exact HC9.out⟩
              clear hE
              go_wp2
              go_roundw
              all_goals first
                | (exact ⟨k + 1, oo, oc, by omega, by go_num, HF.out.1, HF.out.2⟩)
                | (simp [intOf]; omega)
          · have hE : stepC g0.nodes g0.pods p.val st (nm, nd.2) = { st with err := 0, node := nm, score := a2 } := by rw [Hstep.out, if_neg (by simp), if_pos (.inl he)]
            have HF : Hid ((Value.slice oo st.reasons.length oc) = .slice oo (loopC g0.nodes g0.pods p.val (k + 1)).reasons.length oc ∧ ChLoop F0 w0 g0 hd Y p F bk xb (.slice (some ⟨gb, 0, none⟩) n cap) (loopC g0.nodes g0.pods p.val (k + 1)) oo oc (((((w9.setCell ⟨xb, 0, none⟩ (.int .i64 0)).setCell ⟨xb, 1, none⟩ (.string (bs nm))).setCell ⟨xb, 2, none⟩ (.int .i64 a2)).setCell ⟨xb, 3, none⟩ (.slice none 0 0)).setCell ⟨xb, 4, none⟩ (.int .i64 0))) := ⟨by rw [HN.out, hE], by rw [HN.out, hE]; exact HC9.out.better X hok nm a2⟩
            clear hE
            go_wp2
            go_roundw
            all_goals first
              | (exact ⟨k + 1, oo, oc, by omega, by go_num, HF.out.1, HF.out.2⟩)
              | (simp [intOf]; omega)
        · have hE : stepC g0.nodes g0.pods p.val st (nm, nd.2) = { st with reasons := st.reasons ++ [(nm, a1)] } := by rw [Hstep.out, if_pos hw]
          have Hr5 : Hid _ := (HC9.out.below X hok (below_alloc w9 (.cells #[.string (bs nm), .int .i64 a1] 103))).rsn
          have hone : ∀ u ∈ [Value.string (bs nm), .int .i64 a1], u.oneCell' = true := fun u hu => by simp at hu; rcases hu with rfl | rfl <;> rfl
          have HE : Hid _ := hE
          clear hE
          go_wp2_with (at_builtin; refine wpList_append_row _ rfl (.tmp 53) (.tmp 58) 57 rfl 103 i0 _ 2 24 Try.underlying57 hi hz0 hz1 hz2 rfl (by decide) (.slice oo st.reasons.length oc) st.reasons.length _ rfl Hr5.out ⟨w9.heap.size, 0, none⟩ 1 1 [.string (bs nm), .int .i64 a1] rfl rfl (pair_at w9 _ _ _) hone (by unfold maxLen; omega) (by omega) ?_; intro ao5 cap5 w5 r5 g5 f5)
          go_roundw
          all_goals first
            | (refine ⟨k + 1, ao5, cap5, by omega, by go_num, ?_, ?_⟩
               · rw [HN.out, HE.out]
                 simp
               · rw [HN.out, HE.out]
                 exact HC9.out.reason X hok (below_alloc w9 _) r5 g5 f5)
            | (simp [intOf]; omega)
    · have hkn : k = n := by omega
      subst hkn
      have HR : Hid ((loopC g0.nodes g0.pods p.val k).done = chooseA g0.nodes g0.pods p.val) := by
        show _ = _
        rw [HNN.out, ← len_nodes']
        exact loopC_end _ _ _
      have HF0 : Hid ((loopC g0.nodes g0.pods p.val k).fresh = 0) := loopC_fresh _ _ _ k
      generalize loopC g0.nodes g0.pods p.val k = st at *
      obtain ⟨s0, s1, s2, s3, s4, s5⟩ := bestC C.best
      have hres := C.mem.res
      have f0 := fun o => frozen_of_block (i := o) hres
      have g0' : wr.cell? ⟨w0.heap.size + 1, 0, none⟩ = some (.int .i64 0) := by rw [cell_of_block hres]; rfl
      have g1' : wr.cell? ⟨w0.heap.size + 1, 1, none⟩ = some (.string ⟨#[]⟩) := by rw [cell_of_block hres]; rfl
      have g2' : wr.cell? ⟨w0.heap.size + 1, 2, none⟩ = some (.int .i64 0) := by rw [cell_of_block hres]; rfl
      have g3' : wr.cell? ⟨w0.heap.size + 1, 3, none⟩ = some (.slice none 0 0) := by rw [cell_of_block hres]; rfl
      have g4' : wr.cell? ⟨w0.heap.size + 1, 4, none⟩ = some (.int .i64 0) := by rw [cell_of_block hres]; rfl
      have hxge := X.xge
      have hne : ¬ xb = w0.heap.size + 1 := by omega
      have hne' : ¬ w0.heap.size + 1 = xb := by omega
      have Hres : Hid _ := hres
      clear HC0 C hres
      by_cases he : st.err = 0
      · rw [he] at s0
        have HE : Hid (st.err = 0) := he
        clear he
        go_wp2
        have hblk := five_cells Hres.out (.int .i64 0) (.string (bs st.node)) (.int .i64 st.score) (.slice none 0 0) (.int .i64 0)
        refine bodyPost_ret (v := .agg #[.int .i64 0, .string (bs st.node), .int .i64 st.score, .slice none 0 0, .int .i64 0]) (results_cell rfl rfl (run_loadVar_row _ _ _ _ _ _ _ hblk Try.underlying59 rfl sizeRT)) rfl ?_
        have K := (((((Kept.refl (fun b => b = xb ∨ b = w0.heap.size + 1) wr).setCell (p := ⟨w0.heap.size + 1, 0, none⟩) (fun _ => .inr rfl) (.int .i64 0)).setCell (p := ⟨w0.heap.size + 1, 1, none⟩) (fun _ => .inr rfl) (.string (bs st.node))).setCell (p := ⟨w0.heap.size + 1, 2, none⟩) (fun _ => .inr rfl) (.int .i64 st.score)).setCell (p := ⟨w0.heap.size + 1, 3, none⟩) (fun _ => .inr rfl) (.slice none 0 0)).setCell (p := ⟨w0.heap.size + 1, 4, none⟩) (fun _ => .inr rfl) (.int .i64 0)
        have hD : chooseA g0.nodes g0.pods p.val = { st with reasons := [] } := by
          rw [← HR.out]
          unfold Rep.done
          rw [if_neg (by simp [HE.out])]
        obtain ⟨G, hG⟩ := HC.out.finish X hok K (r := { st with reasons := [] }) (.inr ⟨rfl, rfl, rfl⟩)
        refine ⟨none, 0, F, G, ?_, by rw [hD]; exact hG⟩
        rw [hD]
        show Ending.returned _ = Ending.returned (.agg #[.int .i64 st.err, .string (bs st.node), .int .i64 st.score, .slice none 0 0, .int .i64 st.fresh])
        rw [HE.out, HF0.out]
      · have HE : Hid (¬ st.err = 0) := he
        go_wp2
        have hblk := five_cells ((block_setCell_other (i := 3) hne' (.slice oo st.reasons.length oc)).trans Hres.out) (.int .i64 st.err) (.string (bs st.node)) (.int .i64 st.score) (.slice oo st.reasons.length oc) (.int .i64 0)
        refine bodyPost_ret (v := .agg #[.int .i64 st.err, .string (bs st.node), .int .i64 st.score, .slice oo st.reasons.length oc, .int .i64 0]) (results_cell rfl rfl (run_loadVar_row _ _ _ _ _ _ _ hblk Try.underlying59 rfl sizeRT)) rfl ?_
        have K := ((((((Kept.refl (fun b => b = xb ∨ b = w0.heap.size + 1) wr).setCell (p := ⟨xb, 3, none⟩) (fun _ => .inl rfl) (.slice oo st.reasons.length oc)).setCell (p := ⟨w0.heap.size + 1, 0, none⟩) (fun _ => .inr rfl) (.int .i64 st.err)).setCell (p := ⟨w0.heap.size + 1, 1, none⟩) (fun _ => .inr rfl) (.string (bs st.node))).setCell (p := ⟨w0.heap.size + 1, 2, none⟩) (fun _ => .inr rfl) (.int .i64 st.score)).setCell (p := ⟨w0.heap.size + 1, 3, none⟩) (fun _ => .inr rfl) (.slice oo st.reasons.length oc)).setCell (p := ⟨w0.heap.size + 1, 4, none⟩) (fun _ => .inr rfl) (.int .i64 0)
        have hD : chooseA g0.nodes g0.pods p.val = st := by
          rw [← HR.out]
          unfold Rep.done
          rw [if_pos HE.out]
        obtain ⟨G, hG⟩ := HC.out.finish X hok K (r := st) (.inl ⟨rfl, rfl, rfl⟩)
        refine ⟨oo, oc, F, G, ?_, by rw [hD]; exact hG⟩
        rw [hD]
        show Ending.returned _ = Ending.returned (.agg #[.int .i64 st.err, .string (bs st.node), .int .i64 st.score, .slice oo st.reasons.length oc, .int .i64 st.fresh])
        rw [HF0.out]

end Go.Proofs.Ytchddaafibjmgaa
