/-
  The program's reason and judge: what a node answers to a pod.
  maps.Copy at the maps of views, walked.
-/
import Derived.Test.YtchddaafibjmgaaQA8
import Derived.Test.YtchddaafibjmgaaQA9
import Derived.Test.YtchddaafibjmgaaQA10
namespace Go.Proofs.Ytchddaafibjmgaa
open Go.RowKit Go.Maps

section
variable {F : Nat → Prop} {w : World} {Y : Nat} {hd : Head} {g : Gh}

theorem reason_any (H : BMem F w Y hd g) (hfull : Full g) (hS : Small g) (s : ByteArray) (hs : s.size ≤ maxLen) (x : Value × NodeV) (hx : getL g.NN (ky s) = some x) (p : PodD) (hok : p.ok w) (hpn : ∀ y ∈ [p.n0, p.n1, p.n2], 0 ≤ y ∧ y ≤ 1099511627776) :
    Calls Try.prog 80 #[.pointer (some ⟨Y, 0, none⟩), .string s, .agg p.cells] w fun e w' => e = .returned (.int .i64 (whyG g (ky s) x.2 (usedOf g.pods (ky s)) p.val)) ∧ Below w.heap.size w w' := by
  cases h1 : shortB x.2.r0 x.2.r1 x.2.r2 (usedOf g.pods (ky s)).1 (usedOf g.pods (ky s)).2.1 (usedOf g.pods (ky s)).2.2 p.n0 p.n1 p.n2
  · cases h2 : (!(p.port == 0) && (podsAt g (ky s)).any fun q => q.2.port == p.port)
    · cases h3 : labFits p.select.L x.2.labels
      · rw [show whyG g (ky s) x.2 (usedOf g.pods (ky s)) p.val = 3 from by unfold whyG PodD.val; simp only [h1, h2, h3]; rfl]; exact reason3 H hfull hS s hs x hx p hok hpn h1 h2 h3
      · cases h4 : labFits x.2.taints p.bears.L
        · rw [show whyG g (ky s) x.2 (usedOf g.pods (ky s)) p.val = 4 from by unfold whyG PodD.val; simp only [h1, h2, h3, h4]; rfl]; exact reason4 H hfull hS s hs x hx p hok hpn h1 h2 h3 h4
        · by_cases hne : 0 < p.near.L.length
          · have hd' : decide (0 < p.near.L.length) = true := by simpa using hne
            cases h5 : nearAny g (ky s) (fun q => labFits p.near.L q.2.labels)
            · rw [show whyG g (ky s) x.2 (usedOf g.pods (ky s)) p.val = 5 from by unfold whyG PodD.val; simp only [h1, h2, h3, h4, h5, hd']; rfl]; exact reason5 H hfull hS s hs x hx p hok hpn h1 h2 h3 h4 h5 hne
            · cases h6 : nearAny g (ky s) (fun q => shunsB p.apart.L q.2.labels || shunsB q.2.apart p.labels.L)
              · rw [show whyG g (ky s) x.2 (usedOf g.pods (ky s)) p.val = 0 from by unfold whyG PodD.val; simp only [h1, h2, h3, h4, h5, h6, hd']; rfl]; exact reason0 H hfull hS s hs x hx p hok hpn h1 h2 h3 h4 h5 h6 hne
              · rw [show whyG g (ky s) x.2 (usedOf g.pods (ky s)) p.val = 6 from by unfold whyG PodD.val; simp only [h1, h2, h3, h4, h5, h6, hd']; rfl]; exact reason6 H hfull hS s hs x hx p hok hpn h1 h2 h3 h4 h5 h6 hne
          · have hd' : decide (0 < p.near.L.length) = false := by simpa using hne
            cases h6 : nearAny g (ky s) (fun q => shunsB p.apart.L q.2.labels || shunsB q.2.apart p.labels.L)
            · rw [show whyG g (ky s) x.2 (usedOf g.pods (ky s)) p.val = 0 from by unfold whyG PodD.val; simp only [h1, h2, h3, h4, h6, hd']; rfl]; exact reason0n H hfull hS s hs x hx p hok hpn h1 h2 h3 h4 h6 (by omega)
            · rw [show whyG g (ky s) x.2 (usedOf g.pods (ky s)) p.val = 6 from by unfold whyG PodD.val; simp only [h1, h2, h3, h4, h6, hd']; rfl]; exact reason6n H hfull hS s hs x hx p hok hpn h1 h2 h3 h4 h6 (by omega)
    · rw [show whyG g (ky s) x.2 (usedOf g.pods (ky s)) p.val = 2 from by unfold whyG PodD.val; simp only [h1, h2]; rfl]; exact reason2 H hfull hS s hs x hx p hok hpn h1 h2
  · rw [show whyG g (ky s) x.2 (usedOf g.pods (ky s)) p.val = 1 from by unfold whyG PodD.val; simp only [h1]; rfl]; exact reason1 H hfull hS s hs x hx p hok hpn h1

/-- What a node answers: the reason, or its score. -/
def answerG (g : Gh) (k : Bytes) (n : NodeV) (p : PodV) : Int × Int :=
  if whyG g k n (usedOf g.pods k) p = 0 then (0, scoreI n.r0 n.r1 n.r2 (usedOf g.pods k).1 (usedOf g.pods k).2.1 (usedOf g.pods k).2.2 p.n0 p.n1 p.n2) else (whyG g k n (usedOf g.pods k) p, 0)

set_option maxRecDepth 100000 in
set_option maxHeartbeats 1000000 in
theorem judge_any (H : BMem F w Y hd g) (hfull : Full g) (hS : Small g) (s : ByteArray) (hs : s.size ≤ maxLen) (x : Value × NodeV) (hx : getL g.NN (ky s) = some x) (p : PodD) (hok : p.ok w) (hpn : ∀ y ∈ [p.n0, p.n1, p.n2], 0 ≤ y ∧ y ≤ 1099511627776) :
    Calls Try.prog 70 #[.pointer (some ⟨Y, 0, none⟩), .string s, .agg p.cells] w fun e w' => e = .returned (ansV (answerG g (ky s) x.2 p.val)) ∧ Below w.heap.size w w' := by
  have hY := H.lt Y H.fy
  have hgx := getL_mem hx
  have hW0 : Below w.heap.size w ((w.alloc (.cells #[.string p.name, .int .i64 p.n0, .int .i64 p.n1, .int .i64 p.n2, .int .i64 p.port, .slice p.labels.a p.labels.L.length p.labels.cap, .slice p.select.a p.select.L.length p.select.cap, .slice p.bears.a p.bears.L.length p.bears.cap, .slice p.near.a p.near.L.length p.near.cap, .slice p.apart.a p.apart.L.length p.apart.cap] 33)).alloc (.cells #[.int .i64 0, .int .i64 0] 143)) := below_trans (below_alloc _ _) (below_alloc _ _)
  have hzA : w.heap.size < ((w.alloc (.cells #[.string p.name, .int .i64 p.n0, .int .i64 p.n1, .int .i64 p.n2, .int .i64 p.port, .slice p.labels.a p.labels.L.length p.labels.cap, .slice p.select.a p.select.L.length p.select.cap, .slice p.bears.a p.bears.L.length p.bears.cap, .slice p.near.a p.near.L.length p.near.cap, .slice p.apart.a p.apart.L.length p.apart.cap] 33)).alloc (.cells #[.int .i64 0, .int .i64 0] 143)).heap.size := by simp; omega
  have hzB : w.heap.size + 1 < ((w.alloc (.cells #[.string p.name, .int .i64 p.n0, .int .i64 p.n1, .int .i64 p.n2, .int .i64 p.port, .slice p.labels.a p.labels.L.length p.labels.cap, .slice p.select.a p.select.L.length p.select.cap, .slice p.bears.a p.bears.L.length p.bears.cap, .slice p.near.a p.near.L.length p.near.cap, .slice p.apart.a p.apart.L.length p.apart.cap] 33)).alloc (.cells #[.int .i64 0, .int .i64 0] 143)).heap.size := by simp
  have c1 := reason_any (H.below hW0) hfull hS s hs x hx p (hok.below hW0) hpn
  obtain ⟨l, t, u0, u1, u2, ao, cap, el, et, ol, ot, hu, hrow, lkN, lkV⟩ := H.lookNV hfull s hs hx
  have hub := hS.used (ky s)
  have hrm := hS.room _ hgx
  have HA : Hid (answerG g (ky s) x.2 p.val = if whyG g (ky s) x.2 (usedOf g.pods (ky s)) p.val = 0 then (0, scoreI x.2.r0 x.2.r1 x.2.r2 (usedOf g.pods (ky s)).1 (usedOf g.pods (ky s)).2.1 (usedOf g.pods (ky s)).2.2 p.n0 p.n1 p.n2) else (whyG g (ky s) x.2 (usedOf g.pods (ky s)) p.val, 0)) := rfl
  rw [← hu] at hub
  dsimp only at hub hrm
  have cS := fun W => pscore_any x.2.r0 x.2.r1 x.2.r2 u0 u1 u2 p.n0 p.n1 p.n2 W (by
    simp only [List.mem_cons, List.not_mem_nil, or_false, forall_eq_or_imp, forall_eq] at hrm hpn ⊢
    omega) hub
  generalize whyG g (ky s) x.2 (usedOf g.pods (ky s)) p.val = R at *
  have Hu : Hid ((u0, u1, u2) = usedOf g.pods (ky s)) := hu
  have yc := fun W (hb : Below w.heap.size w W) => (H.below hb).cN
  have yv := fun W (hb : Below w.heap.size w W) => (H.below hb).cV
  unfold PodD.cells Lst.val at c1
  unfold PodD.cells Lst.val
  have fN := fieldN0
  have fV := fieldV0
  clear H hfull hS hx hok hpn hub hrm hrow ol ot el et hgx hu
  by_cases h0 : R = 0
  · subst h0
    go_enter Try.func70, Try.ntmps70
    go_wp2_with (go_at_call 80; refine c1.mono ?_; rintro e w1 ⟨rfl, hb1⟩; have a1 := fun o => hb1.cell (p := ⟨w.heap.size, o, none⟩) hzA; have b1 := fun o => hb1.cell (p := ⟨w.heap.size + 1, o, none⟩) hzB; have r1 := fun o => hb1.frozen (p := ⟨w.heap.size + 1, o, none⟩) hzB; have hW1 := below_trans hW0 hb1)
    have y1 := yc w1 hW1
    have v1 := yv w1 hW1
    have n1 := lkN w1.drew hW1.drew
    have m1 := lkV w1.drew hW1.drew
    have zA1 : w.heap.size < w1.drew.heap.size := Nat.lt_of_lt_of_le hzA hb1.size
    have zB1 : w.heap.size + 1 < w1.drew.heap.size := Nat.lt_of_lt_of_le hzB hb1.size
    have hne1 : ¬ Y = w.heap.size + 1 := by omega
    have hne2 : ¬ w.heap.size + 1 = Y := by omega
    have zY1 : Y < w1.drew.heap.size := Nat.lt_of_lt_of_le (by omega) zA1
    go_region_held3 (fun w' => w'.cell? ⟨w.heap.size, 1, none⟩ = some (.int .i64 p.n0) ∧ w'.cell? ⟨w.heap.size, 2, none⟩ = some (.int .i64 p.n1) ∧ w'.cell? ⟨w.heap.size, 3, none⟩ = some (.int .i64 p.n2) ∧ w'.cell? ⟨Y, 4, none⟩ = some (.map (some g.bn)) ∧ w'.cell? ⟨Y, 7, none⟩ = some (.map (some g.bv))) (go_keep)
      (first
        | (go_at_call 81; refine (cS _).mono ?_; rintro e w2 ⟨rfl, hb2⟩; have a2 := fun o => hb2.cell (p := ⟨w.heap.size, o, none⟩) zA1; have b2 := fun o => hb2.cell (p := ⟨w.heap.size + 1, o, none⟩) zB1; have r2 := fun o => hb2.frozen (p := ⟨w.heap.size + 1, o, none⟩) zB1; have y2 := fun o => hb2.cell (p := ⟨Y, o, none⟩) zY1))
    all_goals go_wp2
    all_goals refine bodyPost_ret (v := .agg #[.int .i64 0, .int .i64 (scoreI x.2.r0 x.2.r1 x.2.r2 u0 u1 u2 p.n0 p.n1 p.n2)]) (by simp [results, Try.results70, go_sem, b2, b1]) rfl ?_
    all_goals rw [HA.out, if_pos trivial, ← Hu.out]
    all_goals exact ⟨rfl, ((below_trans (below_trans hW1 (Below.refl _ _).drew) hb2).setCell (p := ⟨w.heap.size + 1, 0, none⟩) (by simp) _).setCell (p := ⟨w.heap.size + 1, 1, none⟩) (by simp) _⟩
  · have h0' : (R == 0) = false := by simpa using h0
    have h0'' : (R != 0) = true := by simpa using h0
    have HA' : Hid (answerG g (ky s) x.2 p.val = (R, 0)) := by show answerG _ _ _ _ = _; rw [HA.out, if_neg h0]
    clear h0
    go_enter Try.func70, Try.ntmps70
    go_wp2_with (go_at_call 80; refine c1.mono ?_; rintro e w1 ⟨rfl, hb1⟩; have a1 := fun o => hb1.cell (p := ⟨w.heap.size, o, none⟩) hzA; have b1 := fun o => hb1.cell (p := ⟨w.heap.size + 1, o, none⟩) hzB; have r1 := fun o => hb1.frozen (p := ⟨w.heap.size + 1, o, none⟩) hzB; have hW1 := below_trans hW0 hb1)
    refine bodyPost_ret (v := .agg #[.int .i64 R, .int .i64 0]) (by simp [results, Try.results70, go_sem, b1]) rfl ?_
    rw [HA'.out]
    exact ⟨rfl, (hW1.setCell (p := ⟨w.heap.size + 1, 0, none⟩) (by simp) _).setCell (p := ⟨w.heap.size + 1, 1, none⟩) (by simp) _⟩

end

end Go.Proofs.Ytchddaafibjmgaa

namespace Go.Proofs.Ytchddaafibjmgaa
open Go.RowKit Go.Maps

section
variable {P : Program} (w : World) {ops : Array Oper} {rest : List Oper} {o : Oper} {a : Act} {Q : Exit → Act → World → Prop}

/-- 'range m', with how many are to come. -/
theorem wpL_range_n (hg : o.guard = none) (m : Operand) (t : TypeId) (hop : o.op = Op.range t m) (k e : TypeId) (K : Keyed P k) (ht : P.underlying t = some (.map k e)) (b : Nat) (L : List (Bytes × Value))
    (hm : a.eval m = .map (some b)) (hown : MapAt P w k b L)
    (hK : ∀ w', RngAt P w' k b w.heap.size L (fun x => (getL L x).isSome) → w'.rangeLeft b w.heap.size = L.length → Below w.heap.size w w' → w'.heap.size = w.heap.size + 1 → wpList P ops Q rest (a.put o.dst (.pointer (some ⟨w.heap.size, 0, none⟩))) w') :
    wpList P ops Q (o :: rest) a w :=
  wpList_range_own w hg m t hop k e K ht rawElem b L.length (datOf L) hm hown fun w' h1 h2 h3 =>
    hK w' ⟨_, _, _, h1, fun x => has_datOf L x⟩ (by rw [h1.left_eq, size_datOf]) ⟨h2.os, h2.tape, h2.output, h2.size, fun i hi => h2.block i hi (by simp)⟩ h3

end

/-- The shape of a view. -/
def viewShape (c : Int × Int × Int × Option Addr × Nat × Nat) : Value := .agg #[.int .i64 c.1, .int .i64 c.2.1, .int .i64 c.2.2.1, .slice c.2.2.2.1 c.2.2.2.2.1 c.2.2.2.2.2]

/-- Two lists, one over the other. -/
def over (Ls Ld : List (Bytes × Value)) (todo : Bytes → Bool) (k : Bytes) : Option Value := if (getL Ls k).isSome && !todo k then getL Ls k else getL Ld k

set_option maxRecDepth 100000 in
set_option maxHeartbeats 1000000 in
theorem mapsCopy_any (w : World) (bd bs : Nat) (Ld Ls : List (Bytes × Value)) (hd : MapAt Try.prog w 9 bd Ld) (hs : MapAt Try.prog w 9 bs Ls) (hne : bd ≠ bs) (hsh : ∀ kb v, getL Ls kb = some v → ∃ c, v = viewShape c) (hl : Ld.length + Ls.length < 100000) :
    Calls Try.prog 78 #[.map (some bd), .map (some bs)] w fun e w' => e = .returned (.tuple #[]) ∧ ∃ L, MapAt Try.prog w' 9 bd L ∧ Kept (fun b => b = bd) w w' ∧ ∀ k, getL L k = (getL Ls k).orElse fun _ => getL Ld k := by
  have Hd : Hid (MapAt Try.prog w 9 bd Ld) := hd
  have hdl := hd.lt
  have hsl := hs.lt
  clear hd
  go_enter Try.func78, Try.ntmps78
  go_wp2_with (at_range; refine wpL_range_n _ rfl _ 107 rfl 9 158 strK Try.underlying107 bs _ rfl hs ?_; intro w2 hr2 hn2 hb2 hs2)
  have K2 : Hid (Kept (fun b => b = bd) w w2) := Kept.of_below hb2
  have M2 : Hid (MapAt Try.prog w2 9 bd Ld) := Hd.out.kept (Kept.of_below (F := noBlock) hb2) id
  have N2 : Hid (w2.rangeLeft bs w.heap.size = Ls.length) := hn2
  clear hs2 hb2 hn2 hs
  go_frame
  go_loopw [4] (fun _ wr => ∃ todo L, RngAt Try.prog wr 9 bs w.heap.size Ls todo ∧ MapAt Try.prog wr 9 bd L ∧ Kept (fun b => b = bd) w wr ∧ (∀ k, getL L k = over Ls Ld todo k) ∧ L.length + wr.rangeLeft bs w.heap.size ≤ Ld.length + Ls.length) (fun _ wr => wr.rangeLeft bs w.heap.size)
  case atStart =>
    refine ⟨_, Ld, hr2, M2.out, K2.out, fun k => ?_, by rw [N2.out]; exact Nat.le_refl _⟩
    simp [over]
    intro h1 h2
    rw [h2] at h1
    cases h1
  case round =>
    clear hr2 K2 M2 N2
    obtain ⟨todo, L, hrg, hM, hK, hO, hN⟩ := hrel
    have HO : Hid (∀ k, getL L k = over Ls Ld todo k) := hO
    have HK : Hid (Kept (fun b => b = bd) w wr) := hK
    clear hO hK
    go_wp2_with (at_next; refine wpL_next _ rfl _ rfl 9 strK Value.string viewShape bs w.heap.size _ todo (fun _ _ => strInv) hsh rfl hrg ?_ ?_)
    · intro hl0
      go_wp2
      go_end0
      refine ⟨rfl, L, hM, HK.out, fun k => ?_⟩
      rw [HO.out, over, hl0]
      cases getL Ls k <;> rfl
    · intro x u0 u1 u2 ao nn cap kb w3 hkey htd hget hrg3 hlt3 hk3 hs3 hen
      obtain ⟨e3, hkl⟩ := keyS_inv hkey
      simp only [Value.string.injEq] at e3
      obtain ⟨y, rfl⟩ : ∃ y, kb = ky y := ⟨Go.Proofs.Ytchddaafibjmgaa.bs kb, (ky_bs kb).symm⟩
      rw [bs_ky] at e3
      subst e3
      have hys : x.size ≤ maxLen := by rw [← ky_length]; exact hkl
      have hM3 := hM.kept hk3 (by omega)
      have HK3 : Hid (Kept (fun b => b = bd) w w3) := HK.out.trans hk3 (fun i hi e => by omega)
      have Hlt : Hid (w3.rangeLeft bs w.heap.size < wr.rangeLeft bs w.heap.size) := hlt3
      have hN3 : L.length < maxLen := by unfold maxLen; omega
      have Hget : Hid (getL Ls (ky x) = some (viewShape (u0, u1, u2, ao, nn, cap))) := hget
      unfold viewShape at hen
      unfold viewShape
      have hM4 := fun o => hM3.kept ((Kept.refl noBlock w3).alloc o) id
      clear hget htd hkey hkl hlt3 hs3 hrg hM hk3
      go_wp2_with (at_mapUpdate; refine wpL_store _ rfl _ _ _ 107 rfl 9 158 strK Try.underlying107 bd L rfl (by exact hM4 _) hN3 _ _ (ky x) rfl rfl (keyS x hys) ?_; intro w5 hm5 ht5; have hk5 := Kept.turned ht5; go_frame)
      have hk35 : Kept (fun b => b = bd) w3 w5 := ((Kept.refl _ w3).alloc _).trans hk5 (fun i _ e => e)
      have hrS : ¬ w.heap.size = bd := by omega
      go_roundw
      case rel =>
        refine ⟨_, _, hrg3.kept hk35 (Ne.symm hne) hrS, hm5, HK3.out.trans hk35 (fun i _ e => e), fun k => ?_, ?_⟩
        · by_cases e : k = ky x
          · subst e
            rw [getL_putL_same, over, Hget.out, if_pos (by simp)]
            rfl
          · rw [getL_putL_other _ _ e, HO.out, over, over]
            have : (k == ky x) = false := by simpa using e
            simp [this]
        · rw [rangeLeft_kept hrg3 hk35 (Ne.symm hne) hrS]
          have h1 := Hlt.out
          refine Nat.le_trans (Nat.add_le_add_right (length_putL_le L (ky x) _) _) ?_
          omega
      case measure => rw [rangeLeft_kept hrg3 hk35 (Ne.symm hne) hrS]; exact Hlt.out

end Go.Proofs.Ytchddaafibjmgaa
