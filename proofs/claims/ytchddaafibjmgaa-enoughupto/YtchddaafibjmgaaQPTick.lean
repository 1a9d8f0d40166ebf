/-
  The program's Tick, walked: held pods whose time is up go, in whatever order.
-/
import Derived.Test.YtchddaafibjmgaaQA6
import Derived.Deep.QuietTactic
import Derived.BigQuiet
namespace Go.Proofs.Ytchddaafibjmgaa
open Go.RowKit Go.Maps

/-- Is a pod's time up? -/
def due (hd : Head) (x : LiesV) : Bool := !x.bound && decide (hd.hold ≤ hd.now - x.since)

/-- Pods go, one behind the other. -/
def Lifts (hd : Head) (g g' : Gh) : Prop := ∀ R : Gh → Prop, R g → (∀ (g1 : Gh) (k : Bytes) (x : Nat × LiesV), R g1 → getL g1.PP k = some x → due hd x.2 = true → R ((g1.unlay k).changed x.2.node)) → R g'
theorem Lifts.refl {hd : Head} {g : Gh} : Lifts hd g g := fun _ h _ => h
theorem Lifts.step {hd : Head} {g g1 : Gh} {k : Bytes} {x : Nat × LiesV} (h : Lifts hd g g1) (hx : getL g1.PP k = some x) (hdue : due hd x.2 = true) : Lifts hd g ((g1.unlay k).changed x.2.node) := fun R h0 hs => hs g1 k x (h R h0 hs) hx hdue

def tickErr (hd : Head) (n : Int) : Int := if n < 0 ∨ 100000 < n ∨ 1099511627776 - hd.now < n then 8 else 0
def Head.later (hd : Head) (n : Int) : Head := { hd with now := hd.now + n }

section
variable {F : Nat → Prop} {w : World} {Y : Nat} {hd : Head} {g : Gh}

theorem BMem.cells (H : BMem F w Y hd g) : w.cell? ⟨Y, 0, none⟩ = some (.int .i64 hd.hold) ∧ w.cell? ⟨Y, 1, none⟩ = some (.bool hd.rem) ∧ w.cell? ⟨Y, 2, none⟩ = some (.bool hd.whole) ∧ w.cell? ⟨Y, 3, none⟩ = some (.int .i64 hd.now) ∧ ∀ o, w.frozen? ⟨Y, o, none⟩ = false := by
  refine ⟨?_, ?_, ?_, ?_, fun o => frozen_of_block H.box⟩ <;> (rw [cell_of_block H.box]; rfl)

theorem BMem.setNow (H : BMem F w Y hd g) (n : Int) : BMem F (w.setCell ⟨Y, 3, none⟩ (.int .i64 (hd.now + n))) Y (hd.later n) g := by
  have hk : Kept (fun b => b = Y) w (w.setCell ⟨Y, 3, none⟩ (.int .i64 (hd.now + n))) := (Kept.refl (fun b => b = Y) w).setCell (p := ⟨Y, 3, none⟩) (fun _ => rfl) _
  have oL : Off 51 (fun b => b = Y) w := Off.cells H.box (by decide)
  have oP : Off 120 (fun b => b = Y) w := Off.cells H.box (by decide)
  have oR : Off 117 (fun b => b = Y) w := Off.cells H.box (by decide)
  have nm : ∀ {b : Nat}, b ∈ g.maps → b ≠ Y := fun {b} hb => Ne.symm (H.ny hb)
  refine ⟨fun b hb => Nat.lt_of_lt_of_le (H.lt b hb) hk.size, H.fy, H.fm, ?_, H.nd.kept hk (nm (by simp [Gh.maps])), H.pd.kept hk (nm (by simp [Gh.maps])), H.fr.kept hk (nm (by simp [Gh.maps])),
    H.vw.kept hk (nm (by simp [Gh.maps])), H.an.kept hk (nm (by simp [Gh.maps])), fun p hp => (H.nn p hp).kept hk oL (fun _ h => h), fun p hp => (H.pp p hp).kept hk oL ((H.pp p hp).off oP) (fun _ h => h), fun p hp => (H.vv p hp).kept hk oR (fun _ h => h), fun p hp => (H.aa p hp).kept hk (nm (H.inA hp)), H.dist, H.ppd, H.ch.kept hk (H.ch.ncells H.box) oL (fun _ h => h)⟩
  rw [block_setCell H.box]
  simp [boxCells, Head.later]

theorem ptrInv {L : List (Bytes × (Nat × LiesV))} {kb : Bytes} {v : Value} (h : getL (mapV (fun x => ptrV x.1) L) kb = some v) : ∃ c, v = Value.pointer (some ⟨c, 0, none⟩) := by
  rw [getL_mapV] at h
  cases hg : getL L kb with
  | none => rw [hg] at h; cases h
  | some x => rw [hg] at h; exact ⟨x.1, (Option.some.inj h).symm⟩

theorem length_putL_le {α : Type} (L : List (Bytes × α)) (k : Bytes) (v : α) : (putL L k v).length ≤ L.length + 1 := by
  unfold putL
  rw [length_insL]
  have := length_delL_le L k
  omega

/-- What is carried along. -/
structure TickTo (hd : Head) (g : Gh) (todo : Bytes → Bool) (g' : Gh) : Prop where
  lifts : Lifts hd g g'
  sub : ∀ p ∈ g'.PP, p ∈ g.PP
  left : ∀ p ∈ g'.PP, due hd p.2.2 = true → todo p.1 = true
  len : g'.FF.length + g'.PP.length ≤ g.FF.length + g.PP.length
  bp : g'.bp = g.bp

set_option maxRecDepth 100000 in
set_option maxHeartbeats 1000000 in
theorem tick_late (H : BMem F w Y hd g) (n : Int) (h : tickErr hd n = 8) (hn0 : 0 ≤ hd.now) (hn1 : hd.now ≤ 1099511627776) :
    Calls Try.prog 30 #[.pointer (some ⟨Y, 0, none⟩), .int .i64 n] w fun e w' => e = .returned (.int .i64 8) ∧ w' = w := by
  obtain ⟨h0, -, -, h3, -⟩ := H.cells
  unfold tickErr at h
  by_cases h1 : n < 0
  · go_enter Try.func30, Try.ntmps30
    go_wp2
    go_ret
    exact ⟨rfl, rfl⟩
  · by_cases h2 : 100000 < n
    · clear h
      go_enter Try.func30, Try.ntmps30
      go_wp2
      go_ret
      exact ⟨rfl, rfl⟩
    · have h4 : 1099511627776 - hd.now < n := by
        rcases Decidable.em (n < 0 ∨ 100000 < n ∨ 1099511627776 - hd.now < n) with hh | hh
        · omega
        · rw [if_neg hh] at h; omega
      clear h
      go_enter Try.func30, Try.ntmps30
      go_wp2
      go_ret
      exact ⟨rfl, rfl⟩

set_option maxRecDepth 100000 in
set_option maxHeartbeats 1000000 in
theorem tick_on (H : BMem F w Y hd g) (n : Int) (h : tickErr hd n = 0) (hn0 : 0 ≤ hd.now) (hn1 : hd.now ≤ 1099511627776) (hh : 0 ≤ hd.hold ∧ hd.hold ≤ 1000) (hpk : ∀ p ∈ g.PP, p.1.length ≤ maxLen ∧ p.2.2.node.length ≤ maxLen ∧ 0 ≤ p.2.2.since ∧ p.2.2.since ≤ 1099511627776)
    (hl : g.FF.length + g.PP.length < 100000) :
    Calls Try.prog 30 #[.pointer (some ⟨Y, 0, none⟩), .int .i64 n] w fun e w' => e = .returned (.int .i64 0) ∧ ∃ g', BMem F w' Y (hd.later n) g' ∧ Kept F w w' ∧ Lifts (hd.later n) g g' ∧ ∀ p ∈ g'.PP, due (hd.later n) p.2.2 = false := by
  obtain ⟨h0, -, -, h3, hfz⟩ := H.cells
  have hr : 0 ≤ n ∧ n ≤ 100000 ∧ n ≤ 1099511627776 - hd.now := by
    unfold tickErr at h
    rcases Decidable.em (n < 0 ∨ 100000 < n ∨ 1099511627776 - hd.now < n) with hh | hh
    · rw [if_pos hh] at h; omega
    · omega
  obtain ⟨q1, q2, q3⟩ := hr
  clear h
  have hf3 := hfz 3
  have hY := H.lt Y H.fy
  have hx5 := H.cP
  have HN : Hid (BMem F (w.setCell ⟨Y, 3, none⟩ (.int .i64 (hd.now + n))) Y (hd.later n) g) := H.setNow n
  have HF : Hid (∀ b, F b → b < w.heap.size) := H.lt
  have Hfy : Hid (F Y) := H.fy
  have Hpk : Hid (∀ p ∈ g.PP, p.1.length ≤ maxLen ∧ p.2.2.node.length ≤ maxLen ∧ 0 ≤ p.2.2.since ∧ p.2.2.since ≤ 1099511627776) := hpk
  have hY5 : (w.setCell ⟨Y, 3, none⟩ (.int .i64 (hd.now + n))).cell? ⟨Y, 5, none⟩ = some (.map (some g.bp)) := HN.out.cP
  have hpd := HN.out.pd
  clear hfz hpk
  go_enter Try.func30, Try.ntmps30
  go_wp2_with (at_range; refine wpL_range _ rfl _ 105 rfl 9 117 strK Try.underlying105 g.bp _ rfl (by exact hpd) ?_; intro w2 hr2 hb2 hs2)
  have H2 := HN.out.below hb2
  have K2 : Hid (Kept F w w2) := ((Kept.refl F w).setCell (p := ⟨Y, 3, none⟩) (fun _ => Hfy.out) _).trans (Kept.of_below (F := noBlock) hb2) (fun _ _ h => h.elim)
  have hle : (w.setCell ⟨Y, 3, none⟩ (.int .i64 (hd.now + n))).heap.size = w.heap.size := size_setCell _ _ _
  generalize hrr : (w.setCell ⟨Y, 3, none⟩ (.int .i64 (hd.now + n))).heap.size = r at hr2 hle ⊢
  have HR : Hid (r = w.heap.size) := hle
  clear hs2 hb2 hpd hY5 hx5 hrr hle hf3 h0 h3
  go_frame
  go_loopw [5] (fun _ wr => ∃ todo g', RngAt Try.prog wr 9 g.bp r (mapV (fun x => ptrV x.1) g'.PP) todo ∧ BMem F wr Y (hd.later n) g' ∧ Kept F w wr ∧ TickTo (hd.later n) g todo g') (fun _ wr => wr.rangeLeft g.bp r)
  case atStart =>
    refine ⟨_, g, hr2, H2, K2.out, .refl, fun p hp => hp, fun p hp _ => ?_, Nat.le_refl _, rfl⟩
    rw [getL_mapV, getL_of_mem H.sortP.distinct (k := p.1) (v := p.2) hp]
    rfl
  case round =>
    clear H2 K2 hr2
    obtain ⟨todo, g1, hrg, hB, hK, hT⟩ := hrel
    have HK : Hid (Kept F w wr) := hK
    have HT : Hid (TickTo (hd.later n) g todo g1) := hT
    have HB : Hid (BMem F wr Y (hd.later n) g1) := hB
    clear hK hT hB
    go_wp2_with (at_next; refine wpL_next _ rfl _ rfl 9 strK Value.string (fun q : Nat => Value.pointer (some ⟨q, 0, none⟩)) g.bp r _ todo (fun _ _ => strInv) (fun _ v h => ptrInv h) rfl hrg ?_ ?_)
    · intro hl0
      go_wp2
      go_ret
      refine ⟨rfl, g1, HB.out, HK.out, HT.out.lifts, fun p hp => ?_⟩
      cases hdue : due (hd.later n) p.2.2
      · rfl
      · have := HT.out.left p hp hdue
        rw [hl0] at this
        cases this
    · intro x c kb w3 hkey htd hget hrg3 hlt3 hk3 hs3 hen
      obtain ⟨e3, hkl⟩ := keyS_inv hkey
      simp only [Value.string.injEq] at e3
      obtain ⟨y, rfl⟩ : ∃ y, kb = ky y := ⟨bs kb, (ky_bs kb).symm⟩
      rw [bs_ky] at e3
      subst e3
      have hys : x.size ≤ maxLen := by rw [← ky_length]; exact hkl
      obtain ⟨z, hz, hzc⟩ : ∃ z, getL g1.PP (ky x) = some z ∧ z.1 = c := by
        rw [getL_mapV] at hget
        cases hgn : getL g1.PP (ky x) with
        | none => rw [hgn] at hget; cases hget
        | some z => rw [hgn] at hget; simp [ptrV] at hget; exact ⟨z, rfl, hget⟩
      subst hzc
      have hB3 := HB.out.kept hk3 (fun b hb e => by have := HF.out b hb; have := HR.out; omega) (fun _ h => h) (fun b hb => Nat.lt_of_lt_of_le (HB.out.lt b hb) hk3.size)
      have HK3 : Hid (Kept F w w3) := HK.out.trans hk3 (fun i hi e => by have := HR.out; omega)
      have Hlt : Hid (w3.rangeLeft g.bp r < wr.rangeLeft g.bp r) := hlt3
      obtain ⟨-, -, -, -, -, pc7, pc8, -⟩ := (hB3.getP hz).2.cells
      obtain ⟨hc0, -, -, hc3, -⟩ := hB3.cells
      have hmem := getL_mem hz
      obtain ⟨-, pk2, pk3, pk4⟩ := Hpk.out _ (HT.out.sub _ hmem)
      dsimp only at pk2 pk3 pk4
      have Hz : Hid (getL g1.PP (ky x) = some z) := hz
      have HB3 : Hid (BMem F w3 Y (hd.later n) g1) := hB3
      have Hrg3 : Hid (RngAt Try.prog w3 9 g.bp r (mapV (fun x => ptrV x.1) g1.PP) fun k => todo k && !(k == ky x)) := hrg3
      have hnow : (hd.later n).now = hd.now + n := rfl
      have hhold : (hd.later n).hold = hd.hold := rfl
      rw [hnow] at hc3
      rw [hhold] at hc0
      have Hskip : Hid (due (hd.later n) z.2 = false → TickTo (hd.later n) g (fun k => todo k && !(k == ky x)) g1) := fun hdue => ⟨HT.out.lifts, HT.out.sub, fun p hp hd1 => by
        have h1 := HT.out.left p hp hd1
        by_cases e : p.1 = ky x
        · have h2 := getL_of_mem HB3.out.sortP.distinct (k := p.1) (v := p.2) hp
          rw [e, hz] at h2
          rw [← Option.some.inj h2, hdue] at hd1
          cases hd1
        · simp [h1, e], HT.out.len, HT.out.bp⟩
      clear hz hmem hget htd hkey hkl hlt3 hk3 hs3 hrg hB3 hrg3 hnow hhold
      cases hbd : z.2.bound
      · by_cases hdue : hd.hold ≤ hd.now + n - z.2.since
        · have HD : Hid (due (hd.later n) z.2 = true) := by show due _ _ = true; simp [due, hbd, Head.later, hdue]
          rw [hbd, show boolI false = 0 from rfl] at pc7
          clear hbd
          have c1 := fun W (HB : BMem F W Y (hd.later n) g1) => lift_any HB x hys (by have := HT.out.len; omega) z Hz.out pk2
          have HW : Hid (∀ m, BMem F (w3.drewN m) Y (hd.later n) g1) := fun m => HB3.out.kept ((Kept.refl noBlock w3).drewN m) (fun _ _ => id) (fun _ h => h) HB3.out.lt
          go_wp2
          go_quiet (fail)
          go_wp2_with (go_at_call 51; refine (c1 _ (HW.out _)).mono ?_; rintro e w4 ⟨rfl, H4, hk4, hs4⟩)
          have hb1 : g1.bp = g.bp := HT.out.bp
          have hrF : ¬ F r := fun h => by have := HF.out _ h; have := HR.out; omega
          have hkF : Kept F (w3.drewN nq) w4 := hk4.mono fun i _ h => (HW.out nq).dropFoot h
          have hrg4 := (Hrg3.out.kept ((Kept.refl noBlock w3).drewN nq) id id).shrunk (L' := mapV (fun x => ptrV x.1) (delL g1.PP (ky x))) (by rw [← hb1]; exact hs4) (by rw [← hb1]; exact H4.pd) (hkF.block r Hrg3.out.lt hrF)
          obtain ⟨hrg5, hle5⟩ := hrg4
          have HT4 : Hid (TickTo (hd.later n) g (fun k => (todo k && !(k == ky x)) && (getL (mapV (fun x => ptrV x.1) (delL g1.PP (ky x))) k).isSome) ((g1.unlay (ky x)).changed z.2.node)) := by
            refine ⟨.step HT.out.lifts Hz.out HD.out, fun p hp => HT.out.sub p (mem_delL.1 hp).1, fun p hp hd1 => ?_, ?_, HT.out.bp⟩
            · obtain ⟨m1, m2⟩ := mem_delL.1 (show p ∈ delL g1.PP (ky x) from hp)
              have h1 := HT.out.left p m1 hd1
              have h2 : getL (delL g1.PP (ky x)) p.1 = some p.2 := getL_of_mem (HB3.out.sortP.filter _).distinct (show (p.1, p.2) ∈ delL g1.PP (ky x) from hp)
              simp [h1, m2, getL_mapV, h2]
            · have l1 := length_delL HB3.out.sortP.distinct (k := ky x) (by rw [Hz.out]; rfl)
              have l2 := length_putL_le g1.FF z.2.node ()
              have l3 := HT.out.len
              show (putL g1.FF z.2.node ()).length + (delL g1.PP (ky x)).length ≤ _
              omega
          go_roundw
          case rel => exact ⟨_, _, hrg5, H4, (HK3.out.drewN nq).trans hkF (fun i _ h => h), HT4.out⟩
          case measure => exact Nat.lt_of_le_of_lt hle5 Hlt.out
        · have HD : Hid (due (hd.later n) z.2 = false) := by show due _ _ = false; simp [due, hbd, Head.later, hdue]
          rw [hbd, show boolI false = 0 from rfl] at pc7
          have hdec : decide (hd.hold ≤ hd.now + n - z.2.since) = false := by simpa using hdue
          clear hdue hbd
          go_wp2
          go_quiet (fail)
          go_wp2
          go_roundw
          case rel => exact ⟨_, g1, Hrg3.out.kept ((Kept.refl noBlock w3).drewN nq) id id, HB3.out.kept ((Kept.refl noBlock w3).drewN nq) (fun _ _ => id) (fun _ h => h) HB3.out.lt, HK3.out.drewN nq, Hskip.out HD.out⟩
          case measure => exact Hlt.out
      · have HD : Hid (due (hd.later n) z.2 = false) := by show due _ _ = false; simp [due, hbd]
        rw [hbd, show boolI true = 1 from rfl] at pc7
        clear hbd
        go_wp2
        go_quiet (fail)
        go_wp2
        go_roundw
        case rel => exact ⟨_, g1, Hrg3.out.kept ((Kept.refl noBlock w3).drewN nq) id id, HB3.out.kept ((Kept.refl noBlock w3).drewN nq) (fun _ _ => id) (fun _ h => h) HB3.out.lt, HK3.out.drewN nq, Hskip.out HD.out⟩
        case measure => exact Hlt.out

/-- Behind Tick. -/
def Gh.TickTo (g : Gh) (hd : Head) (n : Int) (hd' : Head) (g' : Gh) : Prop := (tickErr hd n ≠ 0 ∧ hd' = hd ∧ g' = g) ∨ (tickErr hd n = 0 ∧ hd' = hd.later n ∧ Lifts hd' g g' ∧ ∀ p ∈ g'.PP, due hd' p.2.2 = false)

theorem pTick_any (H : BMem F w Y hd g) (n : Int) (hn0 : 0 ≤ hd.now) (hn1 : hd.now ≤ 1099511627776) (hh : 0 ≤ hd.hold ∧ hd.hold ≤ 1000) (hpk : ∀ p ∈ g.PP, p.1.length ≤ maxLen ∧ p.2.2.node.length ≤ maxLen ∧ 0 ≤ p.2.2.since ∧ p.2.2.since ≤ 1099511627776)
    (hl : g.FF.length + g.PP.length < 100000) :
    Calls Try.prog 30 #[.pointer (some ⟨Y, 0, none⟩), .int .i64 n] w fun e w' => ∃ hd' g', e = .returned (.int .i64 (tickErr hd n)) ∧ BMem F w' Y hd' g' ∧ Kept F w w' ∧ g.TickTo hd n hd' g' := by
  by_cases h : tickErr hd n = 0
  · exact (tick_on H n h hn0 hn1 hh hpk hl).mono fun e w' ⟨h1, g', h2, h3, h4, h5⟩ => ⟨_, g', by rw [h]; exact h1, h2, h3, .inr ⟨h, rfl, h4, h5⟩⟩
  · have h8 : tickErr hd n = 8 := by unfold tickErr at h ⊢; split <;> simp_all
    refine (tick_late H n h8 hn0 hn1).mono fun e w' h' => ?_
    obtain ⟨h1, rfl⟩ := h'
    exact ⟨hd, g, by rw [h8]; exact h1, H, Kept.refl _ _, .inl ⟨h, rfl, rfl⟩⟩

end

end Go.Proofs.Ytchddaafibjmgaa
