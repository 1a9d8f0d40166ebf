/-
  Enough, walked: what was scheduled overloads no node, and takes no port twice.
-/
import Derived.Test.YtchddaafibjmgaaQKSolo
import Derived.Deep.CutRange
import Derived.Deep.CutBlock
namespace Go.Proofs.Ytchddaafibjmgaa
open Go.RowKit Go.Maps

theorem infoStrK : (Try.prog.info? 9).map (fun i => (i.zero, i.size, i.bytes)) = some (some (.string ⟨#[]⟩), 1, 16) := by kernel_rfl

theorem made4 : madeCells (Value.string ⟨#[]⟩).cells (4 * 1) = #[.string ⟨#[]⟩, .string ⟨#[]⟩, .string ⟨#[]⟩, .string ⟨#[]⟩] := by kernel_rfl

theorem three_cells {w : World} {b : Nat} {t : TypeId} {y0 y1 y2 : Value} (h : w.heap[b]? = some (.cells #[y0, y1, y2] t (0, 0))) (x0 x1 x2 : Value) :
    (((w.setCell ⟨b, 0, none⟩ x0).setCell ⟨b, 1, none⟩ x1).setCell ⟨b, 2, none⟩ x2).heap[b]? = some (.cells #[x0, x1, x2] t (0, 0)) := by
  have h0 := block_setCell h (i := 0) x0
  have h1 := block_setCell h0 (i := 1) x1
  have h2 := block_setCell h1 (i := 2) x2
  rw [h2]
  simp

/-- What the law holds between two things that happen. -/
structure EInv (w wr : World) (Y : Nat) (F : Nat → Prop) (N0 : List (Bytes × NodeV)) (a : Abs) (rv : Value) (n : Nat) (xs : List Value) (pb : Nat) (p0 p1 p2 p3 : ByteArray) : Prop where
  D : Solo w wr Y F a
  R : RowIn F w wr 42 6 rv n xs
  N : a.N = N0
  en : a.enough
  port : wr.heap[pb]? = some (.cells #[.string p0, .string p1, .string p2, .string p3] 9 (0, 0))
  pnew : w.heap.size ≤ pb ∧ ¬ F pb
  pd : Ported a 1 p1 ∧ Ported a 2 p2 ∧ Ported a 3 p3

theorem EInv.onward {w wr w' : World} {Y : Nat} {F : Nat → Prop} {N0 : List (Bytes × NodeV)} {a : Abs} {rv : Value} {n : Nat} {xs : List Value} {pb : Nat} {p0 p1 p2 p3 : ByteArray} (E : EInv w wr Y F N0 a rv n xs pb p0 p1 p2 p3) (hb : Below wr.heap.size wr w') : EInv w w' Y F N0 a rv n xs pb p0 p1 p2 p3 :=
  ⟨E.D.onward hb, E.R.onward hb, E.N, E.en, (hb.block _ (lt_of_block E.port)).trans E.port, E.pnew, E.pd⟩

theorem EInv.turn {w wr w' : World} {Y : Nat} {F : Nat → Prop} {N0 : List (Bytes × NodeV)} {a : Abs} {rv : Value} {n : Nat} {xs : List Value} {pb : Nat} {p0 p1 p2 p3 r0 r1 r2 r3 : ByteArray} (E : EInv w wr Y F N0 a rv n xs pb p0 p1 p2 p3) (hk : Kept (fun b => b = pb) wr w') (hp : w'.heap[pb]? = some (.cells #[.string r0, .string r1, .string r2, .string r3] 9 (0, 0))) (pd : Ported a 1 r1 ∧ Ported a 2 r2 ∧ Ported a 3 r3) : EInv w w' Y F N0 a rv n xs pb r0 r1 r2 r3 := by
  refine ⟨E.D.beside hk fun b e => by subst e; exact E.pnew, E.R.beside hk fun b hb e => ?_, E.N, E.en, hp, E.pnew, pd⟩
  subst e
  obtain ⟨c, hc⟩ := row_typeS E.R.row hb
  rw [E.port] at hc
  simp only [Option.some.injEq, Obj.cells.injEq] at hc
  exact absurd hc.2.1 (by decide)

theorem kpod_port (r : RawD) (hr : r.ok) (w : World) : Calls Try.prog 29 #[.agg #[.int .i64 r.kind, .int .i64 r.name, .int .i64 r.node, .int .i64 r.needs, .int .i64 r.flags, .int .i64 r.links]] w fun e w' => ∃ p : PodD, e = .returned (.agg #[.string p.name, .int .i64 p.n0, .int .i64 p.n1, .int .i64 p.n2, .int .i64 r.podPort, .slice p.labels.a p.labels.L.length p.labels.cap, .slice p.select.a p.select.L.length p.select.cap, .slice p.bears.a p.bears.L.length p.bears.cap, .slice p.near.a p.near.L.length p.near.cap, .slice p.apart.a p.apart.L.length p.apart.cap]) ∧ Below w.heap.size w w' := by
  refine (kpod_val r hr w).mono ?_
  rintro e w' ⟨p, rfl, _, _, hv, hb⟩
  have hp : p.port = r.podPort := congrArg PodV.port hv
  exact ⟨p, by unfold PodD.cells Lst.val; rw [hp], hb⟩

theorem podPort_bound (r : RawD) : 0 ≤ r.podPort ∧ r.podPort ≤ 3 := by
  have hF := pickI_bound r.flags (n := 1073741824) (by omega)
  unfold RawD.podPort RawD.F
  split <;> omega

theorem happen_sched {r : RawD} {a : Abs} (h : r.kindI < 3) : r.happen a = a.sched r.podName r.podV := by
  unfold RawD.happen
  rw [if_neg (by omega), if_neg (by omega), if_neg (by omega), if_neg (by omega), if_neg (by omega), if_neg (by omega)]

theorem portC {W : World} {b : Nat} {t : TypeId} {y0 y1 y2 y3 : Value} (hB : W.heap[b]? = some (.cells #[y0, y1, y2, y3] t (0, 0))) : W.cell? ⟨b, 0, none⟩ = some y0 ∧ W.cell? ⟨b, 1, none⟩ = some y1 ∧ W.cell? ⟨b, 2, none⟩ = some y2 ∧ W.cell? ⟨b, 3, none⟩ = some y3 ∧ ∀ o, W.frozen? ⟨b, o, none⟩ = false := by
  refine ⟨?_, ?_, ?_, ?_, fun o => frozen_of_block hB⟩ <;> (rw [cell_of_block hB]; rfl)

theorem amtC {W : World} {b : Nat} {t : TypeId} {y0 y1 y2 : Value} (hB : W.heap[b]? = some (.cells #[y0, y1, y2] t (0, 0))) : W.cell? ⟨b, 0, none⟩ = some y0 ∧ W.cell? ⟨b, 1, none⟩ = some y1 ∧ W.cell? ⟨b, 2, none⟩ = some y2 ∧ ∀ o, W.frozen? ⟨b, o, none⟩ = false := by
  refine ⟨?_, ?_, ?_, fun o => frozen_of_block hB⟩ <;> (rw [cell_of_block hB]; rfl)

theorem knode_room (r : RawD) (hr : r.ok) (w : World) : Calls Try.prog 27 #[.agg #[.int .i64 r.kind, .int .i64 r.name, .int .i64 r.node, .int .i64 r.needs, .int .i64 r.flags, .int .i64 r.links]] w fun e w' => ∃ (a1 : Option Addr) (l1 c1 : Nat) (a2 : Option Addr) (l2 c2 : Nat), e = .returned (.agg #[.string r.nodeName, .int .i64 r.room.1, .int .i64 r.room.2.1, .int .i64 r.room.2.2, .slice a1 l1 c1, .slice a2 l2 c2]) ∧ Below w.heap.size w w' := by
  refine (knode_any r hr w).mono ?_
  rintro e w' ⟨n, rfl, _, h1, h2, h3, h4, _, _, hb⟩
  refine ⟨n.labels.a, n.labels.L.length, n.labels.cap, n.taints.a, n.taints.L.length, n.taints.cap, ?_, hb⟩
  unfold NodeD.cells Lst.val
  rw [h1, h2, h3, h4]
  rfl

set_option maxRecDepth 100000 in
set_option maxHeartbeats 8000000 in
theorem enough_any (hold : Int) (N S : List RawD) (aN aS : Option Addr) (cN cS : Nat) (w : World) (hh : i64 hold) (hlN : N.length ≤ 1048576) (hlS : S.length ≤ 1048576) (hN : RawsAt w aN N) (hS : RawsAt w aS S) :
    Calls Try.prog 6 #[.int .i64 hold, .slice aN N.length cN, .slice aS S.length cS] w fun e w' => e = .returned (.bool true) ∧ Below w.heap.size w w' := by
  have cM := fun W (hb : Below w.heap.size w W) => made_any hold true false N aN cN W hh (by omega) (hN.below hb)
  have cV := lives_any w
  obtain ⟨i0, hi, hz0, hz1, hz2⟩ := info_parts infoAN
  have HNs : Hid (RawsAt w aN N) := hN
  have HSs : Hid (RawsAt w aS S) := hS
  clear hN hS
  go_enter Try.func6, Try.ntmps6
  go_upto_block 0 with (first
    | (go_at_call 22; refine (cM _ hb1).mono ?_; rintro e w2 ⟨Y, F0, rfl, B0, f0, hb2'⟩; have hb2 := below_trans hb1 hb2')
    | (go_at_call 21; refine cV.mono ?_; rintro e w1 ⟨rfl, hb1⟩))
  have HD : Hid (Solo w w2 Y F0 (madeA hold N)) := ⟨B0, fun x h => Nat.le_trans hb1.size (f0 x h), hb2⟩
  have HRm : Hid (Roomy (madeA hold N) N) := Roomy.puts hold N
  clear cM cV B0 f0 hb1 hb2 hb2'
  generalize madeA hold N = a0 at *
  go_cut [9] from 10 to 156 (fun rv wx => ∃ (oo : Option Addr) (oc : Nat) (vs : List (Value × Value)), rv = .slice oo N.length oc ∧ vs.length = N.length ∧ Solo w wx Y F0 a0 ∧ RowIn F0 w wx 42 6 (.slice oo N.length oc) N.length ((N.zip vs).flatMap roomRow))
  case first =>
    go_wp2
    go_loopw [9, 10] (fun rv i wr => ∃ (k : Nat) (oo : Option Addr) (oc : Nat) (vs : List (Value × Value)), k ≤ N.length ∧ i = .int .i64 k ∧ rv = .slice oo k oc ∧ vs.length = k ∧ Solo w wr Y F0 a0 ∧ RowIn F0 w wr 42 6 (.slice oo k oc) k (((N.take k).zip vs).flatMap roomRow)) (fun _ i _ => N.length - (intOf i).toNat)
    case atStart => exact ⟨0, none, 0, [], Nat.zero_le _, rfl, rfl, rfl, HD.out, ⟨World.ownsRow_nil _ _ _ _, fun b h => by simp [Value.ownBlock] at h⟩⟩
    case round =>
      clear HD
      obtain ⟨k, oo, oc, vs, hk, rfl, rfl, hvs, D, R⟩ := hrel
      have HD : Hid _ := D
      have HR : Hid _ := R
      have HV : Hid (vs.length = k) := hvs
      by_cases hlt : k < N.length
      · obtain ⟨sb, off, rfl, hbl, hok, s0, s1, s2, s3, s4, s5⟩ := (HNs.out.below D.below) k hlt
        have HNx : Hid (N.take (k + 1) = N.take k ++ [N[k]]) := List.take_succ_eq_append_getElem hlt
        generalize N[k] = r at *
        have cN := knode_room r hok wr
        have hroom := pickI_bound r.needs (n := 1099511627776) (by omega)
        clear D R hvs
        go_wp2_with (first
          | (go_at_call 27; refine cN.mono ?_; rintro e w3 ⟨a1, l1, c1, a2, l2, c2, rfl, hb3⟩; have HR3 : Hid (RowIn F0 w (w3.alloc (.cells #[.string r.nodeName, .int .i64 r.room.1, .int .i64 r.room.2.1, .int .i64 r.room.2.2, .slice a1 l1 c1, .slice a2 l2 c2] 42)) 42 6 (.slice oo k oc) k (((N.take k).zip vs).flatMap roomRow)) := (HR.out.onward hb3).onward (below_alloc _ _); have HROW : Hid _ := HR3.out.row)
          | (at_builtin; refine wpList_append_row _ rfl (.tmp 37) (.tmp 43) 71 rfl 42 i0 _ 6 88 Try.underlying71 hi hz0 hz1 hz2 rfl (by decide) (.slice oo k oc) k _ rfl HROW.out ⟨w3.heap.size, 0, none⟩ 1 1 [.string r.nodeName, .int .i64 r.room.1, .int .i64 r.room.2.1, .int .i64 r.room.2.2, .slice a1 l1 c1, .slice a2 l2 c2] rfl rfl (six_at w3 _ _ _ _ _ _ _) (fun u hu => by simp at hu; rcases hu with rfl | rfl | rfl | rfl | rfl | rfl <;> rfl) (by unfold maxLen; omega) (by omega) ?_; intro ao5 cap5 w5 r5 g5 f5))
        go_roundw
        case rel =>
          have D4 := (HD.out.onward hb3).onward (below_alloc w3 (.cells #[.string r.nodeName, .int .i64 r.room.1, .int .i64 r.room.2.1, .int .i64 r.room.2.2, .slice a1 l1 c1, .slice a2 l2 c2] 42))
          have K5 : Kept (fun b => (Value.slice oo k oc).ownBlock = some b) _ w5 := (Kept.refl _ _).grown g5 fun k hk _ => hk
          refine ⟨k + 1, ao5, cap5, vs ++ [(.slice a1 l1 c1, .slice a2 l2 c2)], by omega, by go_num, rfl, by rw [List.length_append, HV.out]; rfl, D4.beside K5 fun b hb => HR3.out.new b hb, ?_⟩
          have hxs : ((N.take (k + 1)).zip (vs ++ [(Value.slice a1 l1 c1, Value.slice a2 l2 c2)])).flatMap roomRow = ((N.take k).zip vs).flatMap roomRow ++ [.string r.nodeName, .int .i64 r.room.1, .int .i64 r.room.2.1, .int .i64 r.room.2.2, .slice a1 l1 c1, .slice a2 l2 c2] := by
            rw [HNx.out, List.zip_append (by rw [List.length_take, HV.out]; omega), List.flatMap_append]
            rfl
          rw [hxs]
          exact HR3.out.grown (fun b hb => D4.st.lt b hb) D4.below.size r5 f5
        case measure => simp [intOf]; omega
      · have hkn : k = N.length := by omega
        subst hkn
        clear D R hvs
        go_wp2
        go_meet
        refine ⟨oo, oc, vs, rfl, HV.out, HD.out, ?_⟩
        have h := HR.out
        rw [List.take_length] at h
        exact h
  case rest =>
    clear HD
    obtain ⟨oo, oc, vs, rfl, hvs, D, R⟩ := hcut
    have HD : Hid (Solo w wc Y F0 a0) := D
    have HR : Hid (RowIn F0 w wc 42 6 (.slice oo N.length oc) N.length ((N.zip vs).flatMap roomRow)) := R
    have HV : Hid (vs.length = N.length) := hvs
    obtain ⟨i1, hi1, hz10, hz11, hz12⟩ := info_parts infoStrK
    have HEn : Hid a0.enough := HRm.out.enough D.st.fine
    clear D R hvs hi hz0 hz1 hz2
    go_upto_block 2 with (at_make; refine wpList_make_row _ rfl _ _ 73 rfl 9 i1 _ 1 Try.underlying73 hi1 hz10 hz11 _ _ _ _ 4 rfl rfl (by rfl) (by rfl) (by rw [hz12]; omega) (by unfold maxLen; omega) ?_; intro wm hm hbm)
    have HI : Hid (EInv w wm Y F0 a0.N a0 (.slice oo N.length oc) N.length ((N.zip vs).flatMap roomRow) wc.heap.size ⟨#[]⟩ ⟨#[]⟩ ⟨#[]⟩ ⟨#[]⟩) :=
      ⟨HD.out.onward hbm, HR.out.onward hbm, rfl, HEn.out, by rw [hm, made4], ⟨HD.out.below.size, fun h => by have := HD.out.st.lt _ h; omega⟩, Ported.none _ _, Ported.none _ _, Ported.none _ _⟩
    clear HD HR hm hbm HEn
    generalize wc.heap.size = pb0 at *
    go_wp2
    go_loopw [11, 12] (fun pv i wr => ∃ (k pb : Nat) (p0 p1 p2 p3 : ByteArray) (F : Nat → Prop) (a : Abs), k ≤ S.length ∧ i = .int .i64 k ∧ pv = .slice (some ⟨pb, 0, none⟩) 4 4 ∧ EInv w wr Y F a0.N a (.slice oo N.length oc) N.length ((N.zip vs).flatMap roomRow) pb p0 p1 p2 p3) (fun _ i _ => S.length - (intOf i).toNat)
    case atStart => exact ⟨0, pb0, _, _, _, _, F0, a0, Nat.zero_le _, rfl, rfl, HI.out⟩
    case round =>
      clear HI
      obtain ⟨k, pb, p0, p1, p2, p3, F, a, hk, rfl, rfl, E⟩ := hrel
      have HE : Hid _ := E
      by_cases hlt : k < S.length
      · obtain ⟨sb, off, rfl, hbl, hok, s0, s1, s2, s3, s4, s5⟩ := (HSs.out.below E.D.below) k hlt
        generalize hrk : S[k] = r at *
        have cK := pick_any r.kind 9 wr (by omega) (by omega) hok.kind.1 hok.kind.2
        have hpk := pickI_bound r.kind (n := 9) (by omega)
        have HKI : Hid (r.kindI = pickI r.kind 9) := rfl
        generalize pickI r.kind 9 = kk at *
        clear E
        by_cases h3 : kk = 3
        · subst h3
          go_wp2_with (go_at_call 28; refine cK.mono ?_; rintro e wq ⟨rfl, hq⟩; have hq := hq.symm; subst hq)
          go_roundw
          case rel => exact ⟨k + 1, pb, p0, p1, p2, p3, F, a, by omega, by go_num, rfl, HE.out⟩
          case measure => simp [intOf]; omega
        by_cases h4 : kk = 4
        · subst h4
          go_wp2_with (go_at_call 28; refine cK.mono ?_; rintro e wq ⟨rfl, hq⟩; have hq := hq.symm; subst hq)
          go_roundw
          case rel => exact ⟨k + 1, pb, p0, p1, p2, p3, F, a, by omega, by go_num, rfl, HE.out⟩
          case measure => simp [intOf]; omega
        by_cases h5 : kk = 5
        · subst h5
          go_wp2_with (go_at_call 28; refine cK.mono ?_; rintro e wq ⟨rfl, hq⟩; have hq := hq.symm; subst hq)
          go_roundw
          case rel => exact ⟨k + 1, pb, p0, p1, p2, p3, F, a, by omega, by go_num, rfl, HE.out⟩
          case measure => simp [intOf]; omega
        have e3 : (kk == 3) = false := by simpa using h3
        have e4 : (kk == 4) = false := by simpa using h4
        have e5 : (kk == 5) = false := by simpa using h5
        have hfin := HE.out.D.st.fine
        have cA := happens_any HE.out.D.st r hok
        obtain ⟨hN', hen'⟩ := enough_happen hfin HE.out.en r (by rw [HKI.out]; exact h3) (by rw [HKI.out]; exact h4) (by rw [HKI.out]; exact h5)
        obtain ⟨rp, a', hra⟩ : ∃ rp a', r.happen a = (rp, a') := ⟨_, _, rfl⟩
        have HRA : Hid (r.happen a = (rp, a')) := hra
        rw [hra] at cA hN' hen'
        dsimp only at cA hN' hen'
        have HN' : Hid (a'.N = a0.N) := hN'.trans HE.out.N
        have HEn' : Hid a'.enough := hen'
        have hlow : ∀ x, F x → x < wr.heap.size := HE.out.D.st.lt
        have HLow : Hid (∀ x, F x → x < wr.heap.size) := hlow
        unfold repV RawD.cells at cA
        clear hra hN' hen' hfin hlow h3 h4 h5
        go_upto_region 18 with (first
          | (go_at_call 28; refine cK.mono ?_; rintro e wq ⟨rfl, hq⟩; have hq := hq.symm; subst hq)
          | (go_at_call 23; refine cA.mono ?_; rintro e w4 ⟨F4, qo, qc, rfl, L4, R4⟩; have HL4 : Hid _ := L4; have D4 := HE.out.D.step L4; have cS := spec_state (D4.st.below (below_alloc w4 (.cells #[.int .i64 rp.err, .string (bs rp.node), .int .i64 rp.score, .slice qo rp.reasons.length qc, .int .i64 rp.fresh] 59))); have HD4 : Hid _ := D4; unfold stV at cS; clear D4 L4 R4)
          | (go_at_call 25; refine cS.mono ?_; rintro e w6 ⟨o1, k1, o2, k2, rfl, S6, hb6⟩))
        obtain ⟨w7, hw7⟩ : ∃ W, W = w6.alloc (.cells #[.int .i64 a'.now, .slice o1 a'.N.length k1, .slice o2 a'.P.length k2, .int .i64 a'.W.length] 67) := ⟨_, rfl⟩
        rw [← hw7]
        have hb57 : Below (w4.alloc (.cells #[.int .i64 rp.err, .string (bs rp.node), .int .i64 rp.score, .slice qo rp.reasons.length qc, .int .i64 rp.fresh] 59)).heap.size (w4.alloc (.cells #[.int .i64 rp.err, .string (bs rp.node), .int .i64 rp.score, .slice qo rp.reasons.length qc, .int .i64 rp.fresh] 59)) w7 := by rw [hw7]; exact below_trans hb6 (below_alloc _ _)
        have hb47 : Below w4.heap.size w4 w7 := below_trans (below_alloc _ _) hb57
        have b14 : w7.heap[w4.heap.size]? = some (.cells #[.int .i64 rp.err, .string (bs rp.node), .int .i64 rp.score, .slice qo rp.reasons.length qc, .int .i64 rp.fresh] 59 (0, 0)) := (hb57.block _ (by simp)).trans (block_alloc_new _ _)
        have b15 : w7.heap[w6.heap.size]? = some (.cells #[.int .i64 a'.now, .slice o1 a'.N.length k1, .slice o2 a'.P.length k2, .int .i64 a'.W.length] 67 (0, 0)) := by rw [hw7]; exact block_alloc_new _ _
        have D7 : Solo w w7 Y F4 a' := HD4.out.onward hb47
        have R7 : RowIn F4 w w7 42 6 (.slice oo N.length oc) N.length ((N.zip vs).flatMap roomRow) := (HE.out.R.left HL4.out).onward hb47
        have S7 := S6.onward (below_alloc w6 (.cells #[.int .i64 a'.now, .slice o1 a'.N.length k1, .slice o2 a'.P.length k2, .int .i64 a'.W.length] 67))
        rw [← hw7] at S7
        have pl := lt_of_block HE.out.port
        have P7 : w7.heap[pb]? = some (.cells #[.string p0, .string p1, .string p2, .string p3] 9 (0, 0)) := (hb47.block _ (Nat.lt_of_lt_of_le pl HL4.out.kept.size)).trans ((HL4.out.kept.block _ pl HE.out.pnew.2).trans HE.out.port)
        have pn7 : w.heap.size ≤ pb ∧ ¬ F4 pb := ⟨HE.out.pnew.1, fun h => (HL4.out.less _ h).elim HE.out.pnew.2 fun h => by omega⟩
        have l14 := lt_of_block b14
        have l15 := lt_of_block b15
        have lpb := lt_of_block P7
        have H14 : Hid _ := b14
        have H15 : Hid _ := b15
        have HD7 : Hid _ := D7
        have HR7 : Hid _ := R7
        have HS7 : Hid _ := S7.us
        have HP7 : Hid _ := P7
        have HPn : Hid _ := pn7
        have hn32 : a'.N.length ≤ 32 := D7.st.fine.nn
        have HRa : Hid (∀ kn : Bytes × NodeV, kn ∈ a'.N → (usedOf a'.P kn.1).1 ≤ (lastRoom N kn.1).1 ∧ (usedOf a'.P kn.1).2.1 ≤ (lastRoom N kn.1).2.1 ∧ (usedOf a'.P kn.1).2.2 ≤ (lastRoom N kn.1).2.2) := fun kn hkn => by
          have hg : getL a'.N kn.1 = some kn.2 := getL_of_mem D7.st.fine.sn.distinct hkn
          have h1 := HEn'.out kn.1 kn.2 hg
          rw [HN'.out] at hg
          rw [HRm.out.room kn.1 kn.2 hg]
          exact h1
        clear hw7 hb57 hb47 b14 b15 D7 R7 S7 S6 P7 pn7 pl hb6 cS cA cK HD4
        generalize w4.heap.size = x14 at *
        generalize w6.heap.size = x15 at *
        go_upto_block 4 with fail
        go_cut [16, 17, 18, 19] from 46 to 156 (fun _ _ _ _ wx => Below w7.heap.size w7 wx)
        case first =>
          go_wp2
          go_loopw [16] (fun jv wx => ∃ j : Nat, j ≤ a'.N.length ∧ jv = .int .i64 j ∧ Below w7.heap.size w7 wx) (fun jv _ => a'.N.length - (intOf jv).toNat)
          case atStart => exact ⟨0, Nat.zero_le _, rfl, Below.refl _ _⟩
          case round =>
            obtain ⟨j, hj, rfl, hbx⟩ := hrel
            have c15 := (hbx.block _ l15).trans H15.out
            obtain ⟨t0, t1, t2, t3⟩ := stC c15
            have lx := hbx.size
            have l15x := Nat.lt_of_lt_of_le l15 lx
            clear c15
            by_cases hlt3 : j < a'.N.length
            · obtain ⟨g, rfl, lg, cc, _⟩ := own_cellK HS7.out (by omega)
              have ff := fun i hi => flat_getK (fun p : Bytes × NodeV => useRowA a'.P p.1) 5 (fun _ => rfl) a'.N j i hlt3 hi
              have n0 : w7.cell? ⟨g, j * 5, none⟩ = some (.string (bs a'.N[j].1)) := by rw [cc _ (by omega)]; exact ff 0 (by omega)
              have n1 : w7.cell? ⟨g, j * 5 + 1, none⟩ = some (.int .i64 (usedOf a'.P a'.N[j].1).1) := by rw [cc _ (by omega)]; exact ff 1 (by omega)
              have n2 : w7.cell? ⟨g, j * 5 + 2, none⟩ = some (.int .i64 (usedOf a'.P a'.N[j].1).2.1) := by rw [cc _ (by omega)]; exact ff 2 (by omega)
              have n3 : w7.cell? ⟨g, j * 5 + 3, none⟩ = some (.int .i64 (usedOf a'.P a'.N[j].1).2.2) := by rw [cc _ (by omega)]; exact ff 3 (by omega)
              have hle := HRa.out a'.N[j] (List.getElem_mem hlt3)
              clear cc ff
              generalize a'.N[j] = kn at *
              obtain ⟨kj, nj⟩ := kn
              dsimp only at n0 n1 n2 n3 hle
              obtain ⟨u1, u2, u3⟩ : Int × Int × Int := usedOf a'.P kj
              generalize usedOf a'.P kj = uu at *
              obtain ⟨v1, v2, v3⟩ := uu
              dsimp only at n1 n2 n3 hle
              have m0 := (hbx.cell (p := ⟨g, j * 5, none⟩) lg).trans n0
              have m1 := (hbx.cell (p := ⟨g, j * 5 + 1, none⟩) lg).trans n1
              have m2 := (hbx.cell (p := ⟨g, j * 5 + 2, none⟩) lg).trans n2
              have m3 := (hbx.cell (p := ⟨g, j * 5 + 3, none⟩) lg).trans n3
              have lgx := Nat.lt_of_lt_of_le lg lx
              clear n0 n1 n2 n3 u1 u2 u3
              go_upto_block 6 with fail
              obtain ⟨wa, hwa⟩ : ∃ W, W = wr.alloc (.cells #[.int .i64 0, .int .i64 0, .int .i64 0] 30) := ⟨_, rfl⟩
              rw [← hwa]
              have hba : Below wr.heap.size wr wa := by rw [hwa]; exact below_alloc _ _
              have b17 : wa.heap[wr.heap.size]? = some (.cells #[.int .i64 0, .int .i64 0, .int .i64 0] 30 (0, 0)) := by rw [hwa]; exact block_alloc_new _ _
              have hb7a : Below w7.heap.size w7 wa := below_trans hbx hba
              have ma0 := (hba.cell (p := ⟨g, j * 5, none⟩) lgx).trans m0
              have ma1 := (hba.cell (p := ⟨g, j * 5 + 1, none⟩) lgx).trans m1
              have ma2 := (hba.cell (p := ⟨g, j * 5 + 2, none⟩) lgx).trans m2
              have ma3 := (hba.cell (p := ⟨g, j * 5 + 3, none⟩) lgx).trans m3
              have ta1 := (hba.cell (p := ⟨x15, 1, none⟩) l15x).trans t1
              have lga := Nat.lt_of_lt_of_le lgx hba.size
              have l15a := Nat.lt_of_lt_of_le l15x hba.size
              have l17 := lt_of_block b17
              have ng : ¬ g = wr.heap.size := by omega
              have n15 : ¬ x15 = wr.heap.size := by omega
              have HB7a : Hid (Below w7.heap.size w7 wa) := hb7a
              have Hx17 : Hid (w7.heap.size ≤ wr.heap.size) := lx
              have HLe : Hid _ := hle
              clear hwa hba hb7a m0 m1 m2 m3 t0 t1 t2 t3 lgx l15x hbx lx hle
              generalize wr.heap.size = x17 at *
              go_cut [18] from 76 to 122 (fun _ wx => wx.heap[x17]? = some (.cells #[.int .i64 (lastRoom N kj).1, .int .i64 (lastRoom N kj).2.1, .int .i64 (lastRoom N kj).2.2] 30 (0, 0)) ∧ Kept (fun b => b = x17) wa wx)
              case first =>
                have HB17 : Hid _ := b17
                clear b17
                go_wp2
                go_loopw [18] (fun nv wx => ∃ m : Nat, m ≤ N.length ∧ nv = .int .i64 m ∧ wx.heap[x17]? = some (.cells #[.int .i64 (lastRoom (N.take m) kj).1, .int .i64 (lastRoom (N.take m) kj).2.1, .int .i64 (lastRoom (N.take m) kj).2.2] 30 (0, 0)) ∧ Kept (fun b => b = x17) wa wx) (fun nv _ => N.length - (intOf nv).toNat)
                case atStart => exact ⟨0, Nat.zero_le _, rfl, HB17.out, Kept.refl _ _⟩
                case round =>
                  clear HB17
                  obtain ⟨m, hm, rfl, hbk, hKx⟩ := hrel
                  have HKx : Hid (Kept (fun b => b = x17) wa wr) := hKx
                  by_cases hltm : m < N.length
                  · have q0 := (hKx.cell (p := ⟨g, j * 5, none⟩) lga ng).trans ma0
                    have q15 := (hKx.cell (p := ⟨x15, 1, none⟩) l15a n15).trans ta1
                    obtain ⟨g2, rfl, lg2, cc, _⟩ := own_cellK HR7.out.row (by omega)
                    have hzl : m < (N.zip vs).length := by rw [List.length_zip, HV.out]; omega
                    have ff := fun i hi => flat_getK roomRow 6 (fun _ => rfl) (N.zip vs) m i hzl hi
                    have hzm : (N.zip vs)[m].1 = N[m] := by simp
                    have ng2 : ¬ g2 = x17 := by have := Hx17.out; omega
                    have lg2a := Nat.lt_of_lt_of_le lg2 HB7a.out.size
                    have rr := fun i => (hKx.cell (p := ⟨g2, i, none⟩) lg2a ng2).trans (HB7a.out.cell (p := ⟨g2, i, none⟩) lg2)
                    have r0 : wr.cell? ⟨g2, m * 6, none⟩ = some (.string N[m].nodeName) := by rw [rr, cc _ (by omega), ← hzm]; exact ff 0 (by omega)
                    have r1 : wr.cell? ⟨g2, m * 6 + 1, none⟩ = some (.int .i64 N[m].room.1) := by rw [rr, cc _ (by omega), ← hzm]; exact ff 1 (by omega)
                    have r2 : wr.cell? ⟨g2, m * 6 + 2, none⟩ = some (.int .i64 N[m].room.2.1) := by rw [rr, cc _ (by omega), ← hzm]; exact ff 2 (by omega)
                    have r3 : wr.cell? ⟨g2, m * 6 + 3, none⟩ = some (.int .i64 N[m].room.2.2) := by rw [rr, cc _ (by omega), ← hzm]; exact ff 3 (by omega)
                    have HLs : Hid (lastRoom (N.take (m + 1)) kj = if (ky N[m].nodeName == kj) = true then N[m].room else lastRoom (N.take m) kj) := lastRoom_succ N kj hltm
                    obtain ⟨y0, y1, y2, fy⟩ := amtC hbk
                    have HBk : Hid _ := hbk
                    have l17r := lt_of_block hbk
                    clear cc ff hzm rr hbk hKx
                    generalize N[m] = rm at *
                    by_cases hit : (ky rm.nodeName == kj) = true
                    · have e1 : (rm.nodeName.toList == (bs kj).toList) = true := by rw [toList_ky, toList_bs]; exact hit
                      have HHit : Hid _ := hit
                      clear hit
                      go_upto_region 25 with fail
                      go_quiet (fail)
                      go_wp2
                      go_roundw
                      case rel => exact ⟨m + 1, by omega, by go_num, by rw [HLs.out, if_pos HHit.out]; exact three_cells (show (wr.drewN _).heap[x17]? = _ from HBk.out) _ _ _, (((HKx.out.drewN _).setCell (p := ⟨x17, 0, none⟩) (fun _ => rfl) _).setCell (p := ⟨x17, 1, none⟩) (fun _ => rfl) _).setCell (p := ⟨x17, 2, none⟩) (fun _ => rfl) _⟩
                      case measure => simp [intOf]; omega
                    · have e1 : (rm.nodeName.toList == (bs kj).toList) = false := by rw [toList_ky, toList_bs]; simpa using hit
                      have HHit : Hid _ := hit
                      clear hit
                      go_upto_region 25 with fail
                      go_quiet (fail)
                      go_wp2
                      go_roundw
                      case rel => exact ⟨m + 1, by omega, by go_num, by rw [HLs.out, if_neg HHit.out]; exact HBk.out, HKx.out.drewN _⟩
                      case measure => simp [intOf]; omega
                  · have hmn : m = N.length := by omega
                    subst hmn
                    rw [List.take_length] at hbk
                    have HBk : Hid _ := hbk
                    clear hbk hKx
                    go_wp2
                    go_meet
                    exact ⟨HBk.out, HKx.out⟩
              case rest =>
                obtain ⟨hbk, hKx⟩ := hcut
                have q1 := (hKx.cell (p := ⟨g, j * 5 + 1, none⟩) lga ng).trans ma1
                have q2 := (hKx.cell (p := ⟨g, j * 5 + 2, none⟩) lga ng).trans ma2
                have q3 := (hKx.cell (p := ⟨g, j * 5 + 3, none⟩) lga ng).trans ma3
                have q15 := (hKx.cell (p := ⟨x15, 1, none⟩) l15a n15).trans ta1
                have lgc := Nat.lt_of_lt_of_le lga hKx.size
                have l15c := Nat.lt_of_lt_of_le l15a hKx.size
                have l17c := lt_of_block hbk
                have hB7 : Below w7.heap.size w7 wc := HB7a.out.trans (hKx.below HB7a.out.size fun i hi e => by have := Hx17.out; omega)
                have HBc : Hid _ := hB7
                have hle := HLe.out
                have HBk : Hid _ := hbk
                clear hKx hB7 hbk ma0 ma1 ma2 ma3 ta1 lga l15a b17 HLe
                generalize lastRoom N kj = LR at *
                obtain ⟨L1, L2, L3⟩ := LR
                dsimp only at hle HBk
                obtain ⟨hl1, hl2, hl3⟩ := hle
                go_wp2
                go_loopw [19] (fun nv wx => ∃ q : Nat, q ≤ 3 ∧ nv = .int .i64 q ∧ Below wc.heap.size wc wx) (fun nv _ => 3 - (intOf nv).toNat)
                case atStart => exact ⟨0, by omega, rfl, Below.refl _ _⟩
                case round =>
                  obtain ⟨q, hq, rfl, hbz⟩ := hrel
                  have z1 := (hbz.cell (p := ⟨g, j * 5 + 1, none⟩) lgc).trans q1
                  have z2 := (hbz.cell (p := ⟨g, j * 5 + 2, none⟩) lgc).trans q2
                  have z3 := (hbz.cell (p := ⟨g, j * 5 + 3, none⟩) lgc).trans q3
                  have z15 := (hbz.cell (p := ⟨x15, 1, none⟩) l15c).trans q15
                  obtain ⟨y0, y1, y2, fy⟩ := amtC ((hbz.block _ l17c).trans HBk.out)
                  have hq4 : q = 0 ∨ q = 1 ∨ q = 2 ∨ q = 3 := by omega
                  clear q1 q2 q3 q15 hq
                  rcases hq4 with rfl | rfl | rfl | rfl
                  · go_upto_region 30 with fail
                    go_quiet (fail)
                    go_wp2
                    go_roundw
                    case rel => exact ⟨1, by omega, rfl, below_drewN hbz _⟩
                    case measure => simp [intOf]
                  · go_upto_region 30 with fail
                    go_quiet (fail)
                    go_wp2
                    go_roundw
                    case rel => exact ⟨2, by omega, rfl, below_drewN hbz _⟩
                    case measure => simp [intOf]
                  · go_upto_region 30 with fail
                    go_quiet (fail)
                    go_wp2
                    go_roundw
                    case rel => exact ⟨3, by omega, rfl, below_drewN hbz _⟩
                    case measure => simp [intOf]
                  · go_wp2
                    go_roundw
                    case rel => exact ⟨j + 1, by omega, by go_num, HBc.out.trans (hbz.mono HBc.out.size)⟩
                    case measure => simp [intOf]; omega
            · go_wp2
              go_meet
              exact hbx
        case rest =>
          have hb8 := hcut
          clear s0 s1 s2 s3 s4 s5
          obtain ⟨b', off', e', _, _, s0, s1, s2, s3, s4, s5⟩ := (HSs.out.below (HD7.out.onward hb8).below) k hlt
          simp only [Option.some.injEq, Addr.mk.injEq, and_true] at e'
          obtain ⟨rfl, rfl⟩ := e'
          rw [hrk] at s0 s1 s2 s3 s4 s5
          have cPd := kpod_port r hok wc
          have hpq := podPort_bound r
          have HPq0 : Hid (r.podV.port = r.podPort) := rfl
          have HMk : Hid (∀ W, Below w7.heap.size w7 W → Ported a' 1 p1 ∧ Ported a' 2 p2 ∧ Ported a' 3 p3 → EInv w W Y F4 a0.N a' (.slice oo N.length oc) N.length ((N.zip vs).flatMap roomRow) pb p0 p1 p2 p3) := fun W hW hpd => ⟨HD7.out.onward hW, HR7.out.onward hW, HN'.out, HEn'.out, (hW.block _ lpb).trans HP7.out, HPn.out, hpd⟩
          have HLen : Hid (∀ p ∈ a.N, p.1.length = 2) := fun p hp => HRm.out.len p (by rw [← HE.out.N]; exact hp)
          generalize r.podPort = pq at *
          by_cases hk3 : kk < 3
          · have HSc : Hid (a.sched r.podName r.podV = (rp, a')) := by
              show _ = _
              rw [← happen_sched (by rw [HKI.out]; exact hk3)]
              exact HRA.out
            have HPs : Hid (∀ (q : Int) (s : ByteArray), Ported a q s → Ported a' q s) := fun q s h => by
              have := h.sched r.podName r.podV
              rw [HSc.out] at this
              exact this
            have HPall : Hid (Ported a' 1 p1 ∧ Ported a' 2 p2 ∧ Ported a' 3 p3) := ⟨HPs.out _ _ HE.out.pd.1, HPs.out _ _ HE.out.pd.2.1, HPs.out _ _ HE.out.pd.2.2⟩
            by_cases he : rp.err = 0
            · have he' : (rp.err == 0) = true := by simpa using he
              by_cases hp : 0 < pq
              · have hq3 : pq = 1 ∨ pq = 2 ∨ pq = 3 := by omega
                have HPq : Hid _ := HPq0.out
                clear HPq0 hpq hp
                rcases hq3 with rfl | rfl | rfl
                · have hne : (p1.toList == (bs rp.node).toList) = false := by
                    have h1 := ported_new (a := a) (s := p1) (n := r.podName) (v := r.podV) (by rw [show r.podV.port = 1 from HPq.out]; exact HE.out.pd.1) HLen.out (by rw [show r.podV.port = 1 from HPq.out]; omega) (by rw [HSc.out]; exact he)
                    rw [HSc.out] at h1
                    rw [toList_ky, toList_bs]
                    simpa using h1
                  go_upto_region 34 with (go_at_call 29; refine cPd.mono ?_; rintro e w9 ⟨pd, rfl, hb9'⟩; have hb9 := below_trans hb8 hb9'; have f14 := repC ((hb9.block _ l14).trans H14.out); obtain ⟨y0, y1, y2, y3, y4, y5⟩ := f14; obtain ⟨v0, v1, v2, v3, fv⟩ := portC ((hb9.block _ lpb).trans HP7.out); have lp9 := Nat.lt_of_lt_of_le lpb hb9.size; have l149 := Nat.lt_of_lt_of_le l14 hb9.size)
                  obtain ⟨w10, hw10⟩ : ∃ W, W = w9.alloc (.cells #[.string pd.name, .int .i64 pd.n0, .int .i64 pd.n1, .int .i64 pd.n2, .int .i64 1, .slice pd.labels.a pd.labels.L.length pd.labels.cap, .slice pd.select.a pd.select.L.length pd.select.cap, .slice pd.bears.a pd.bears.L.length pd.bears.cap, .slice pd.near.a pd.near.L.length pd.near.cap, .slice pd.apart.a pd.apart.L.length pd.apart.cap] 33) := ⟨_, rfl⟩
                  rw [← hw10]
                  have hb10 : Below w7.heap.size w7 w10 := by rw [hw10]; exact below_trans hb9 (below_alloc _ _)
                  have g20 : w10.cell? ⟨w9.heap.size, 4, none⟩ = some (.int .i64 1) := by rw [hw10, cell_of_block (block_alloc_new _ _)]; rfl
                  clear y0 y1 y2 y3 y4 y5 v0 v1 v2 v3 fv lp9 l149 hb9' hw10
                  obtain ⟨y0, y1, y2, y3, y4, y5⟩ := repC ((hb10.block _ l14).trans H14.out)
                  obtain ⟨v0, v1, v2, v3, fv⟩ := portC ((hb10.block _ lpb).trans HP7.out)
                  go_quiet (fail)
                  go_wp2
                  go_roundw
                  case rel =>
                    have E9 := HMk.out _ (below_drewN hb10 nq) HPall.out
                    have hP : Ported a' 1 (bs rp.node) := by
                      have h := ported_now (a := a) (n := r.podName) (v := r.podV) (by rw [HSc.out]; exact he)
                      rw [HSc.out] at h
                      have e : r.podV.port = 1 := HPq.out
                      rw [e] at h
                      exact h
                    have hB : ((w10.drewN nq).setCell ⟨pb, 1, none⟩ (.string (bs rp.node))).heap[pb]? = some (.cells #[.string p0, .string (bs rp.node), .string p2, .string p3] 9 (0, 0)) := by
                      rw [block_setCell E9.port]
                      rfl
                    exact ⟨k + 1, pb, p0, (bs rp.node), p2, p3, F4, a', by omega, by go_num, rfl, E9.turn ((Kept.refl (fun b => b = pb) (w10.drewN nq)).setCell (p := ⟨pb, 1, none⟩) (fun _ => rfl) (.string (bs rp.node))) hB ⟨hP, HPall.out.2.1, HPall.out.2.2⟩⟩
                  case measure => simp [intOf]; omega
                · have hne : (p2.toList == (bs rp.node).toList) = false := by
                    have h1 := ported_new (a := a) (s := p2) (n := r.podName) (v := r.podV) (by rw [show r.podV.port = 2 from HPq.out]; exact HE.out.pd.2.1) HLen.out (by rw [show r.podV.port = 2 from HPq.out]; omega) (by rw [HSc.out]; exact he)
                    rw [HSc.out] at h1
                    rw [toList_ky, toList_bs]
                    simpa using h1
                  go_upto_region 34 with (go_at_call 29; refine cPd.mono ?_; rintro e w9 ⟨pd, rfl, hb9'⟩; have hb9 := below_trans hb8 hb9'; have f14 := repC ((hb9.block _ l14).trans H14.out); obtain ⟨y0, y1, y2, y3, y4, y5⟩ := f14; obtain ⟨v0, v1, v2, v3, fv⟩ := portC ((hb9.block _ lpb).trans HP7.out); have lp9 := Nat.lt_of_lt_of_le lpb hb9.size; have l149 := Nat.lt_of_lt_of_le l14 hb9.size)
                  obtain ⟨w10, hw10⟩ : ∃ W, W = w9.alloc (.cells #[.string pd.name, .int .i64 pd.n0, .int .i64 pd.n1, .int .i64 pd.n2, .int .i64 2, .slice pd.labels.a pd.labels.L.length pd.labels.cap, .slice pd.select.a pd.select.L.length pd.select.cap, .slice pd.bears.a pd.bears.L.length pd.bears.cap, .slice pd.near.a pd.near.L.length pd.near.cap, .slice pd.apart.a pd.apart.L.length pd.apart.cap] 33) := ⟨_, rfl⟩
                  rw [← hw10]
                  have hb10 : Below w7.heap.size w7 w10 := by rw [hw10]; exact below_trans hb9 (below_alloc _ _)
                  have g20 : w10.cell? ⟨w9.heap.size, 4, none⟩ = some (.int .i64 2) := by rw [hw10, cell_of_block (block_alloc_new _ _)]; rfl
                  clear y0 y1 y2 y3 y4 y5 v0 v1 v2 v3 fv lp9 l149 hb9' hw10
                  obtain ⟨y0, y1, y2, y3, y4, y5⟩ := repC ((hb10.block _ l14).trans H14.out)
                  obtain ⟨v0, v1, v2, v3, fv⟩ := portC ((hb10.block _ lpb).trans HP7.out)
                  go_quiet (fail)
                  go_wp2
                  go_roundw
                  case rel =>
                    have E9 := HMk.out _ (below_drewN hb10 nq) HPall.out
                    have hP : Ported a' 2 (bs rp.node) := by
                      have h := ported_now (a := a) (n := r.podName) (v := r.podV) (by rw [HSc.out]; exact he)
                      rw [HSc.out] at h
                      have e : r.podV.port = 2 := HPq.out
                      rw [e] at h
                      exact h
                    have hB : ((w10.drewN nq).setCell ⟨pb, 2, none⟩ (.string (bs rp.node))).heap[pb]? = some (.cells #[.string p0, .string p1, .string (bs rp.node), .string p3] 9 (0, 0)) := by
                      rw [block_setCell E9.port]
                      rfl
                    exact ⟨k + 1, pb, p0, p1, (bs rp.node), p3, F4, a', by omega, by go_num, rfl, E9.turn ((Kept.refl (fun b => b = pb) (w10.drewN nq)).setCell (p := ⟨pb, 2, none⟩) (fun _ => rfl) (.string (bs rp.node))) hB ⟨HPall.out.1, hP, HPall.out.2.2⟩⟩
                  case measure => simp [intOf]; omega
                · have hne : (p3.toList == (bs rp.node).toList) = false := by
                    have h1 := ported_new (a := a) (s := p3) (n := r.podName) (v := r.podV) (by rw [show r.podV.port = 3 from HPq.out]; exact HE.out.pd.2.2) HLen.out (by rw [show r.podV.port = 3 from HPq.out]; omega) (by rw [HSc.out]; exact he)
                    rw [HSc.out] at h1
                    rw [toList_ky, toList_bs]
                    simpa using h1
                  go_upto_region 34 with (go_at_call 29; refine cPd.mono ?_; rintro e w9 ⟨pd, rfl, hb9'⟩; have hb9 := below_trans hb8 hb9'; have f14 := repC ((hb9.block _ l14).trans H14.out); obtain ⟨y0, y1, y2, y3, y4, y5⟩ := f14; obtain ⟨v0, v1, v2, v3, fv⟩ := portC ((hb9.block _ lpb).trans HP7.out); have lp9 := Nat.lt_of_lt_of_le lpb hb9.size; have l149 := Nat.lt_of_lt_of_le l14 hb9.size)
                  obtain ⟨w10, hw10⟩ : ∃ W, W = w9.alloc (.cells #[.string pd.name, .int .i64 pd.n0, .int .i64 pd.n1, .int .i64 pd.n2, .int .i64 3, .slice pd.labels.a pd.labels.L.length pd.labels.cap, .slice pd.select.a pd.select.L.length pd.select.cap, .slice pd.bears.a pd.bears.L.length pd.bears.cap, .slice pd.near.a pd.near.L.length pd.near.cap, .slice pd.apart.a pd.apart.L.length pd.apart.cap] 33) := ⟨_, rfl⟩
                  rw [← hw10]
                  have hb10 : Below w7.heap.size w7 w10 := by rw [hw10]; exact below_trans hb9 (below_alloc _ _)
                  have g20 : w10.cell? ⟨w9.heap.size, 4, none⟩ = some (.int .i64 3) := by rw [hw10, cell_of_block (block_alloc_new _ _)]; rfl
                  clear y0 y1 y2 y3 y4 y5 v0 v1 v2 v3 fv lp9 l149 hb9' hw10
                  obtain ⟨y0, y1, y2, y3, y4, y5⟩ := repC ((hb10.block _ l14).trans H14.out)
                  obtain ⟨v0, v1, v2, v3, fv⟩ := portC ((hb10.block _ lpb).trans HP7.out)
                  go_quiet (fail)
                  go_wp2
                  go_roundw
                  case rel =>
                    have E9 := HMk.out _ (below_drewN hb10 nq) HPall.out
                    have hP : Ported a' 3 (bs rp.node) := by
                      have h := ported_now (a := a) (n := r.podName) (v := r.podV) (by rw [HSc.out]; exact he)
                      rw [HSc.out] at h
                      have e : r.podV.port = 3 := HPq.out
                      rw [e] at h
                      exact h
                    have hB : ((w10.drewN nq).setCell ⟨pb, 3, none⟩ (.string (bs rp.node))).heap[pb]? = some (.cells #[.string p0, .string p1, .string p2, .string (bs rp.node)] 9 (0, 0)) := by
                      rw [block_setCell E9.port]
                      rfl
                    exact ⟨k + 1, pb, p0, p1, p2, (bs rp.node), F4, a', by omega, by go_num, rfl, E9.turn ((Kept.refl (fun b => b = pb) (w10.drewN nq)).setCell (p := ⟨pb, 3, none⟩) (fun _ => rfl) (.string (bs rp.node))) hB ⟨HPall.out.1, HPall.out.2.1, hP⟩⟩
                  case measure => simp [intOf]; omega
              · go_wp2_with (go_at_call 29; refine cPd.mono ?_; rintro e w9 ⟨pd, rfl, hb9'⟩; have hb9 := below_trans hb8 hb9'; have f14 := repC ((hb9.block _ l14).trans H14.out); obtain ⟨y0, y1, y2, y3, y4, y5⟩ := f14; obtain ⟨v0, v1, v2, v3, fv⟩ := portC ((hb9.block _ lpb).trans HP7.out); have lp9 := Nat.lt_of_lt_of_le lpb hb9.size; have l149 := Nat.lt_of_lt_of_le l14 hb9.size)
                go_roundw
                case rel => exact ⟨k + 1, pb, p0, p1, p2, p3, F4, a', by omega, by go_num, rfl, HMk.out _ (below_trans hb9 (below_alloc w9 _)) HPall.out⟩
                case measure => simp [intOf]; omega
            · have he' : (rp.err == 0) = false := by simpa using he
              go_wp2_with (go_at_call 29; refine cPd.mono ?_; rintro e w9 ⟨pd, rfl, hb9'⟩; have hb9 := below_trans hb8 hb9'; have f14 := repC ((hb9.block _ l14).trans H14.out); obtain ⟨y0, y1, y2, y3, y4, y5⟩ := f14; obtain ⟨v0, v1, v2, v3, fv⟩ := portC ((hb9.block _ lpb).trans HP7.out); have lp9 := Nat.lt_of_lt_of_le lpb hb9.size; have l149 := Nat.lt_of_lt_of_le l14 hb9.size)
              go_roundw
              case rel => exact ⟨k + 1, pb, p0, p1, p2, p3, F4, a', by omega, by go_num, rfl, HMk.out _ (below_trans hb9 (below_alloc w9 _)) HPall.out⟩
              case measure => simp [intOf]; omega
          · have hk6 : 3 < kk := by
              have h1 : kk ≠ 3 := by simpa using e3
              omega
            clear hpq HPq0
            go_wp2_with (first
              | (go_at_call 29; refine cPd.mono ?_; rintro e w9 ⟨pd, rfl, hb9'⟩; have hb9 := below_trans hb8 hb9'; have f14 := repC ((hb9.block _ l14).trans H14.out); obtain ⟨y0, y1, y2, y3, y4, y5⟩ := f14; have l149 := Nat.lt_of_lt_of_le l14 hb9.size)
              | (at_make; refine wpList_make_row _ rfl _ _ 73 rfl 9 i1 _ 1 Try.underlying73 hi1 hz10 hz11 _ _ _ _ 4 rfl rfl (by rfl) (by rfl) (by rw [hz12]; omega) (by unfold maxLen; omega) ?_; intro wm hm hbm))
            go_roundw
            case rel =>
              have hb10 : Below w7.heap.size w7 wm := below_trans (below_trans hb9 (below_alloc w9 _)) hbm
              have D10 := HD7.out.onward hb10
              rw [made4, World.size_alloc] at hm
              exact ⟨k + 1, w9.heap.size + 1, ⟨#[]⟩, ⟨#[]⟩, ⟨#[]⟩, ⟨#[]⟩, F4, a', by omega, by go_num, rfl, ⟨D10, HR7.out.onward hb10, HN'.out, HEn'.out, hm, ⟨by have := HD7.out.below.size; have := hb9.size; omega, fun h => by have := HD7.out.st.lt _ h; have := hb9.size; omega⟩, Ported.none _ _, Ported.none _ _, Ported.none _ _⟩⟩
            case measure => simp [intOf]; omega
      · clear E
        go_wp2
        go_ret
        exact ⟨rfl, HE.out.D.below⟩

end Go.Proofs.Ytchddaafibjmgaa
