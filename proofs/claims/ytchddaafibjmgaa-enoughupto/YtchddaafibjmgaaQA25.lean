/-
  The program's Queue and Drain, without what is remembered.
  The program's Drain, walked.
  Waits, without memory: what waits is scheduled in its order, as if it had not waited.
  Two Berths beside one another.
-/
import Derived.Test.YtchddaafibjmgaaQA24
import Derived.Test.YtchddaafibjmgaaQPCalls
import Derived.Test.YtchddaafibjmgaaQA20
import Derived.Test.YtchddaafibjmgaaQK8
namespace Go.Proofs.Ytchddaafibjmgaa
open Go.RowKit Go.Maps Go.Conc

theorem Sound.waits {hd : Head} {g : Gh} (S : Sound hd g) (W' : List PodD) : Sound hd { g with WW := W' } := ⟨S.b.of_eq rfl rfl rfl, ⟨S.l.vk, fun k v hv => ⟨(S.l.views k v hv).ptrs, (S.l.views k v hv).used⟩, S.l.ak, S.l.ans⟩⟩

section
variable {F : Nat → Prop} {w : World} {Y : Nat} {a : Abs}

theorem spec_queue (B : BSt F w Y a) (p : PodD) (hok : p.ok w) :
    Calls Try.prog 34 #[.pointer (some ⟨Y, 0, none⟩), .agg p.cells] w fun e w' => ∃ F', e = .returned (.int .i64 (a.queueErr p.name p.val)) ∧ Left F w Y (a.queue p.name p.val) F' w' := by
  have B0 := B
  obtain ⟨hd, g, H, S, rfl⟩ := B
  have hlen : (absOf hd g).W.length = g.WW.length := by show (g.WW.map _).length = _; rw [List.length_map]
  by_cases h0 : p.err = 0
  · refine (queue_try H p hok h0).mono ?_
    have h0' : errP p.name p.val = 0 := h0
    rintro e w' (⟨h1, rfl, hb⟩ | ⟨h1, rfl, q, q0, q1, q2, q3, q4, q5, q6, q7, q8, q9, H', hk⟩)
    · have he : (absOf hd g).queueErr p.name p.val = 6 := by
        unfold Abs.queueErr
        rw [h0', hlen, if_neg (by omega), if_pos h1]
      refine ⟨F, by rw [he], ?_⟩
      unfold Abs.queue
      rw [he, if_neg (by omega)]
      exact Left.of_below B0 hb
    · have he : (absOf hd g).queueErr p.name p.val = 0 := by
        unfold Abs.queueErr
        rw [h0', hlen, if_neg (by omega), if_neg (by omega)]
      refine ⟨_, by rw [he], ⟨⟨hd, _, H', S.waits _, ?_⟩, fun b h => h, hk⟩⟩
      unfold Abs.queue
      rw [if_pos he]
      have hv : q.val = p.val := by
        unfold PodD.val
        rw [q1, q2, q3, q4, q5, q6, q7, q8, q9]
      show Abs.mk _ _ _ _ _ ((g.WW ++ [q]).map _) = Abs.mk _ _ _ _ _ (g.WW.map _ ++ [(p.name, p.val)])
      rw [List.map_append, List.map_cons, List.map_nil, q0, hv]
      rfl
  · have he : (absOf hd g).queueErr p.name p.val = p.err := by
      unfold Abs.queueErr
      rw [← err_val, if_pos h0]
    refine (queue_bad p hok h0).mono ?_
    rintro e w' ⟨rfl, hb⟩
    refine ⟨F, by rw [he], ?_⟩
    unfold Abs.queue
    rw [he, if_neg h0]
    exact Left.of_below B0 hb

theorem own_ok {x : Lst} (h : OwnList F w x.val x.L) : x.ok w := by
  obtain ⟨b, cap, cur, e, _, _, h3⟩ := h
  obtain ⟨a, L, c⟩ := x
  unfold Lst.val at e
  simp only [Value.slice.injEq, true_and] at e
  obtain ⟨rfl, rfl⟩ := e
  exact h3

/-- One that waits is taken out. -/
theorem BSt.take (B : BSt F w Y a) {x : ByteArray × PodV} {R : List (ByteArray × PodV)} (hW : a.W = x :: R) :
    ∃ (c s r : Nat) (p : PodD) (buf : Array Value), w.cell? ⟨Y, 9, none⟩ = some (.chan (some c)) ∧ w.heap[c]? = some (.chan 128 buf false s r false) ∧ 0 < buf.size ∧ buf.getD 0 undef = .agg p.cells ∧ x = (p.name, p.val) ∧ p.ok (w.setChan c 128 (buf.extract 1 buf.size) false s (r + 1) false) ∧
      Left F w Y { a with W := R } F (w.setChan c 128 (buf.extract 1 buf.size) false s (r + 1) false) := by
  obtain ⟨hd, g, H, S, rfl⟩ := B
  obtain ⟨s, r, ob⟩ := H.ch.ob
  have hW' : g.WW.map (fun p => (p.name, p.val)) = x :: R := hW
  cases hg : g.WW with
  | nil => rw [hg] at hW'; cases hW'
  | cons p t =>
    rw [hg] at hW' ob
    simp only [List.map_cons, List.cons.injEq] at hW'
    have hx : ((List.map (fun p : PodD => Value.agg p.cells) (p :: t)).toArray.extract 1 (List.map (fun p : PodD => Value.agg p.cells) (p :: t)).toArray.size) = (t.map fun p => Value.agg p.cells).toArray := by
      simp
      exact List.take_of_length_le (by simp)
    have K : Kept (fun b => b = g.bc) w (w.setChan g.bc 128 (t.map fun p => Value.agg p.cells).toArray false s (r + 1) false) := (Kept.refl (fun b => b = g.bc) w).setChan (fun _ => rfl) _ _ _ _ _ _
    have off : Off 51 (fun b => b = g.bc) w := Off.chan _ ob
    have hps := H.ch.ps
    rw [hg] at hps
    have hc : ChanAt F (w.setChan g.bc 128 (t.map fun p => Value.agg p.cells).toArray false s (r + 1) false) g.bc t := by
      refine ⟨H.ch.fb, ⟨s, r + 1, heap_setChan w g.bc 128 _ false s (r + 1) false (lt_of_block ob)⟩, ?_, fun q hq => ?_⟩
      · have := H.ch.le
        rw [hg, List.length_cons] at this
        omega
      · obtain ⟨h1, h2, h3⟩ := hps q (List.mem_cons_of_mem _ hq)
        exact ⟨h1, h2, fun y hy => (h3 y hy).kept K off fun _ h => h⟩
    refine ⟨g.bc, s, r, p, _, H.cC, ob, by simp, by simp, hW'.1.symm, ?_, ?_⟩
    · rw [hx]
      obtain ⟨h1, h2, h3⟩ := hps p List.mem_cons_self
      exact ⟨h2, fun y hy => own_ok ((h3 y hy).kept K off fun _ h => h)⟩
    · rw [hx]
      refine ⟨⟨hd, _, H.chan K (fun _ h => h) (fun b h => Nat.lt_of_lt_of_le (H.lt b h) K.size) hc, S.waits _, ?_⟩, grow_self, K.mono fun i _ e => by rw [e]; exact H.ch.fb⟩
      show Abs.mk _ _ _ _ _ (t.map _) = Abs.mk _ _ _ _ _ R
      rw [hW'.2]
      rfl

/-- Nobody waits. -/
theorem BSt.idle (B : BSt F w Y a) (hW : a.W = []) : ∃ (c s r : Nat), w.cell? ⟨Y, 9, none⟩ = some (.chan (some c)) ∧ w.heap[c]? = some (.chan 128 #[] false s r false) := by
  obtain ⟨hd, g, H, S, rfl⟩ := B
  obtain ⟨s, r, ob⟩ := H.ch.ob
  have hW' : g.WW.map (fun p => (p.name, p.val)) = [] := hW
  have : g.WW = [] := by simpa using hW'
  rw [this] at ob
  exact ⟨g.bc, s, r, H.cC, ob⟩

theorem BSt.waiting (B : BSt F w Y a) : ∃ (c : Nat), w.cell? ⟨Y, 9, none⟩ = some (.chan (some c)) ∧ ∀ ty, (Builtin.len_ #[111] ty #[.chan (some c)]).run Try.prog w = .ok (.int .i64 a.W.length) w := by
  obtain ⟨hd, g, H, S, rfl⟩ := B
  obtain ⟨s, r, ob⟩ := H.ch.ob
  refine ⟨g.bc, H.cC, fun ty => ?_⟩
  have := Go.Conc.run_len_chan (P := Try.prog) 111 ty Try.underlying111 ob
  show _ = Result.ok (Value.int .i64 (g.WW.map _).length) w
  simpa [goInt] using this

end

/-! ### Drain, without memory -/
theorem sched_W (a : Abs) (s : ByteArray) (v : PodV) : (a.sched s v).2.W = a.W := by
  unfold Abs.sched
  split
  · rfl
  · dsimp only
    split <;> rfl

theorem drain_nil {a : Abs} (h : a.W = []) : ∀ n, a.drain n = ([], a)
  | 0 => rfl
  | n + 1 => by rw [Abs.drain, h]

theorem drain_cons {a : Abs} {x : ByteArray × PodV} {R : List (ByteArray × PodV)} (h : a.W = x :: R) (n : Nat) : a.drain (n + 1) = ((({ a with W := R } : Abs).sched x.1 x.2).1 :: ((({ a with W := R } : Abs).sched x.1 x.2).2.drain n).1, ((({ a with W := R } : Abs).sched x.1 x.2).2.drain n).2) := by
  rw [Abs.drain, h]

theorem drain_succ : ∀ (k : Nat) (a : Abs) {x : ByteArray × PodV} {R : List (ByteArray × PodV)}, (a.drain k).1.length = k → (a.drain k).2.W = x :: R →
    a.drain (k + 1) = ((a.drain k).1 ++ [(({ (a.drain k).2 with W := R } : Abs).sched x.1 x.2).1], (({ (a.drain k).2 with W := R } : Abs).sched x.1 x.2).2)
  | 0, a, x, R, _, h => by
    rw [drain_cons (a := a) h]
    rfl
  | k + 1, a, x, R, hl, h => by
    cases hW : a.W with
    | nil =>
      rw [drain_nil hW] at hl
      cases hl
    | cons y T =>
      rw [drain_cons hW] at hl h
      rw [drain_cons hW (k + 1), drain_cons hW k]
      have ih := drain_succ k (({ a with W := T } : Abs).sched y.1 y.2).2 (x := x) (R := R) (by simpa using hl) h
      rw [ih]
      rfl

theorem drain_stop : ∀ (k m : Nat) (a : Abs), (a.drain k).2.W = [] → k ≤ m → a.drain m = a.drain k
  | 0, m, a, h, _ => drain_nil h m
  | k + 1, m, a, h, hm => by
    obtain ⟨m, rfl⟩ : ∃ j, m = j + 1 := ⟨m - 1, by omega⟩
    cases hW : a.W with
    | nil => rw [drain_nil hW, drain_nil hW]
    | cons y T =>
      rw [drain_cons hW] at h
      rw [drain_cons hW, drain_cons hW, drain_stop k m _ h (by omega)]

end Go.Proofs.Ytchddaafibjmgaa

namespace Go.Proofs.Ytchddaafibjmgaa
open Go.RowKit Go.Maps Go.Conc

theorem infoRT : (Try.prog.info? 59).map (fun i => (i.zero, i.size, i.bytes)) = some (some (.agg #[.int .i64 0, .string ⟨#[]⟩, .int .i64 0, .slice none 0 0, .int .i64 0]), 5, 64) := by kernel_rfl

def repRowL (x : Rep × Option Addr × Nat) : List Value := [.int .i64 x.1.err, .string (bs x.1.node), .int .i64 x.1.score, .slice x.2.1 x.1.reasons.length x.2.2, .int .i64 x.1.fresh]

/-- Replies in new memory. -/
structure RepsAt (F : Nat → Prop) (w w' : World) (l : List (Rep × Option Addr × Nat)) (v : Value) : Prop where
  row : w'.ownsRow 0 59 5 v l.length (l.flatMap repRowL)
  new : ∀ b, v.ownBlock = some b → w.heap.size ≤ b ∧ ¬ F b
  rsn : ∀ x ∈ l, w'.ownsRow 0 103 2 (.slice x.2.1 x.1.reasons.length x.2.2) x.1.reasons.length (x.1.reasons.flatMap rsnRow)
  rnew : ∀ x ∈ l, ∀ b, (Value.slice x.2.1 x.1.reasons.length x.2.2).ownBlock = some b → w.heap.size ≤ b ∧ ¬ F b

/-- What is turned beside them. -/
theorem RepsAt.kept {F F' G : Nat → Prop} {w w1 w2 : World} {l : List (Rep × Option Addr × Nat)} {v : Value} (R : RepsAt F w w1 l v) (hk : Kept G w1 w2) (hG : ∀ b, G b → b < w1.heap.size → F b ∨ b < w.heap.size) (hF : ∀ b, F' b → F b ∨ w1.heap.size ≤ b) : RepsAt F' w w2 l v := by
  have hr : ∀ {e : TypeId} {s n : Nat} {u : Value} {xs : List Value}, w1.ownsRow 0 e s u n xs → (∀ b, u.ownBlock = some b → w.heap.size ≤ b ∧ ¬ F b) → w2.ownsRow 0 e s u n xs ∧ ∀ b, u.ownBlock = some b → w.heap.size ≤ b ∧ ¬ F' b := by
    intro e s n u xs h hn
    refine ⟨hk.ownsRow h fun b hb g => ?_, fun b hb => ⟨(hn b hb).1, fun hf => ?_⟩⟩
    · have := hn b hb
      rcases hG b g (h.lt b hb).2 with h | h
      · exact this.2 h
      · omega
    · rcases hF b hf with h' | h'
      · exact (hn b hb).2 h'
      · have := (h.lt b hb).2
        omega
  exact ⟨(hr R.row R.new).1, (hr R.row R.new).2, fun x hx => (hr (R.rsn x hx) (R.rnew x hx)).1, fun x hx => (hr (R.rsn x hx) (R.rnew x hx)).2⟩

theorem RepsAt.left {F F' : Nat → Prop} {w w1 w2 : World} {Y : Nat} {a : Abs} {l : List (Rep × Option Addr × Nat)} {v : Value} (R : RepsAt F w w1 l v) (L : Left F w1 Y a F' w2) : RepsAt F' w w2 l v :=
  R.kept L.kept (fun _ h _ => .inl h) fun b h => (L.less b h).imp id fun h => h.1

theorem Left.beside {F F' G : Nat → Prop} {w w1 w2 : World} {Y : Nat} {a : Abs} (L : Left F w Y a F' w1) (hk : Kept G w1 w2) (hG : ∀ b, G b → w.heap.size ≤ b ∧ ¬ F' b) : Left F w Y a F' w2 :=
  ⟨L.st.kept hk fun b hb g => (hG b g).2 hb, fun b hb => (L.less b hb).imp id fun h => ⟨h.1, Nat.lt_of_lt_of_le h.2 hk.size⟩, L.kept.trans hk fun i hi g => by have := (hG i g).1; omega⟩

theorem five_at (w : World) (a b c d e : Value) (t : TypeId) : ∀ (j : Nat) u, [a, b, c, d, e][j]? = some u → (w.alloc (.cells #[a, b, c, d, e] t)).cell? ((⟨w.heap.size, 0, none⟩ : Addr).add j) = some u := by
  intro j u hu
  have ha : (⟨w.heap.size, 0, none⟩ : Addr).add j = ⟨w.heap.size, j, none⟩ := by
    unfold Addr.add
    split
    · rename_i h; rw [h]
    · simp
  rw [ha, cell_of_block (block_alloc_new w _), ← hu]
  simp

/-- One more reply. -/
theorem RepsAt.add {F : Nat → Prop} {w w1 w2 : World} {l : List (Rep × Option Addr × Nat)} {v v' : Value} (R : RepsAt F w w1 l v) (hs : w.heap.size ≤ w1.heap.size) (hlt : ∀ b, F b → b < w1.heap.size) {x : Rep × Option Addr × Nat} (hr : w1.ownsRow 0 103 2 (.slice x.2.1 x.1.reasons.length x.2.2) x.1.reasons.length (x.1.reasons.flatMap rsnRow)) (hn : ∀ b, (Value.slice x.2.1 x.1.reasons.length x.2.2).ownBlock = some b → w.heap.size ≤ b ∧ ¬ F b)
    (r : w2.ownsRow 0 59 5 v' (l.length + 1) (l.flatMap repRowL ++ repRowL x)) (g : w1.grownBy w2 v.ownBlock) (f : v'.ownBlock = v.ownBlock ∨ ∀ k, v'.ownBlock = some k → w1.heap.size ≤ k) : RepsAt F w w2 (l ++ [x]) v' ∧ Kept (fun b => v.ownBlock = some b) w1 w2 := by
  have K : Kept (fun b => v.ownBlock = some b) w1 w2 := (Kept.refl _ _).grown g fun k hk _ => hk
  have ap : ∀ {u : Value} {n : Nat} {xs : List Value}, w1.ownsRow 0 103 2 u n xs → w2.ownsRow 0 103 2 u n xs := fun h => K.ownsRow h fun b hb e => rows_apart h R.row (by decide) hb e
  refine ⟨⟨?_, fun b h => ?_, fun y hy => ?_, fun y hy => ?_⟩, K⟩
  · rw [List.length_append, List.length_singleton, List.flatMap_append]
    simpa using r
  · rcases f with f | f
    · exact R.new b (by rw [← f]; exact h)
    · have := f b h
      exact ⟨by omega, fun hf => by have := hlt b hf; omega⟩
  · rcases List.mem_append.1 hy with hy | hy
    · exact ap (R.rsn y hy)
    · rw [List.mem_singleton] at hy
      subst hy
      exact ap hr
  · rcases List.mem_append.1 hy with hy | hy
    · exact R.rnew y hy
    · rw [List.mem_singleton] at hy
      subst hy
      exact hn

def lenV : Value → Nat
  | .slice _ n _ => n
  | _ => 0

section
variable {F : Nat → Prop} {w : World} {Y : Nat} {a : Abs}

set_option maxRecDepth 100000 in
set_option maxHeartbeats 4000000 in
theorem spec_drain (B : BSt F w Y a) (n : Int) (hn : -9223372036854775808 ≤ n ∧ n ≤ 9223372036854775807) :
    Calls Try.prog 35 #[.pointer (some ⟨Y, 0, none⟩), .int .i64 n] w fun e w' => ∃ F' l oo oc, e = .returned (.slice oo l.length oc) ∧ l.map (·.1) = (a.drain n.toNat).1 ∧ Left F w Y (a.drain n.toNat).2 F' w' ∧ RepsAt F' w w' l (.slice oo l.length oc) := by
  obtain ⟨i0, hi, hz0, hz1, hz2⟩ := info_parts infoRT
  obtain ⟨c, hc9, hlen⟩ := B.waiting
  have hw128 := B.fine.nw
  have HB : Hid (BSt F w Y a) := B
  have hY := B.lt Y B.fy
  clear B
  go_enter Try.func35, Try.ntmps35
  obtain ⟨c0, hc0, hc1⟩ : ∃ c0 : Nat, max 0 (min n (a.W.length : Int)) = (c0 : Int) ∧ c0 ≤ 128 := ⟨(max 0 (min n (a.W.length : Int))).toNat, by omega, by omega⟩
  go_upto_region 2 with (at_make; refine wpList_make_own _ rfl _ _ 86 rfl 0 59 i0 _ 5 Try.underlying86 hi hz0 hz1 _ _ _ c0 rfl rfl rfl (by rw [hz2]; omega) (by unfold maxLen; omega) (Nat.zero_le _) ?_; intro w2 hr2 hg2)
  have hb2 : Below w.heap.size w w2 := ⟨hg2.os, hg2.tape, hg2.output, hg2.size, fun k hk => hg2.block k hk (by simp)⟩
  have HR : Hid (RepsAt F w w2 [] (.slice (some ⟨w.heap.size, 0, none⟩) 0 c0)) := ⟨hr2, fun b h => by simp [Value.ownBlock] at h; subst h; exact ⟨Nat.le_refl _, fun hf => by have := HB.out.lt _ hf; omega⟩, fun x hx => by simp at hx, fun x hx => by simp at hx⟩
  have HL : Hid (Left F w Y a F w2) := Left.of_below HB.out hb2
  clear hr2 hg2 hb2 hlen hc9 hc0
  go_loopw [5] (fun v wr => ∃ (k : Nat) (l : List (Rep × Option Addr × Nat)) (oo : Option Addr) (oc : Nat) (F' : Nat → Prop), v = .slice oo k oc ∧ l.length = k ∧ l.map (·.1) = (a.drain k).1 ∧ k ≤ n.toNat ∧ (a.drain k).2.W.length + k = a.W.length ∧ Left F w Y (a.drain k).2 F' wr ∧ RepsAt F' w wr l (.slice oo k oc)) (fun v _ => n.toNat - lenV v)
  case atStart => exact ⟨0, [], _, _, F, rfl, rfl, rfl, Nat.zero_le _, rfl, HL.out, HR.out⟩
  case round =>
    clear HR HL
    obtain ⟨k, l, oo, oc, F', rfl, hlk, hld, hkn, hWk, hL, hR⟩ := hrel
    have HL : Hid (Left F w Y (a.drain k).2 F' wr) := hL
    have HRp : Hid (RepsAt F' w wr l (.slice oo k oc)) := hR
    have HD : Hid (l.length = k ∧ l.map (·.1) = (a.drain k).1 ∧ k ≤ n.toNat ∧ (a.drain k).2.W.length + k = a.W.length) := ⟨hlk, hld, hkn, hWk⟩
    have hk128 : k ≤ 128 := by omega
    have hYr := hL.st.lt Y hL.st.fy
    clear hlk hld hWk hR
    by_cases hlt : (k : Int) < n
    · cases hW : (a.drain k).2.W with
      | nil =>
        obtain ⟨c, s, r, hc9, ob⟩ := hL.st.idle hW
        have HW : Hid _ := hW
        clear hW hL
        go_upto_region 4 with fail
        refine wp_sel_none (c := c) (z := .agg #[.string ⟨#[]⟩, .int .i64 0, .int .i64 0, .int .i64 0, .int .i64 0, .slice none 0 0, .slice none 0 0, .slice none 0 0, .slice none 0 0, .slice none 0 0]) rfl rfl ?_ ob ?_
        · simp [go_sem, execOp, rcase, Act.eval]
        · go_wp2
          go_ret
          obtain ⟨h1, h2, h3, h4⟩ := HD.out
          subst h1
          have := drain_stop _ n.toNat a HW.out h3
          rw [this]
          exact ⟨F', l, oo, oc, rfl, h2, HL.out, HRp.out⟩
      | cons x R =>
        obtain ⟨c, s, r, p, buf, hc9, ob, hsz, hgd, hx, hok, hT⟩ := hL.st.take hW
        have HW : Hid _ := hW
        have HX : Hid _ := hx
        unfold PodD.cells Lst.val at hgd
        obtain ⟨W1, hW1⟩ : ∃ W, W = wr.setChan c 128 (buf.extract 1 buf.size) false s (r + 1) false := ⟨_, rfl⟩
        rw [← hW1] at hok hT
        have cS := fun W (hb : Below W1.heap.size W1 W) => spec_sched (hT.st.below hb) p (hok.below hb)
        obtain ⟨rp, an, hra⟩ : ∃ rp an, ({ (a.drain k).2 with W := R } : Abs).sched p.name p.val = (rp, an) := ⟨_, _, rfl⟩
        rw [hra] at cS
        have HRA : Hid _ := hra
        clear hra
        dsimp only at cS
        unfold PodD.cells Lst.val repV at cS
        have HT : Hid _ := hT
        clear hW hL hx
        go_upto_region 4 with fail
        refine wp_sel_recv (c := c) (z := .agg #[.string ⟨#[]⟩, .int .i64 0, .int .i64 0, .int .i64 0, .int .i64 0, .slice none 0 0, .slice none 0 0, .slice none 0 0, .slice none 0 0, .slice none 0 0]) rfl rfl ?_ ob hsz ?_
        · simp [go_sem, execOp, rcase, Act.eval]
        · rw [hgd, ← hW1]
          have sY1 : Y < W1.heap.size := hT.st.lt Y hT.st.fy
          clear hW1 hgd hT ob hsz hc9
          go_wp2_with (first
            | (go_at_call 33; refine (cS _ (below_alloc W1 _)).mono ?_; rintro e w4 ⟨F4, ro, rc, rfl, L4, R4⟩; have RP : RepsAt F4 w w4 l (.slice oo k oc) := ((HRp.out.left HT.out).kept (Kept.of_below (F := noBlock) (below_alloc W1 _)) (fun _ h _ => h.elim) (fun _ h => .inl h)).left L4; have HRP : Hid (RepsAt F4 w (w4.alloc (.cells #[.int .i64 rp.err, .string (bs rp.node), .int .i64 rp.score, .slice ro rp.reasons.length rc, .int .i64 rp.fresh] 59)) l (.slice oo k oc)) := RP.kept (Kept.of_below (F := noBlock) (below_alloc w4 _)) (fun _ h _ => h.elim) (fun _ h => .inl h); have HROW : Hid ((w4.alloc (.cells #[.int .i64 rp.err, .string (bs rp.node), .int .i64 rp.score, .slice ro rp.reasons.length rc, .int .i64 rp.fresh] 59)).ownsRow 0 59 5 (.slice oo k oc) k (l.flatMap repRowL)) := (by have := HRP.out.row; rw [HD.out.1] at this; exact this); have HL4 : Hid _ := L4; have HR4 : Hid _ := R4; clear L4 R4 RP)
            | (at_builtin; refine wpList_append_row _ rfl (.tmp 29) (.tmp 33) 86 rfl 59 i0 _ 5 64 Try.underlying86 hi hz0 hz1 hz2 rfl (by decide) (.slice oo k oc) k _ rfl HROW.out ⟨w4.heap.size, 0, none⟩ 1 1 [.int .i64 rp.err, .string (bs rp.node), .int .i64 rp.score, .slice ro rp.reasons.length rc, .int .i64 rp.fresh] rfl rfl (five_at w4 _ _ _ _ _ _) (fun u hu => by simp at hu; rcases hu with rfl | rfl | rfl | rfl | rfl <;> rfl) (by unfold maxLen; omega) (by omega) ?_; intro ao5 cap5 w5 r5 g5 f5))
          obtain ⟨h1, h2, h3, h4⟩ := HD.out
          have L5 : Left F w Y an F4 (w4.alloc (.cells #[.int .i64 rp.err, .string (bs rp.node), .int .i64 rp.score, .slice ro rp.reasons.length rc, .int .i64 rp.fresh] 59)) := (((HL.out.then HT.out).then (HL4.out.before (below_alloc W1 _))).behind (below_alloc w4 _))
          have hs0 : w.heap.size ≤ W1.heap.size := Nat.le_trans HL.out.kept.size HT.out.kept.size
          have hs4 : W1.heap.size ≤ w4.heap.size := Nat.le_trans (Nat.le_trans (Nat.le_succ _) (by simp)) HL4.out.kept.size
          have hdl : (a.drain k).1.length = k := by rw [← h2, List.length_map]; exact h1
          have hDS := drain_succ k a hdl HW.out
          rw [HX.out] at hDS
          dsimp only at hDS
          rw [HRA.out] at hDS
          obtain ⟨RP, K5⟩ := HRP.out.add (x := (rp, ro, rc)) (v' := .slice ao5 (k + 1) cap5) (by simp; omega) (fun b hb => by have := HL4.out.st.lt b hb; simp; omega) ((Kept.of_below (F := noBlock) (below_alloc w4 _)).ownsRow HR4.out.rsn fun _ _ => id) (fun b hb => by have := HR4.out.rnew b hb; simp at this; exact ⟨by omega, this.2⟩) (by rw [h1]; exact r5) g5 f5
          refine ⟨⟨k + 1, l ++ [(rp, ro, rc)], ao5, cap5, F4, rfl, by rw [List.length_append, h1]; rfl, ?_, by omega, ?_, ?_, RP⟩, ?_⟩
          · rw [hDS, List.map_append, h2]
            rfl
          · rw [hDS]
            have hWa : an.W = R := by
              have := sched_W ({ (a.drain k).2 with W := R } : Abs) p.name p.val
              rw [HRA.out] at this
              exact this
            rw [HW.out, List.length_cons] at h4
            show an.W.length + _ = _
            rw [hWa]
            omega
          · rw [hDS]
            exact L5.beside K5 fun b hb => HRP.out.new b hb
          · show n.toNat - (k + 1) < n.toNat - k
            omega
    · have hkn' : k = n.toNat := by omega
      clear hL
      go_wp2
      go_ret
      obtain ⟨h1, h2, h3, h4⟩ := HD.out
      subst h1
      rw [← hkn']
      exact ⟨F', l, oo, oc, rfl, h2, HL.out, HRp.out⟩

end

end Go.Proofs.Ytchddaafibjmgaa

namespace Go.Proofs.Ytchddaafibjmgaa
open Go.RowKit Go.Maps

/-! ### raw pods are pods, raw nodes are nodes -/
theorem mod_cases {n : Int} {m : Nat} (hm : 0 < m) : ∃ k, k < m ∧ n % (m : Int) = (k : Int) := by
  have h1 := Int.emod_nonneg n (b := (m : Int)) (by omega)
  have h2 := Int.emod_lt_of_pos n (b := (m : Int)) (by omega)
  exact ⟨(n % (m : Int)).toNat, by omega, by omega⟩

theorem good_name (s : ByteArray) (h : ∀ k : Nat, k < 26 → nameB (nameS s (k : Int)) = true) (n : Int) : nameB (nameS s n) = true := by
  obtain ⟨k, hk, e⟩ := mod_cases (n := n) (m := 26) (by omega)
  have : nameS s n = nameS s (k : Int) := by
    unfold nameS byt
    rw [show (n % 26 : Int) = (k : Int) from e, show ((k : Int) % 26 : Int) = (k : Int) from by omega]
  rw [this]
  exact h k hk

theorem name_p (n : Int) : nameB (nameS ⟨#[112]⟩ n) = true := good_name _ (by decide +kernel) n
theorem name_n (n : Int) : nameB (nameS ⟨#[110]⟩ n) = true := good_name _ (by decide +kernel) n

theorem listB_one (x y : ByteArray) (hx : nameB x = true) (hy : nameB y = true) : listB [(x, y)] = true := by
  unfold listB listTo
  simp [itemB, labAt, hx, hy, keyIn, List.range_succ]

theorem listB_two (x y x' y' : ByteArray) (hx : nameB x = true) (hy : nameB y = true) (hx' : nameB x' = true) (hy' : nameB y' = true) (hne : (x.toList == x'.toList) = false) : listB [(x, y), (x', y')] = true := by
  unfold listB listTo
  simp [itemB, labAt, hx, hy, hx', hy', keyIn, List.range_succ]
  simpa using hne

theorem listB_nil : listB [] = true := by decide

theorem list_labs (n : Int) : listB (labsI n) = true := by
  unfold labsI
  by_cases h1 : n % 2 = 1 <;> by_cases h2 : n / 4 % 2 = 1
  · rw [if_pos h1, if_pos h2]
    exact listB_two _ _ _ _ (by decide +kernel) (good_name _ (by decide +kernel) _) (by decide +kernel) (good_name _ (by decide +kernel) _) (by decide +kernel)
  · rw [if_pos h1, if_neg h2]
    exact listB_one _ _ (by decide +kernel) (good_name _ (by decide +kernel) _)
  · rw [if_neg h1, if_pos h2]
    exact listB_one _ _ (by decide +kernel) (good_name _ (by decide +kernel) _)
  · rw [if_neg h1, if_neg h2]
    exact listB_nil

theorem amtB_of {n : Int} (h0 : 0 ≤ n) (h1 : n ≤ 1000) : amtB n = true := by
  unfold amtB
  rw [decide_eq_true h0, decide_eq_true (by omega)]
  rfl

theorem good_pod (r : RawD) : goodP r.podName r.podV = true := by
  have hN := pickI_bound r.needs (n := 1099511627776) (by omega)
  have hF := pickI_bound r.flags (n := 1073741824) (by omega)
  have hl : r.podV.lists.all (fun L => listB L) = true := by
    show [labsI (r.K % 16), r.podSelect, r.podBears, r.podNear, r.podApart].all (fun L => listB L) = true
    simp only [List.all_cons, List.all_nil, Bool.and_true, Bool.and_eq_true]
    refine ⟨list_labs _, ?_, ?_, ?_, ?_⟩
    · unfold RawD.podSelect
      split
      · exact listB_one _ _ (by decide +kernel) (good_name _ (by decide +kernel) _)
      · exact listB_nil
    · unfold RawD.podBears
      split
      · decide +kernel
      · exact listB_nil
    · unfold RawD.podNear
      split
      · exact list_labs _
      · exact listB_nil
    · unfold RawD.podApart
      split
      · exact list_labs _
      · exact listB_nil
  have hp : 0 ≤ r.podPort ∧ r.podPort ≤ 3 := by
    unfold RawD.podPort RawD.F
    split <;> omega
  unfold goodP
  rw [hl, show nameB r.podName = true from name_p _]
  have ha : amtsB r.podV.n0 r.podV.n1 r.podV.n2 = true := by
    show amtsB (r.N % 9) (r.N / 9 % 9) (r.N / 81 % 9 / 7) = true
    unfold amtsB RawD.N
    rw [amtB_of (by omega) (by omega), amtB_of (by omega) (by omega), amtB_of (by omega) (by omega)]
    rfl
  rw [ha, decide_eq_true (show 0 ≤ r.podV.port from hp.1), decide_eq_true (show r.podV.port ≤ 65535 from by have := hp.2; show r.podPort ≤ 65535; omega)]
  rfl

theorem good_node (r : RawD) : goodN r.nodeName r.nodeV = true := by
  have hN := pickI_bound r.needs (n := 1099511627776) (by omega)
  unfold goodN
  rw [show nameB r.nodeName = true from name_n _]
  have ha : amtsB r.nodeV.r0 r.nodeV.r1 r.nodeV.r2 = true := by
    show amtsB (r.N % 20) (r.N / 20 % 30) (r.N / 600 % 3) = true
    unfold amtsB RawD.N
    rw [amtB_of (by omega) (by omega), amtB_of (by omega) (by omega), amtB_of (by omega) (by omega)]
    rfl
  rw [ha]
  show [r.nodeLabels, r.nodeTaints].all (fun L => listB L) = true
  simp only [List.all_cons, List.all_nil, Bool.and_true, Bool.and_eq_true]
  refine ⟨?_, ?_⟩
  · unfold RawD.nodeLabels
    by_cases h1 : 0 < r.F % 3 <;> by_cases h2 : r.F / 3 % 3 = 0
    · rw [if_pos h1, if_pos h2]
      exact listB_two _ _ _ _ (by decide +kernel) (good_name _ (by decide +kernel) _) (by decide +kernel) (good_name _ (by decide +kernel) _) (by decide +kernel)
    · rw [if_pos h1, if_neg h2]
      exact listB_one _ _ (by decide +kernel) (good_name _ (by decide +kernel) _)
    · rw [if_neg h1, if_pos h2]
      exact listB_one _ _ (by decide +kernel) (good_name _ (by decide +kernel) _)
    · rw [if_neg h1, if_neg h2]
      exact listB_nil
  · unfold RawD.nodeTaints
    split
    · decide +kernel
    · exact listB_nil

/-! ### what waits -/
def RawD.wait (r : RawD) : ByteArray × PodV := (r.podName, r.podV)

theorem queueErr_raw (a : Abs) (r : RawD) (h : a.W.length < 128) : a.queueErr r.podName r.podV = 0 := by
  unfold Abs.queueErr errP
  rw [good_pod]
  simp
  omega

theorem queue_raw (a : Abs) (L : List RawD) (r : RawD) (h : L.length < 128) : ({ a with W := L.map RawD.wait } : Abs).queue r.podName r.podV = { a with W := (L ++ [r]).map RawD.wait } := by
  unfold Abs.queue
  rw [if_pos (queueErr_raw _ r (by simpa using h)), List.map_append]
  rfl

theorem sched_wait (a : Abs) (R : List (ByteArray × PodV)) (s : ByteArray) (v : PodV) : ({ a with W := R } : Abs).sched s v = ((a.sched s v).1, { (a.sched s v).2 with W := R }) := by
  unfold Abs.sched
  have e : ({ a with W := R } : Abs).schedErr s v = a.schedErr s v := rfl
  rw [e]
  split
  · rfl
  · dsimp only
    split <;> rfl

/-- Pods scheduled one behind the other. -/
def runS (b : Abs) : List RawD → List Rep × Abs
  | [] => ([], b)
  | r :: t => ((b.sched r.podName r.podV).1 :: (runS (b.sched r.podName r.podV).2 t).1, (runS (b.sched r.podName r.podV).2 t).2)

theorem runS_length : ∀ (L : List RawD) (b : Abs), (runS b L).1.length = L.length
  | [], _ => rfl
  | r :: t, b => by
    show (runS (b.sched r.podName r.podV).2 t).1.length + 1 = t.length + 1
    rw [runS_length t]

theorem runS_append : ∀ (L M : List RawD) (b : Abs), runS b (L ++ M) = ((runS b L).1 ++ (runS (runS b L).2 M).1, (runS (runS b L).2 M).2)
  | [], M, b => rfl
  | r :: t, M, b => by
    show ((b.sched r.podName r.podV).1 :: (runS (b.sched r.podName r.podV).2 (t ++ M)).1, (runS (b.sched r.podName r.podV).2 (t ++ M)).2) = _
    rw [runS_append t M]
    rfl

theorem runS_succ (b : Abs) (L : List RawD) {k : Nat} (h : k < L.length) : (runS b (L.take (k + 1))).2 = ((runS b (L.take k)).2.sched L[k].podName L[k].podV).2 := by
  rw [List.take_succ_eq_append_getElem h, runS_append]
  rfl

theorem runS_get (b : Abs) (L : List RawD) {k : Nat} (h : k < L.length) : (runS b L).1[k]? = some ((runS b (L.take k)).2.sched L[k].podName L[k].podV).1 := by
  conv => lhs; rw [← List.take_append_drop k L, List.drop_eq_getElem_cons h, runS_append]
  rw [List.getElem?_append_right (by rw [runS_length, List.length_take]; omega), runS_length, List.length_take, Nat.min_eq_left (by omega), Nat.sub_self]
  rfl

theorem drain_run : ∀ (k : Nat) (b : Abs) (L : List RawD), ({ b with W := L.map RawD.wait } : Abs).drain k = ((runS b (L.take k)).1, { (runS b (L.take k)).2 with W := (L.drop k).map RawD.wait })
  | 0, b, L => rfl
  | k + 1, b, [] => rfl
  | k + 1, b, r :: t => by
    have ih := drain_run k (b.sched r.podName r.podV).2 t
    have e : ({ ({ b with W := (r :: t).map RawD.wait } : Abs) with W := t.map RawD.wait } : Abs).sched r.podName r.podV = ((b.sched r.podName r.podV).1, { (b.sched r.podName r.podV).2 with W := t.map RawD.wait }) := sched_wait b _ _ _
    show ((({ ({ b with W := (r :: t).map RawD.wait } : Abs) with W := t.map RawD.wait } : Abs).sched r.podName r.podV).1 :: ((({ ({ b with W := (r :: t).map RawD.wait } : Abs) with W := t.map RawD.wait } : Abs).sched r.podName r.podV).2.drain k).1, ((({ ({ b with W := (r :: t).map RawD.wait } : Abs) with W := t.map RawD.wait } : Abs).sched r.podName r.podV).2.drain k).2) = _
    rw [e]
    dsimp only
    rw [ih]
    rfl

end Go.Proofs.Ytchddaafibjmgaa

namespace Go.Proofs.Ytchddaafibjmgaa
open Go.RowKit Go.Maps

/-- Two Berths, laid since w. -/
structure Duo (w wr : World) (Ya Yb : Nat) (Fa Fb : Nat → Prop) (a b : Abs) : Prop where
  A : BSt Fa wr Ya a
  B : BSt Fb wr Yb b
  ap : ∀ x, Fa x → ¬ Fb x
  la : ∀ x, Fa x → w.heap.size ≤ x
  lb : ∀ x, Fb x → w.heap.size ≤ x
  below : Below w.heap.size w wr

section
variable {w wr w' : World} {Ya Yb : Nat} {Fa Fb F' : Nat → Prop} {a b a' : Abs}

theorem Duo.onward (D : Duo w wr Ya Yb Fa Fb a b) (hb : Below wr.heap.size wr w') : Duo w w' Ya Yb Fa Fb a b := ⟨D.A.below hb, D.B.below hb, D.ap, D.la, D.lb, D.below.trans (hb.mono D.below.size)⟩

theorem Duo.stepA (D : Duo w wr Ya Yb Fa Fb a b) (L : Left Fa wr Ya a' F' w') : Duo w w' Ya Yb F' Fb a' b := by
  refine ⟨L.st, D.B.kept L.kept fun x hb ha => D.ap x ha hb, fun x hx hb => ?_, fun x hx => ?_, D.lb, D.below.trans (L.kept.below D.below.size fun i hi h => by have := D.la i h; omega)⟩
  · rcases L.less x hx with h | h
    · exact D.ap x h hb
    · have := D.B.lt x hb; omega
  · rcases L.less x hx with h | h
    · exact D.la x h
    · have := D.below.size; omega

theorem Duo.stepB (D : Duo w wr Ya Yb Fa Fb a b) (L : Left Fb wr Yb a' F' w') : Duo w w' Ya Yb Fa F' a a' := by
  refine ⟨D.A.kept L.kept fun x ha hb => D.ap x ha hb, L.st, fun x ha hx => ?_, D.la, fun x hx => ?_, D.below.trans (L.kept.below D.below.size fun i hi h => by have := D.lb i h; omega)⟩
  · rcases L.less x hx with h | h
    · exact D.ap x ha h
    · have := D.A.lt x ha; omega
  · rcases L.less x hx with h | h
    · exact D.lb x h
    · have := D.below.size; omega

end

/-- Replies that came out of one of two Berths. -/
theorem RepsAt.duo {w wr w' : World} {Ya Yb : Nat} {Fa Fb F' : Nat → Prop} {a b : Abs} (D : Duo w wr Ya Yb Fa Fb a b) {l : List (Rep × Option Addr × Nat)} {v : Value} (R : RepsAt F' wr w' l v) : RepsAt (fun x => F' x ∨ Fb x) w w' l v := by
  have h : ∀ x, wr.heap.size ≤ x ∧ ¬ F' x → w.heap.size ≤ x ∧ ¬ (F' x ∨ Fb x) := fun x hx => ⟨Nat.le_trans D.below.size hx.1, fun hf => hf.elim hx.2 fun hf => by have := D.B.lt x hf; omega⟩
  exact ⟨R.row, fun x hx => h x (R.new x hx), R.rsn, fun y hy x hx => h x (R.rnew y hy x hx)⟩

/-- A Schedule in the other. -/
theorem RepsAt.stepB {w wr w' : World} {Yb : Nat} {Fa Fb F' : Nat → Prop} {a' : Abs} {l : List (Rep × Option Addr × Nat)} {v : Value} (R : RepsAt (fun x => Fa x ∨ Fb x) w wr l v) (L : Left Fb wr Yb a' F' w') : RepsAt (fun x => Fa x ∨ F' x) w w' l v :=
  R.kept L.kept (fun _ h _ => .inl (.inr h)) fun x h => h.elim (fun h => .inl (.inl h)) fun h => (L.less x h).elim (fun h => .inl (.inr h)) fun h => .inr h.1

theorem RepsAt.onward {F : Nat → Prop} {w wr w' : World} {l : List (Rep × Option Addr × Nat)} {v : Value} (R : RepsAt F w wr l v) (hb : Below wr.heap.size wr w') : RepsAt F w w' l v := R.kept (Kept.of_below (F := noBlock) hb) (fun _ h _ => h.elim) fun _ h => .inl h

/-- The k-th of them. -/
theorem RepsAt.at {F : Nat → Prop} {w wr : World} {l : List (Rep × Option Addr × Nat)} {oo : Option Addr} {n oc : Nat} (R : RepsAt F w wr l (.slice oo n oc)) {k : Nat} (hk : k < l.length) :
    ∃ g, oo = some ⟨g, 0, none⟩ ∧ g < wr.heap.size ∧ ¬ F g ∧ w.heap.size ≤ g ∧ wr.cell? ⟨g, k * 5, none⟩ = some (.int .i64 l[k].1.err) ∧ wr.cell? ⟨g, k * 5 + 1, none⟩ = some (.string (bs l[k].1.node)) ∧ wr.cell? ⟨g, k * 5 + 2, none⟩ = some (.int .i64 l[k].1.score) ∧ wr.cell? ⟨g, k * 5 + 3, none⟩ = some (.slice l[k].2.1 l[k].1.reasons.length l[k].2.2) ∧ wr.cell? ⟨g, k * 5 + 4, none⟩ = some (.int .i64 l[k].1.fresh) := by
  obtain ⟨g, e, l1, cc, _⟩ := own_cellK R.row (by omega)
  subst e
  have f := fun j hj => flat_getK repRowL 5 (fun _ => rfl) l k j hk hj
  have hn := R.new g rfl
  refine ⟨g, rfl, l1, hn.2, hn.1, ?_, ?_, ?_, ?_, ?_⟩
  · rw [cc _ (by omega)]; exact f 0 (by omega)
  · rw [cc _ (by omega)]; exact f 1 (by omega)
  · rw [cc _ (by omega)]; exact f 2 (by omega)
  · rw [cc _ (by omega)]; exact f 3 (by omega)
  · rw [cc _ (by omega)]; exact f 4 (by omega)

theorem puts_W (a : Abs) (L : List RawD) : (putsA a L).W = a.W := by
  unfold putsA
  induction L generalizing a with
  | nil => rfl
  | cons r t ih =>
    rw [List.foldl_cons, ih]
    unfold Abs.put
    split <;> rfl

theorem made_W (hold : Int) (L : List RawD) : (madeA hold L).W = [] := puts_W _ _

theorem runS_W : ∀ (L : List RawD) (b : Abs), (runS b L).2.W = b.W
  | [], _ => rfl
  | r :: t, b => by
    show (runS (b.sched r.podName r.podV).2 t).2.W = b.W
    rw [runS_W t, sched_W]

theorem runS_N : ∀ (L : List RawD) (b : Abs), (runS b L).2.N = b.N
  | [], _ => rfl
  | r :: t, b => by
    show (runS (b.sched r.podName r.podV).2 t).2.N = b.N
    rw [runS_N t]
    unfold Abs.sched
    split
    · rfl
    · dsimp only
      split <;> rfl

/-- How many came out, and what stays. -/
theorem drained (M : List RawD) (t kk n1 : Nat) (h : n1 = min kk (M.length - t)) : (M.drop t).take kk = (M.drop t).take n1 ∧ (M.drop t).drop kk = M.drop (t + n1) ∧ M.take (t + n1) = M.take t ++ (M.drop t).take n1 := by
  subst h
  refine ⟨?_, ?_, ?_⟩
  · by_cases hk : kk ≤ M.length - t
    · rw [Nat.min_eq_left hk]
    · rw [Nat.min_eq_right (by omega), List.take_of_length_le (by rw [List.length_drop]; omega), List.take_of_length_le (by rw [List.length_drop]; omega)]
  · rw [List.drop_drop]
    by_cases hk : kk ≤ M.length - t
    · rw [Nat.min_eq_left hk]
    · rw [Nat.min_eq_right (by omega), List.drop_eq_nil_of_le (by omega), List.drop_eq_nil_of_le (by omega)]
  · rw [List.take_add]

/-- A list of numbers in memory. -/
def IntsAt (w : World) (a : Option Addr) (L : List Int) : Prop := ∀ (k : Nat) (h : k < L.length), ∃ b off, a = some ⟨b, off, none⟩ ∧ b < w.heap.size ∧ i64 L[k] ∧ w.cell? ⟨b, off + k, none⟩ = some (.int .i64 L[k])

theorem IntsAt.below {w w' : World} {a : Option Addr} {L : List Int} (h : IntsAt w a L) (hb : Below w.heap.size w w') : IntsAt w' a L := by
  intro k hk
  obtain ⟨b, off, e, hlt, hok, h0⟩ := h k hk
  exact ⟨b, off, e, Nat.lt_of_lt_of_le hlt hb.size, hok, by rw [hb.cell hlt]; exact h0⟩

end Go.Proofs.Ytchddaafibjmgaa
