/-
  A Berth without what it remembers: its time, its nodes, its pods, what is fresh, what waits; and what each call makes of it.
  What is chosen, when something is: a node that is there, and takes the pod.
-/
import Derived.Test.YtchddaafibjmgaaQA17
namespace Go.Proofs.Ytchddaafibjmgaa
open Go.RowKit Go.Maps

/-- What a Berth is, without what it remembers. -/
structure Abs where
  hold : Int
  now : Int
  N : List (Bytes × NodeV)
  P : List (Bytes × LiesV)
  F : List (Bytes × Unit)
  W : List (ByteArray × PodV)

def absOf (hd : Head) (g : Gh) : Abs := ⟨hd.hold, hd.now, g.nodes, g.pods, g.FF, g.WW.map fun p => (p.name, p.val)⟩

/-! ### what is a pod, what a node -/
def goodP (s : ByteArray) (v : PodV) : Bool := nameB s && amtsB v.n0 v.n1 v.n2 && decide (0 ≤ v.port) && decide (v.port ≤ 65535) && v.lists.all fun L => listB L
def errP (s : ByteArray) (v : PodV) : Int := if goodP s v then 0 else 3
def goodN (s : ByteArray) (n : NodeV) : Bool := nameB s && amtsB n.r0 n.r1 n.r2 && [n.labels, n.taints].all fun L => listB L
def errN (s : ByteArray) (n : NodeV) : Int := if goodN s n then 0 else 2

theorem err_val (p : PodD) : p.err = errP p.name p.val := rfl
theorem nerr_val (n : NodeD) : n.err = errN n.name n.val := rfl

/-! ### the calls -/
def Abs.admits (a : Abs) (k : Bytes) : Int := if (getL a.P k).isSome then 5 else if 128 ≤ a.P.length then 6 else 0
def PodV.lies (v : PodV) (node : Bytes) (bound : Bool) (since : Int) : LiesV := ⟨v.n0, v.n1, v.n2, v.port, v.labels, v.apart, node, bound, since⟩

def Abs.putErr (a : Abs) (s : ByteArray) (n : NodeV) : Int := if errN s n ≠ 0 then errN s n else if (getL a.N (ky s)).isNone ∧ 32 ≤ a.N.length then 6 else 0
def Abs.put (a : Abs) (s : ByteArray) (n : NodeV) : Abs := if a.putErr s n = 0 then { a with N := putL a.N (ky s) n, F := putL a.F (ky s) () } else a

def Abs.dropNErr (a : Abs) (k : Bytes) : Int := if (getL a.N k).isSome then 0 else 4
def Abs.dropN (a : Abs) (k : Bytes) : Abs := if (getL a.N k).isSome then { a with N := delL a.N k, P := a.P.filter fun p => !(p.2.node == k), F := delL a.F k } else a

def Abs.bindErr (a : Abs) (s : ByteArray) (v : PodV) (node : Bytes) : Int := if errP s v ≠ 0 then errP s v else if (getL a.N node).isNone then 4 else a.admits (ky s)
def Abs.lay (a : Abs) (k : Bytes) (x : LiesV) : Abs := { a with P := putL a.P k x, F := putL a.F x.node () }
def Abs.bind (a : Abs) (s : ByteArray) (v : PodV) (node : Bytes) : Abs := if a.bindErr s v node = 0 then a.lay (ky s) (v.lies node true 0) else a

def Abs.dropErr (a : Abs) (k : Bytes) : Int := if (getL a.P k).isSome then 0 else 4
def Abs.drop (a : Abs) (k : Bytes) : Abs := match getL a.P k with
  | some x => { a with P := delL a.P k, F := putL a.F x.node () }
  | none => a

def Abs.confirmErr (a : Abs) (k : Bytes) : Int := match getL a.P k with
  | some x => if x.bound then 7 else 0
  | none => 4
def Abs.confirm (a : Abs) (k : Bytes) : Abs := { a with P := a.P.map fun p => (p.1, if p.1 == k then { p.2 with bound := true } else p.2) }

def dueA (hold now : Int) (x : LiesV) : Bool := !x.bound && decide (hold ≤ now - x.since)
def Abs.tickErr (a : Abs) (n : Int) : Int := if n < 0 ∨ 100000 < n ∨ 1099511627776 - a.now < n then 8 else 0
def freshen (F : List (Bytes × Unit)) (l : List (Bytes × LiesV)) : List (Bytes × Unit) := l.foldl (fun F p => putL F p.2.node ()) F
def Abs.tick (a : Abs) (n : Int) : Abs := if a.tickErr n = 0 then { a with now := a.now + n, P := a.P.filter fun p => !dueA a.hold (a.now + n) p.2, F := freshen a.F (a.P.filter fun p => dueA a.hold (a.now + n) p.2) } else a

def Abs.schedErr (a : Abs) (s : ByteArray) (v : PodV) : Int := if errP s v ≠ 0 then errP s v else a.admits (ky s)
def Abs.sched (a : Abs) (s : ByteArray) (v : PodV) : Rep × Abs :=
  if a.schedErr s v ≠ 0 then (⟨a.schedErr s v, [], 0, [], 0⟩, a)
  else
    let r := chooseA a.N a.P v
    ({ r with fresh := a.F.length }, if r.err = 0 then ({ a with F := [] } : Abs).lay (ky s) (v.lies r.node false a.now) else { a with F := [] })

def Abs.queueErr (a : Abs) (s : ByteArray) (v : PodV) : Int := if errP s v ≠ 0 then errP s v else if 128 ≤ a.W.length then 6 else 0
def Abs.queue (a : Abs) (s : ByteArray) (v : PodV) : Abs := if a.queueErr s v = 0 then { a with W := a.W ++ [(s, v)] } else a
def Abs.drain (a : Abs) : Nat → List Rep × Abs
  | 0 => ([], a)
  | n + 1 => match a.W with
    | [] => ([], a)
    | p :: r => ((({ a with W := r } : Abs).sched p.1 p.2).1 :: ((({ a with W := r } : Abs).sched p.1 p.2).2.drain n).1, ((({ a with W := r } : Abs).sched p.1 p.2).2.drain n).2)

/-! ### in memory -/
/-- A Berth in memory. -/
def BSt (F : Nat → Prop) (w : World) (Y : Nat) (a : Abs) : Prop := ∃ hd g, BMem F w Y hd g ∧ Sound hd g ∧ absOf hd g = a

/-- What a call leaves. -/
structure Left (F : Nat → Prop) (w : World) (Y : Nat) (a : Abs) (F' : Nat → Prop) (w' : World) : Prop where
  st : BSt F' w' Y a
  less : ∀ b, F' b → grow F w w' b
  kept : Kept F w w'

theorem BSt.lt {F : Nat → Prop} {w : World} {Y : Nat} {a : Abs} (h : BSt F w Y a) : ∀ b, F b → b < w.heap.size := by
  obtain ⟨hd, g, H, _⟩ := h
  exact H.lt

theorem BSt.fy {F : Nat → Prop} {w : World} {Y : Nat} {a : Abs} (h : BSt F w Y a) : F Y := by
  obtain ⟨hd, g, H, _⟩ := h
  exact H.fy

theorem BSt.kept {F G : Nat → Prop} {w w' : World} {Y : Nat} {a : Abs} (h : BSt F w Y a) (hk : Kept G w w') (hG : ∀ b, F b → ¬ G b) : BSt F w' Y a := by
  obtain ⟨hd, g, H, S, e⟩ := h
  exact ⟨hd, g, H.kept hk hG (fun _ h => h) (fun b hb => Nat.lt_of_lt_of_le (H.lt b hb) hk.size), S, e⟩

theorem BSt.below {F : Nat → Prop} {w w' : World} {Y : Nat} {a : Abs} (h : BSt F w Y a) (hb : Below w.heap.size w w') : BSt F w' Y a := h.kept (Kept.of_below (F := noBlock) hb) fun _ _ => id

theorem grow_self {F : Nat → Prop} {w w' : World} : ∀ b, F b → grow F w w' b := fun _ h => .inl h

theorem Left.of_below {F : Nat → Prop} {w w' : World} {Y : Nat} {a : Abs} (h : BSt F w Y a) (hb : Below w.heap.size w w') : Left F w Y a F w' := ⟨h.below hb, grow_self, Kept.of_below hb⟩

theorem Left.before {F F' : Nat → Prop} {w0 w w' : World} {Y : Nat} {a : Abs} (h : Left F w Y a F' w') (hb : Below w0.heap.size w0 w) : Left F w0 Y a F' w' := by
  refine ⟨h.st, fun b hb' => (h.less b hb').imp id fun g => ⟨Nat.le_trans hb.size g.1, g.2⟩, (Kept.of_below hb).trans h.kept fun _ _ h => h⟩

theorem Left.behind {F F' : Nat → Prop} {w w1 w' : World} {Y : Nat} {a : Abs} (h : Left F w Y a F' w1) (hb : Below w1.heap.size w1 w') : Left F w Y a F' w' := by
  refine ⟨h.st.below hb, fun b hb' => (h.less b hb').imp id fun g => ⟨g.1, Nat.lt_of_lt_of_le g.2 hb.size⟩, h.kept.trans (Kept.of_below (F := noBlock) hb) fun _ _ h => h.elim⟩

theorem Left.then {F F1 F2 : Nat → Prop} {w w1 w2 : World} {Y : Nat} {a1 a2 : Abs} (h1 : Left F w Y a1 F1 w1) (h2 : Left F1 w1 Y a2 F2 w2) : Left F w Y a2 F2 w2 := by
  refine ⟨h2.st, fun b hb => ?_, h1.kept.trans h2.kept fun i hi hf => ?_⟩
  · rcases h2.less b hb with h | h
    · exact (h1.less b h).imp id fun g => ⟨g.1, Nat.lt_of_lt_of_le g.2 h2.kept.size⟩
    · exact .inr ⟨Nat.le_trans h1.kept.size h.1, h.2⟩
  · rcases h1.less i hf with h | h
    · exact h
    · omega

/-! ### what is so of it -/
structure Abs.Fine (a : Abs) : Prop where
  sn : SortedL a.N
  sp : SortedL a.P
  sf : SortedL a.F
  nn : a.N.length ≤ 32
  np : a.P.length ≤ 128
  nw : a.W.length ≤ 128
  nk : ∀ p ∈ a.N, p.1.length ≤ 20
  room : ∀ p ∈ a.N, ∀ y ∈ [p.2.r0, p.2.r1, p.2.r2], 0 ≤ y ∧ y ≤ 1099511627776
  pk : ∀ p ∈ a.P, p.1.length ≤ 20 ∧ (getL a.N p.2.node).isSome = true ∧ 0 ≤ p.2.since ∧ p.2.since ≤ a.now
  need : ∀ p ∈ a.P, ∀ y ∈ [p.2.n0, p.2.n1, p.2.n2], 0 ≤ y ∧ y ≤ 1099511627776
  fk : ∀ p ∈ a.F, (getL a.N p.1).isSome = true
  hold : 1 ≤ a.hold ∧ a.hold ≤ 1000
  now : 0 ≤ a.now ∧ a.now ≤ 1099511627776

theorem getL_pods (g : Gh) (j : Bytes) : getL g.pods j = (getL g.PP j).map (·.2) := by unfold Gh.pods; rw [getL_mapV]
theorem isSome_nodes (g : Gh) (j : Bytes) : (getL g.nodes j).isSome = (getL g.NN j).isSome := by rw [getL_nodes]; cases getL g.NN j <;> rfl
theorem isSome_pods (g : Gh) (j : Bytes) : (getL g.pods j).isSome = (getL g.PP j).isSome := by rw [getL_pods]; cases getL g.PP j <;> rfl
theorem len_nodes (g : Gh) : g.nodes.length = g.NN.length := by unfold Gh.nodes; rw [mapV_length]
theorem len_pods (g : Gh) : g.pods.length = g.PP.length := by unfold Gh.pods; rw [mapV_length]

theorem BMem.fineA {F : Nat → Prop} {w : World} {Y : Nat} {hd : Head} {g : Gh} (H : BMem F w Y hd g) (S : Sound hd g) : (absOf hd g).Fine := by
  have o := H.ord
  refine ⟨sortedL_mapV.2 o.n, sortedL_mapV.2 o.p, o.f, by show g.nodes.length ≤ 32; rw [len_nodes]; exact S.b.nn, by show g.pods.length ≤ 128; rw [len_pods]; exact S.b.small.pods, ?_, fun p hp => ?_, fun p hp => ?_, fun p hp => ?_, fun p hp => ?_, fun p hp => ?_, S.b.hold, S.b.now⟩
  · show (g.WW.map _).length ≤ 128
    rw [List.length_map]
    exact H.ch.le
  · obtain ⟨q, hq, rfl⟩ := mem_mapV.1 hp
    exact S.b.nk q hq
  · obtain ⟨q, hq, rfl⟩ := mem_mapV.1 hp
    exact S.b.small.room q hq
  · obtain ⟨q, hq, rfl⟩ := mem_mapV.1 hp
    have := S.b.pk q hq
    show _ ∧ (getL g.nodes _).isSome = true ∧ _
    rw [isSome_nodes]
    exact this
  · obtain ⟨q, hq, rfl⟩ := mem_mapV.1 hp
    exact S.b.small.need q hq
  · show (getL g.nodes _).isSome = true
    rw [isSome_nodes]
    exact S.b.fk p hp

theorem BSt.fine {F : Nat → Prop} {w : World} {Y : Nat} {a : Abs} (h : BSt F w Y a) : a.Fine := by
  obtain ⟨hd, g, H, S, rfl⟩ := h
  exact H.fineA S

/-! ### the ghosts' steps, without what is remembered -/
section
variable {hd : Head} {g : Gh}

theorem abs_changed (k : Bytes) : absOf hd (g.changed k) = { absOf hd g with F := putL g.FF k () } := rfl
theorem pods_lay (k : Bytes) (q : Nat) (x : LiesV) : (g.layRaw k q x).pods = putL g.pods k x := by
  unfold Gh.pods Gh.layRaw
  exact (putL_mapV (fun y : Nat × LiesV => y.2) g.PP k (q, x)).symm
theorem abs_lay (k : Bytes) (q : Nat) (x : LiesV) : absOf hd ((g.layRaw k q x).changed x.node) = (absOf hd g).lay k x := by
  unfold Abs.lay
  rw [abs_changed]
  show Abs.mk _ _ _ (g.layRaw k q x).pods _ _ = _
  rw [pods_lay]
  rfl
theorem abs_put (k : Bytes) (v : Value) (n : NodeV) : absOf hd (((g.forget k).putRaw k v n).changed k) = { absOf hd g with N := putL g.nodes k n, F := putL g.FF k () } := by
  rw [abs_changed]
  show Abs.mk _ _ ((g.forget k).putRaw k v n).nodes _ _ _ = _
  have e : ((g.forget k).putRaw k v n).nodes = putL g.nodes k n := (putL_mapV (fun y : Value × NodeV => y.2) g.NN k (v, n)).symm
  rw [e]
  rfl
theorem abs_unlay (k : Bytes) {x : Nat × LiesV} : absOf hd ((g.unlay k).changed x.2.node) = { absOf hd g with P := delL g.pods k, F := putL g.FF x.2.node () } := by
  rw [abs_changed]
  show Abs.mk _ _ _ (g.unlay k).pods _ _ = _
  have e : (g.unlay k).pods = delL g.pods k := (delL_mapV (fun y : Nat × LiesV => y.2) g.PP k).symm
  rw [e]
  rfl
theorem abs_confirm (k : Bytes) : absOf hd (g.confirm k) = (absOf hd g).confirm k := by
  unfold Abs.confirm
  show Abs.mk _ _ _ (g.confirm k).pods _ _ = Abs.mk _ _ _ (g.pods.map _) _ _
  have e : (g.confirm k).pods = g.pods.map fun p => (p.1, if p.1 == k then { p.2 with bound := true } else p.2) := by
    unfold Gh.pods Gh.confirm mapV
    rw [List.map_map, List.map_map]
    rfl
  rw [e]
  rfl
theorem abs_dropN (k : Bytes) : absOf hd (g.dropN k) = { absOf hd g with N := delL g.nodes k, P := g.pods.filter fun p => !(p.2.node == k), F := delL g.FF k } := by
  show Abs.mk _ _ (mapV (·.2) (delL g.NN k)) (mapV (·.2) (g.PP.filter fun p => !(p.2.2.node == k))) _ _ = _
  rw [← delL_mapV (fun y : Value × NodeV => y.2) g.NN k]
  have e : mapV (·.2) (g.PP.filter fun p => !(p.2.2.node == k)) = g.pods.filter fun p => !(p.2.node == k) := by
    unfold Gh.pods mapV
    rw [List.filter_map]
    rfl
  rw [e]
  rfl

end

/-! ### time goes by -/
theorem getL_freshen (l : List (Bytes × LiesV)) : ∀ (F : List (Bytes × Unit)) (j : Bytes), getL (freshen F l) j = if l.any (fun p => p.2.node == j) then some () else getL F j := by
  induction l with
  | nil => intro F j; rfl
  | cons p r ih =>
    intro F j
    show getL (freshen (putL F p.2.node ()) r) j = _
    rw [ih]
    by_cases e : p.2.node = j
    · subst e
      rw [getL_putL_same]
      simp
    · have e' : (p.2.node == j) = false := by simpa using e
      rw [getL_putL_other _ _ (Ne.symm e), List.any_cons, e', Bool.false_or]

theorem sorted_freshen (l : List (Bytes × LiesV)) : ∀ {F : List (Bytes × Unit)}, SortedL F → SortedL (freshen F l) := by
  induction l with
  | nil => intro F h; exact h
  | cons p r ih => intro F h; exact ih (sortedL_putL h _ _)

open Classical in
/-- Which pods have gone, and what is fresh by it. -/
structure Lifted (hd : Head) (g g' : Gh) : Prop where
  nn : g'.NN = g.NN
  ww : g'.WW = g.WW
  pp : ∀ k, getL g'.PP k = getL g.PP k ∨ (getL g'.PP k = none ∧ ∃ x, getL g.PP k = some x ∧ due hd x.2 = true)
  ff : ∀ j, getL g'.FF j = if (∃ k x, getL g.PP k = some x ∧ getL g'.PP k = none ∧ x.2.node = j) then some () else getL g.FF j
  o : Ord g'

open Classical in
theorem Lifts.lifted {hd : Head} {g g' : Gh} (h : Lifts hd g g') (o : Ord g) : Lifted hd g g' := by
  refine h (fun g' => Lifted hd g g') ?_ ?_
  · refine ⟨rfl, rfl, fun k => .inl rfl, fun j => ?_, o⟩
    rw [if_neg]
    rintro ⟨k, x, h1, h2, _⟩
    rw [h1] at h2
    cases h2
  · intro g1 k x ih hx hdue
    have hk0 : getL g.PP k = some x := by
      rcases ih.pp k with h | ⟨h, _⟩
      · rw [← h]; exact hx
      · rw [hx] at h; cases h
    have hP : ∀ j, getL ((g1.unlay k).changed x.2.node).PP j = if j = k then none else getL g1.PP j := fun j => by
      show getL (delL g1.PP k) j = _
      by_cases e : j = k
      · subst e; rw [getL_delL_same, if_pos rfl]
      · rw [getL_delL_other _ e, if_neg e]
    refine ⟨ih.nn, ih.ww, fun j => ?_, fun j => ?_, (ih.o.unlay k).changed _⟩
    · rw [hP]
      by_cases e : j = k
      · subst e
        rw [if_pos rfl]
        exact .inr ⟨rfl, x, hk0, hdue⟩
      · rw [if_neg e]
        exact ih.pp j
    · show getL (putL g1.FF x.2.node ()) j = _
      by_cases e : j = x.2.node
      · subst e
        rw [getL_putL_same, if_pos ⟨k, x, hk0, by rw [hP, if_pos rfl], rfl⟩]
      · rw [getL_putL_other _ _ e, ih.ff]
        by_cases h1 : ∃ k x, getL g.PP k = some x ∧ getL g1.PP k = none ∧ x.2.node = j
        · rw [if_pos h1]
          obtain ⟨k', x', q1, q2, q3⟩ := h1
          rw [if_pos ⟨k', x', q1, by rw [hP]; split; rfl; exact q2, q3⟩]
        · rw [if_neg h1, if_neg]
          rintro ⟨k', x', q1, q2, q3⟩
          rw [hP] at q2
          by_cases e' : k' = k
          · subst e'
            rw [hk0] at q1
            cases q1
            exact e q3.symm
          · rw [if_neg e'] at q2
            exact h1 ⟨k', x', q1, q2, q3⟩

theorem getL_filter {α : Type} {f : Bytes × α → Bool} {L : List (Bytes × α)} (hs : L.Pairwise fun p q => p.1 ≠ q.1) (k : Bytes) : getL (L.filter f) k = (getL L k).bind fun v => if f (k, v) then some v else none := by
  induction L with
  | nil => rfl
  | cons p r ih =>
    rw [List.pairwise_cons] at hs
    have ih := ih hs.2
    by_cases e : p.1 = k
    · subst e
      have h0 : getL r p.1 = none := getL_none.2 fun q hq e => hs.1 q hq e.symm
      have h1 : getL (p :: r) p.1 = some p.2 := by unfold getL; simp
      rw [h1]
      show _ = if f (p.1, p.2) then some p.2 else none
      by_cases hf : f p = true
      · rw [List.filter_cons, if_pos hf]
        have : f (p.1, p.2) = true := hf
        rw [if_pos this]
        unfold getL
        simp
      · rw [List.filter_cons, if_neg hf, ih, h0]
        have : ¬ f (p.1, p.2) = true := hf
        rw [if_neg this]
        rfl
    · have e' : ¬ (p.1 == k) = true := by simpa using e
      have h2 : getL (p :: r) k = getL r k := by conv => lhs; unfold getL; rw [if_neg e']
      rw [h2, ← ih, List.filter_cons]
      split
      · conv => lhs; unfold getL
        rw [if_neg e']
      · rfl

theorem abs_tick {hd hd' : Head} {g g' : Gh} (o : Ord g) {n : Int} (h : g.TickTo hd n hd' g') : absOf hd' g' = (absOf hd g).tick n := by
  classical
  rcases h with ⟨h1, rfl, rfl⟩ | ⟨h1, rfl, h2, h3⟩
  · unfold Abs.tick
    rw [if_neg (show ¬ (absOf hd' g').tickErr n = 0 from h1)]
  · have L := h2.lifted o
    unfold Abs.tick
    rw [if_pos (show (absOf hd g).tickErr n = 0 from h1)]
    have eP : g'.pods = g.pods.filter fun p => !dueA hd.hold (hd.now + n) p.2 := by
      refine sortedL_ext (sortedL_mapV.2 L.o.p) ((sortedL_mapV.2 o.p).filter _) fun k => ?_
      have hpd : g.pods.Pairwise fun p q => p.1 ≠ q.1 := (show SortedL g.pods from sortedL_mapV.2 o.p).distinct
      rw [getL_filter hpd, getL_pods, getL_pods]
      rcases L.pp k with h | ⟨h, x, hx, hd'⟩
      · rw [h]
        cases e : getL g.PP k with
        | none => rfl
        | some x =>
          have h4 := h3 (k, x) (getL_mem (by rw [h]; exact e))
          show some x.2 = if (!dueA hd.hold (hd.now + n) x.2) = true then some x.2 else none
          have h5 : dueA hd.hold (hd.now + n) x.2 = false := h4
          rw [h5]
          rfl
      · rw [h, hx]
        show none = if (!dueA hd.hold (hd.now + n) x.2) = true then some x.2 else none
        have h5 : dueA hd.hold (hd.now + n) x.2 = true := hd'
        rw [h5]
        rfl
    have eF : g'.FF = freshen g.FF (g.pods.filter fun p => dueA hd.hold (hd.now + n) p.2) := by
      refine sortedL_ext L.o.f (sorted_freshen _ o.f) fun j => ?_
      rw [L.ff, getL_freshen]
      by_cases h : ∃ k x, getL g.PP k = some x ∧ getL g'.PP k = none ∧ x.2.node = j
      · rw [if_pos h]
        obtain ⟨k, x, q1, q2, q3⟩ := h
        rw [if_pos]
        rw [List.any_eq_true]
        refine ⟨(k, x.2), List.mem_filter.2 ⟨mem_mapV.2 ⟨(k, x), getL_mem q1, rfl⟩, ?_⟩, by simpa using q3⟩
        rcases L.pp k with h | ⟨_, y, hy, hd'⟩
        · rw [h, q1] at q2; cases q2
        · rw [q1] at hy; cases hy; exact hd'
      · rw [if_neg h, if_neg]
        intro h4
        rw [List.any_eq_true] at h4
        obtain ⟨p, hp, e⟩ := h4
        obtain ⟨hp1, hp2⟩ := List.mem_filter.1 hp
        obtain ⟨q, hq, rfl⟩ := mem_mapV.1 hp1
        have hq' := getL_of_mem o.p.distinct hq
        apply h
        refine ⟨q.1, q.2, hq', ?_, by simpa using e⟩
        rcases L.pp q.1 with h | ⟨h, _⟩
        · have h4 := h3 q (getL_mem (by rw [h]; exact hq'))
          have h5 : dueA hd.hold (hd.now + n) q.2.2 = false := h4
          have h6 : dueA hd.hold (hd.now + n) q.2.2 = true := hp2
          rw [h5] at h6
          cases h6
        · exact h
    have eN : g'.nodes = g.nodes := by unfold Gh.nodes; rw [L.nn]
    show Abs.mk hd.hold (hd.now + n) g'.nodes g'.pods g'.FF (g'.WW.map _) = _
    rw [eN, eP, eF, L.ww]
    rfl

end Go.Proofs.Ytchddaafibjmgaa

namespace Go.Proofs.Ytchddaafibjmgaa
open Go.RowKit Go.Maps

/-- What the choice keeps: nothing was found yet, or the best of what was asked. -/
def ChInv (N : List (Bytes × NodeV)) (P : List (Bytes × LiesV)) (v : PodV) (st : Rep) : Prop :=
  (st.err = 9 ∧ st.node = [] ∧ st.score = 0) ∨ (st.err = 0 ∧ ∃ p ∈ N, p.1 = st.node ∧ answerA N P p.1 p.2 v = (0, st.score))

theorem answer_pair (N : List (Bytes × NodeV)) (P : List (Bytes × LiesV)) (k : Bytes) (n : NodeV) (v : PodV) {s : Int} (h : (answerA N P k n v).1 = 0) (h2 : (answerA N P k n v).2 = s) : answerA N P k n v = (0, s) := Prod.ext h h2

theorem foldl_ChInv (N : List (Bytes × NodeV)) (P : List (Bytes × LiesV)) (v : PodV) : ∀ (l : List (Bytes × NodeV)), (∀ p ∈ l, p ∈ N) → ∀ st, ChInv N P v st → ChInv N P v (l.foldl (stepC N P v) st)
  | [], _, st, h => h
  | p :: r, hl, st, h => by
    refine foldl_ChInv N P v r (fun q hq => hl q (List.mem_cons_of_mem _ hq)) _ ?_
    unfold stepC
    split
    · exact h
    · rename_i h0
      split
      · exact .inr ⟨rfl, p, hl p List.mem_cons_self, rfl, answer_pair _ _ _ _ _ (by simpa using h0) rfl⟩
      · exact h

theorem chooseA_inv (N : List (Bytes × NodeV)) (P : List (Bytes × LiesV)) (v : PodV) : ChInv N P v (chooseA N P v) := by
  have h := foldl_ChInv N P v N (fun _ h => h) rep0 (.inl ⟨rfl, rfl, rfl⟩)
  unfold chooseA Rep.done
  split
  · exact h
  · exact h

theorem chooseA_ok {N : List (Bytes × NodeV)} {P : List (Bytes × LiesV)} {v : PodV} (h : (chooseA N P v).err = 0) : ∃ p ∈ N, p.1 = (chooseA N P v).node ∧ answerA N P p.1 p.2 v = (0, (chooseA N P v).score) := by
  rcases chooseA_inv N P v with ⟨h1, _⟩ | ⟨_, h2⟩
  · rw [h] at h1; cases h1
  · exact h2

theorem chooseA_err (N : List (Bytes × NodeV)) (P : List (Bytes × LiesV)) (v : PodV) : (chooseA N P v).err = 0 ∨ (chooseA N P v).err = 9 := by
  rcases chooseA_inv N P v with ⟨h1, _⟩ | ⟨h1, _⟩
  · exact .inr h1
  · exact .inl h1

theorem chooseA_fresh (N : List (Bytes × NodeV)) (P : List (Bytes × LiesV)) (v : PodV) : (chooseA N P v).fresh = 0 := by
  have h : ∀ (l : List (Bytes × NodeV)) st, st.fresh = 0 → (l.foldl (stepC N P v) st).fresh = 0 := by
    intro l
    induction l with
    | nil => intro st h; exact h
    | cons p r ih =>
      intro st h
      refine ih _ ?_
      unfold stepC
      split
      · exact h
      · split <;> exact h
  unfold chooseA Rep.done
  split <;> exact h N rep0 rfl

/-- Where a node was found no reasons are told. -/
theorem chooseA_reasons {N : List (Bytes × NodeV)} {P : List (Bytes × LiesV)} {v : PodV} (h : (chooseA N P v).err = 0) : (chooseA N P v).reasons = [] := by
  unfold chooseA Rep.done at h ⊢
  split
  · rename_i h0
    rw [if_pos h0] at h
    exact absurd h h0
  · rfl

end Go.Proofs.Ytchddaafibjmgaa
