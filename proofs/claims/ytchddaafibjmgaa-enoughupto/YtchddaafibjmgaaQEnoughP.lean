/-
  Enough, without memory: what was scheduled overloads no node, and takes no port twice.
-/
import Derived.Test.YtchddaafibjmgaaQA23
import Derived.Test.YtchddaafibjmgaaQA25
namespace Go.Proofs.Ytchddaafibjmgaa
open Go.RowKit Go.Maps

/-- No node is overloaded. -/
def Abs.enough (a : Abs) : Prop := ∀ k n, getL a.N k = some n → (usedOf a.P k).1 ≤ n.r0 ∧ (usedOf a.P k).2.1 ≤ n.r1 ∧ (usedOf a.P k).2.2 ≤ n.r2

theorem used_filter {P : List (Bytes × LiesV)} (hn : ∀ p ∈ P, ∀ y ∈ [p.2.n0, p.2.n1, p.2.n2], 0 ≤ y ∧ y ≤ 1099511627776) (f : Bytes × LiesV → Bool) (k : Bytes) :
    (usedOf (P.filter f) k).1 ≤ (usedOf P k).1 ∧ (usedOf (P.filter f) k).2.1 ≤ (usedOf P k).2.1 ∧ (usedOf (P.filter f) k).2.2 ≤ (usedOf P k).2.2 := by
  induction P with
  | nil => exact ⟨Int.le_refl _, Int.le_refl _, Int.le_refl _⟩
  | cons p r ih =>
    have h := ih fun q hq => hn q (List.mem_cons_of_mem _ hq)
    have h0 := (hn p List.mem_cons_self p.2.n0 (by simp)).1
    have h1 := (hn p List.mem_cons_self p.2.n1 (by simp)).1
    have h2 := (hn p List.mem_cons_self p.2.n2 (by simp)).1
    rw [List.filter_cons]
    by_cases e : f p = true
    · rw [if_pos e]
      unfold usedOf
      split
      · dsimp only; omega
      · exact h
    · rw [if_neg e]
      have hu : usedOf (p :: r) k = if p.2.node == k then ((usedOf r k).1 + p.2.n0, (usedOf r k).2.1 + p.2.n1, (usedOf r k).2.2 + p.2.n2) else usedOf r k := rfl
      rw [hu]
      split
      · dsimp only; omega
      · exact h

theorem used_put {P : List (Bytes × LiesV)} {k : Bytes} (h : getL P k = none) (x : LiesV) (j : Bytes) : usedOf (putL P k x) j = if x.node == j then ((usedOf P j).1 + x.n0, (usedOf P j).2.1 + x.n1, (usedOf P j).2.2 + x.n2) else usedOf P j := by
  unfold putL
  rw [(usedOf_perm (insL_perm (k, x) _) j).1, delL_of_none h]
  rfl

theorem used_confirm (P : List (Bytes × LiesV)) (k j : Bytes) : usedOf (P.map fun p => (p.1, if p.1 == k then { p.2 with bound := true } else p.2)) j = usedOf P j := by
  induction P with
  | nil => rfl
  | cons p r ih =>
    rw [List.map_cons]
    unfold usedOf
    rw [ih]
    by_cases e : p.1 == k
    · simp only [e, if_true]
    · simp only [e, if_false, Bool.false_eq_true]

/-- A node that takes a pod has room for it, and its port is free there. -/
theorem whyA_room {N : List (Bytes × NodeV)} {P : List (Bytes × LiesV)} {k : Bytes} {n : NodeV} {v : PodV} (h : whyA N P k n v = 0) :
    shortB n.r0 n.r1 n.r2 (usedOf P k).1 (usedOf P k).2.1 (usedOf P k).2.2 v.n0 v.n1 v.n2 = false ∧ (v.port ≠ 0 → (onA P k).any (fun q => q.port == v.port) = false) := by
  unfold whyA at h
  split at h
  · cases h
  · rename_i h0
    refine ⟨by simpa using h0, fun hp => ?_⟩
    split at h
    · cases h
    · rename_i h1
      have : (v.port == 0) = false := by simpa using hp
      simp only [this, Bool.not_false, Bool.true_and] at h1
      simpa using h1

theorem answerA_room {N : List (Bytes × NodeV)} {P : List (Bytes × LiesV)} {k : Bytes} {n : NodeV} {v : PodV} {s : Int} (h : answerA N P k n v = (0, s)) : whyA N P k n v = 0 := by
  unfold answerA at h
  split at h
  · assumption
  · rename_i h0
    exact absurd (congrArg Prod.fst h) h0

/-- What a Schedule that found a node did. -/
theorem sched_took {a : Abs} {s : ByteArray} {v : PodV} (h : (a.sched s v).1.err = 0) : ∃ n, getL a.P (ky s) = none ∧ (∃ p ∈ a.N, p.1 = (a.sched s v).1.node ∧ p.2 = n) ∧ whyA a.N a.P (a.sched s v).1.node n v = 0 ∧ (a.sched s v).2.N = a.N ∧ (a.sched s v).2.P = putL a.P (ky s) (v.lies (a.sched s v).1.node false a.now) := by
  by_cases h0 : a.schedErr s v ≠ 0
  · unfold Abs.sched at h
    rw [if_pos h0] at h
    exact absurd h h0
  · have h0' : a.schedErr s v = 0 := by simpa using h0
    have hn := admits_none (schedErr_admits h0')
    have he : (chooseA a.N a.P v).err = 0 := by
      unfold Abs.sched at h
      rw [if_neg h0] at h
      exact h
    have e : a.sched s v = ({ chooseA a.N a.P v with fresh := a.F.length }, ({ a with F := [] } : Abs).lay (ky s) (v.lies (chooseA a.N a.P v).node false a.now)) := by
      unfold Abs.sched
      rw [if_neg h0]
      dsimp only
      rw [if_pos he]
    obtain ⟨p, hp, e1, e2⟩ := chooseA_ok he
    rw [e]
    refine ⟨p.2, hn, ⟨p, hp, e1, rfl⟩, ?_, rfl, rfl⟩
    show whyA a.N a.P (chooseA a.N a.P v).node p.2 v = 0
    rw [← e1]
    exact answerA_room e2

/-- .. that found none. -/
theorem sched_not {a : Abs} {s : ByteArray} {v : PodV} (h : (a.sched s v).1.err ≠ 0) : (a.sched s v).2.N = a.N ∧ (a.sched s v).2.P = a.P := by
  obtain ⟨_, _, h3, h4, _⟩ := core_eq (sched_none s v h)
  exact ⟨h3, h4⟩

theorem room_add {r u n : Int} (hu : u ≤ r) (h : (decide (0 < n) && decide (r - u < n)) = false) (hn : 0 ≤ n) : u + n ≤ r := by
  by_cases e : 0 < n
  · have : ¬ r - u < n := by simpa [e] using h
    omega
  · omega

/-- What the law holds of the Berth: its nodes' names, and that none is overloaded. -/
structure Abs.Well (a : Abs) : Prop where
  fine : a.Fine
  enough : a.enough
  len : ∀ p ∈ a.N, p.1.length = 2

theorem goodP_need {s : ByteArray} {v : PodV} (h : goodP s v = true) : 0 ≤ v.n0 ∧ 0 ≤ v.n1 ∧ 0 ≤ v.n2 := by
  unfold goodP amtsB amtB at h
  simp only [Bool.and_eq_true, decide_eq_true_eq] at h
  omega

theorem enough_sched {a : Abs} (hs : SortedL a.N) (h : a.enough) (r : RawD) : (a.sched r.podName r.podV).2.N = a.N ∧ (a.sched r.podName r.podV).2.enough := by
  by_cases he : (a.sched r.podName r.podV).1.err = 0
  · obtain ⟨n, h1, ⟨p, hp, e1, e2⟩, h3, h4, h5⟩ := sched_took he
    refine ⟨h4, fun k m hk => ?_⟩
    rw [h4] at hk
    rw [h5, used_put h1]
    by_cases e : (r.podV.lies (a.sched r.podName r.podV).1.node false a.now).node == k
    · rw [if_pos e]
      have e' : (a.sched r.podName r.podV).1.node = k := eq_of_beq e
      have hg : getL a.N k = some n := by
        rw [← e', ← e1, ← e2]
        exact getL_of_mem hs.distinct hp
      rw [hg] at hk
      cases hk
      rw [e'] at h3
      have hr := (whyA_room h3).1
      unfold shortB at hr
      simp only [Bool.or_eq_false_iff] at hr
      have hu := h k n hg
      have hn := goodP_need (good_pod r)
      exact ⟨room_add hu.1 hr.1 hn.1, room_add hu.2.1 hr.2.1 hn.2.1, room_add hu.2.2 hr.2.2 hn.2.2⟩
    · rw [if_neg e]
      exact h k m hk
  · obtain ⟨h1, h2⟩ := sched_not he
    refine ⟨h1, fun k m hk => ?_⟩
    rw [h1] at hk
    rw [h2]
    exact h k m hk

theorem enough_filter {a : Abs} (hf : a.Fine) (h : a.enough) {b : Abs} (hN : b.N = a.N) (f : Bytes × LiesV → Bool) (hP : b.P = a.P.filter f) : b.enough := fun k n hk => by
  rw [hN] at hk
  have h1 := h k n hk
  have h2 := used_filter hf.need f k
  rw [hP]
  omega

/-- Whatever happens, but for Bind, PutNode and DropNode. -/
theorem enough_happen {a : Abs} (hf : a.Fine) (h : a.enough) (r : RawD) (h3 : r.kindI ≠ 3) (h4 : r.kindI ≠ 4) (h5 : r.kindI ≠ 5) : (r.happen a).2.N = a.N ∧ (r.happen a).2.enough := by
  unfold RawD.happen
  rw [if_neg h3, if_neg h4, if_neg h5]
  by_cases h6 : r.kindI = 6
  · rw [if_pos h6]
    unfold Abs.drop
    dsimp only
    split
    · exact ⟨rfl, enough_filter hf h rfl _ rfl⟩
    · exact ⟨rfl, h⟩
  rw [if_neg h6]
  by_cases h7 : r.kindI = 7
  · rw [if_pos h7]
    dsimp only
    split
    · refine ⟨rfl, fun k n hk => ?_⟩
      show (usedOf (a.P.map _) k).1 ≤ _ ∧ (usedOf (a.P.map _) k).2.1 ≤ _ ∧ (usedOf (a.P.map _) k).2.2 ≤ _
      rw [used_confirm]
      exact h k n hk
    · exact ⟨rfl, h⟩
  rw [if_neg h7]
  by_cases h8 : r.kindI = 8
  · rw [if_pos h8]
    unfold Abs.tick
    dsimp only
    split
    · exact ⟨rfl, enough_filter hf h rfl _ rfl⟩
    · exact ⟨rfl, h⟩
  rw [if_neg h8]
  exact enough_sched hf.sn h r

/-! ### the rooms, as the law reads them -/
def RawD.room (r : RawD) : Int × Int × Int := (r.N % 20, r.N / 20 % 30, r.N / 600 % 3)
def roomStep (k : Bytes) (m : Int × Int × Int) (r : RawD) : Int × Int × Int := if (ky r.nodeName == k) = true then r.room else m
def lastRoom (L : List RawD) (k : Bytes) : Int × Int × Int := L.foldl (roomStep k) (0, 0, 0)

theorem lastRoom_succ (L : List RawD) (k : Bytes) {i : Nat} (h : i < L.length) : lastRoom (L.take (i + 1)) k = if (ky L[i].nodeName == k) = true then L[i].room else lastRoom (L.take i) k := by
  unfold lastRoom
  rw [List.take_succ_eq_append_getElem h, List.foldl_append]
  rfl

structure Roomy (a : Abs) (L : List RawD) : Prop where
  len : ∀ p ∈ a.N, p.1.length = 2
  room : ∀ k n, getL a.N k = some n → lastRoom L k = (n.r0, n.r1, n.r2)
  none : a.P = []

theorem Roomy.put {a : Abs} {L : List RawD} (H : Roomy a L) (r : RawD) : Roomy (a.put r.nodeName r.nodeV) (L ++ [r]) := by
  have hl : ∀ k, lastRoom (L ++ [r]) k = if (ky r.nodeName == k) = true then r.room else lastRoom L k := fun k => by
    unfold lastRoom
    rw [List.foldl_append]
    rfl
  have he : errN r.nodeName r.nodeV = 0 := by
    unfold errN
    rw [good_node]
    rfl
  unfold Abs.put Abs.putErr
  rw [he]
  simp only [ne_eq, not_true_eq_false, if_false]
  by_cases hc : (getL a.N (ky r.nodeName)).isNone = true ∧ 32 ≤ a.N.length
  · rw [if_pos hc, if_neg (by omega)]
    refine ⟨H.len, fun k n hk => ?_, H.none⟩
    rw [hl, if_neg]
    · exact H.room k n hk
    · intro e
      have : ky r.nodeName = k := by simpa using e
      rw [this, hk] at hc
      simp at hc
  · rw [if_neg hc, if_pos rfl]
    refine ⟨fun p hp => ?_, fun k n hk => ?_, H.none⟩
    · rcases mem_putL.1 hp with rfl | ⟨hp, _⟩
      · show (ky r.nodeName).length = 2
        rw [ky_length, nodeName_size]
      · exact H.len p hp
    · rw [hl]
      by_cases e : ky r.nodeName = k
      · subst e
        rw [if_pos (by simp)]
        have hk' : getL (putL a.N (ky r.nodeName) r.nodeV) (ky r.nodeName) = some n := hk
        rw [getL_putL_same] at hk'
        cases hk'
        rfl
      · rw [if_neg (by simpa using e)]
        have hk' : getL (putL a.N (ky r.nodeName) r.nodeV) k = some n := hk
        rw [getL_putL_other _ _ (Ne.symm e)] at hk'
        exact H.room k n hk'

theorem Roomy.puts (hold : Int) (L : List RawD) : Roomy (madeA hold L) L := by
  have : ∀ (M K : List RawD) (a : Abs), Roomy a K → Roomy (putsA a M) (K ++ M) := by
    intro M
    induction M with
    | nil => intro K a h; rw [List.append_nil]; exact h
    | cons r t ih =>
      intro K a h
      have := ih (K ++ [r]) _ (h.put r)
      rw [List.append_assoc] at this
      exact this
  exact this L [] (abs0 hold) ⟨fun p hp => by simp [abs0] at hp, fun k n hk => by simp [abs0, getL] at hk, rfl⟩

theorem Roomy.enough {a : Abs} {L : List RawD} (H : Roomy a L) (hf : a.Fine) : a.enough := fun k n hk => by
  rw [H.none]
  have hr := hf.room (k, n) (getL_mem hk)
  exact ⟨(hr n.r0 (by simp)).1, (hr n.r1 (by simp)).1, (hr n.r2 (by simp)).1⟩

/-! ### the ports -/
/-- A port's last node has a pod at that port, or none was told yet. -/
def Ported (a : Abs) (q : Int) (s : ByteArray) : Prop := s.size = 0 ∨ ∃ p ∈ a.P, p.2.port = q ∧ p.2.node = ky s

theorem Ported.none (a : Abs) (q : Int) : Ported a q ⟨#[]⟩ := .inl rfl

theorem Ported.sched {a : Abs} {q : Int} {s : ByteArray} (H : Ported a q s) (n : ByteArray) (v : PodV) : Ported (a.sched n v).2 q s := by
  rcases H with h | ⟨p, hp, h1, h2⟩
  · exact .inl h
  · refine .inr ⟨p, ?_, h1, h2⟩
    by_cases he : (a.sched n v).1.err = 0
    · obtain ⟨m, g1, _, _, _, g5⟩ := sched_took he
      rw [g5]
      refine mem_putL.2 (.inr ⟨hp, fun e => ?_⟩)
      exact getL_none.1 g1 p hp e
    · rw [(sched_not he).2]
      exact hp

/-- A pod that was scheduled did not find its port taken. -/
theorem ported_new {a : Abs} {s : ByteArray} {n : ByteArray} {v : PodV} (H : Ported a v.port s) (hlen : ∀ p ∈ a.N, p.1.length = 2) (hp : 0 < v.port) (he : (a.sched n v).1.err = 0) : ky s ≠ (a.sched n v).1.node := by
  obtain ⟨m, g1, ⟨p, gp, e1, e2⟩, g3, _, _⟩ := sched_took he
  intro hs
  rcases H with h | ⟨q, hq, h1, h2⟩
  · have := hlen p gp
    rw [e1, ← hs, ky_length] at this
    omega
  · have hf := (whyA_room g3).2 (by omega)
    rw [List.any_eq_false] at hf
    refine hf q.2 ?_ (by simp [h1])
    unfold onA
    rw [List.mem_map]
    exact ⟨q, List.mem_filter.2 ⟨hq, by simp [h2, hs]⟩, rfl⟩

theorem ported_now {a : Abs} {n : ByteArray} {v : PodV} (he : (a.sched n v).1.err = 0) : Ported (a.sched n v).2 v.port (bs (a.sched n v).1.node) := by
  obtain ⟨m, g1, _, _, _, g5⟩ := sched_took he
  refine .inr ⟨(ky n, v.lies (a.sched n v).1.node false a.now), ?_, rfl, (ky_bs _).symm⟩
  rw [g5]
  exact mem_putL.2 (.inl rfl)

end Go.Proofs.Ytchddaafibjmgaa
