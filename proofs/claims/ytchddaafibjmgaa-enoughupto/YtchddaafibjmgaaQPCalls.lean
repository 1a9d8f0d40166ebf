/-
  The program's calls, each by what it makes of a Berth without what is remembered.
-/
import Derived.Test.YtchddaafibjmgaaQA18b
import Derived.Test.YtchddaafibjmgaaQPState
import Derived.Test.YtchddaafibjmgaaQPNew
namespace Go.Proofs.Ytchddaafibjmgaa
open Go.RowKit Go.Maps

section
variable {F : Nat → Prop} {w : World} {Y : Nat} {a : Abs}

theorem spec_new (hold : Int) (rem whole : Bool) (w : World) (h1 : 1 ≤ hold) (h2 : hold ≤ 1000) :
    Calls Try.prog 44 #[.agg #[.int .i64 hold, .bool rem, .bool whole]] w fun e w' => ∃ Y, e = .returned (.tuple #[.pointer (some ⟨Y, 0, none⟩), .int .i64 0]) ∧ BSt (grow (fun _ => False) w w') w' Y ⟨hold, 0, [], [], [], []⟩ ∧ Below w.heap.size w w' := by
  refine (pnew_yes hold rem whole w h1 h2).mono ?_
  rintro e w' ⟨Y, g, he, _, H, ⟨e1, e2, e3, e4, e5, e6⟩, hb⟩
  refine ⟨Y, he, ⟨_, g, H, ⟨⟨⟨by rw [e2]; simp, fun p hp => ?_, fun p hp => ?_⟩, by rw [e1]; simp, fun p hp => ?_, fun p hp => ?_, fun p hp => ?_, ⟨h1, h2⟩, by simp⟩, fun k v h => ?_, fun k v h => ?_, fun c x h => ?_, fun c x h => ?_⟩, ?_⟩, hb⟩
  · rw [e1] at hp; simp at hp
  · rw [e2] at hp; simp at hp
  · rw [e1] at hp; simp at hp
  · rw [e2] at hp; simp at hp
  · rw [e3] at hp; simp at hp
  · rw [e4] at h; cases h
  · rw [e4] at h; cases h
  · rw [e5] at h; cases h
  · rw [e5] at h; cases h
  · unfold absOf Gh.nodes Gh.pods
    rw [e1, e2, e3, e6]
    rfl

theorem spec_put (B : BSt F w Y a) (n : NodeD) (hok : n.ok w) :
    Calls Try.prog 43 #[.pointer (some ⟨Y, 0, none⟩), .agg n.cells] w fun e w' => ∃ F', e = .returned (.int .i64 (a.putErr n.name n.val)) ∧ Left F w Y (a.put n.name n.val) F' w' := by
  obtain ⟨hd, g, H, S, rfl⟩ := B
  have hpe : g.putErr n = (absOf hd g).putErr n.name n.val := by
    unfold Gh.putErr Abs.putErr
    rw [nerr_val]
    have : (getL g.NN (ky n.name)).isNone = (getL g.nodes (ky n.name)).isNone := by rw [getL_nodes]; cases getL g.NN (ky n.name) <;> rfl
    rw [this, ← len_nodes]
    rfl
  refine (pPutNode_any H n hok (by have := S.b.nn; omega) (by have := S.b.ff_len H.ord; omega)).mono ?_
  rintro e w' ⟨g', he, H', hk, hT⟩
  rw [hpe] at he
  refine ⟨_, he, ⟨⟨hd, g', H', ?_, ?_⟩, fun b h => h, hk⟩⟩
  · rcases hT with ⟨_, rfl⟩ | ⟨h0, v, rfl⟩
    · exact S
    · unfold Gh.putErr at h0
      have hgd : n.err = 0 := by
        by_cases h : n.err = 0
        · exact h
        · rw [if_pos h] at h0; exact absurd h0 h
      have hg := NodeD.err_good.1 hgd
      unfold NodeD.good at hg
      simp only [Bool.and_eq_true] at hg
      refine S.put H.ord (by rw [ky_length]; exact (nameB_size hg.1.1).2) ?_ (amtsB_le hg.1.2)
      rw [if_neg (by simp [hgd])] at h0
      by_cases h : (getL g.NN (ky n.name)).isSome = true
      · exact .inl h
      · right
        have h' : (getL g.NN (ky n.name)).isNone = true := by
          cases e : getL g.NN (ky n.name) with
          | none => rfl
          | some x => rw [e] at h; exact absurd rfl h
        by_cases hl : 32 ≤ g.NN.length
        · rw [if_pos ⟨h', hl⟩] at h0; cases h0
        · omega
  · unfold Abs.put
    rw [← hpe]
    rcases hT with ⟨h0, rfl⟩ | ⟨h0, v, rfl⟩
    · rw [if_neg h0]
    · rw [if_pos h0]
      exact abs_put _ _ _

theorem spec_dropN (B : BSt F w Y a) (s : ByteArray) (hs : s.size ≤ maxLen) :
    Calls Try.prog 47 #[.pointer (some ⟨Y, 0, none⟩), .string s] w fun e w' => ∃ F', e = .returned (.int .i64 (a.dropNErr (ky s))) ∧ Left F w Y (a.dropN (ky s)) F' w' := by
  obtain ⟨hd, g, H, S, rfl⟩ := B
  refine (pDropNode_any H s hs).mono ?_
  rintro e w' ⟨r, g', he, H', hk, hT⟩
  have hi : (getL (absOf hd g).N (ky s)).isSome = (getL g.NN (ky s)).isSome := isSome_nodes g _
  refine ⟨F, ?_, ⟨⟨hd, g', H', ?_, ?_⟩, grow_self, hk⟩⟩
  · rw [he]
    unfold Abs.dropNErr
    rw [hi]
    rcases hT with ⟨h, rfl, _⟩ | ⟨h, rfl, _⟩
    · rw [h]; rfl
    · rw [h]; rfl
  · rcases hT with ⟨h, _, rfl⟩ | ⟨h, _, rfl⟩
    · exact S
    · exact S.dropN H.ord _ h
  · unfold Abs.dropN
    rw [hi]
    rcases hT with ⟨h, _, rfl⟩ | ⟨h, _, rfl⟩
    · rw [h]; rfl
    · rw [h, if_pos rfl]
      exact abs_dropN _

theorem admits_abs (hd : Head) (g : Gh) (k : Bytes) : g.admits k = (absOf hd g).admits k := by
  unfold Gh.admits Abs.admits
  show _ = if (getL g.pods k).isSome = true then 5 else if 128 ≤ g.pods.length then 6 else 0
  rw [isSome_pods, len_pods]

theorem spec_bind (B : BSt F w Y a) (p : PodD) (node : ByteArray) (hok : p.ok w) (hn : node.size ≤ maxLen) :
    Calls Try.prog 45 #[.pointer (some ⟨Y, 0, none⟩), .agg p.cells, .string node] w fun e w' => ∃ F', e = .returned (.int .i64 (a.bindErr p.name p.val (ky node))) ∧ Left F w Y (a.bind p.name p.val (ky node)) F' w' := by
  obtain ⟨hd, g, H, S, rfl⟩ := B
  have hbe : g.bindErr p (ky node) = (absOf hd g).bindErr p.name p.val (ky node) := by
    unfold Gh.bindErr Abs.bindErr
    rw [err_val, admits_abs hd]
    have : (getL g.NN (ky node)).isNone = (getL (absOf hd g).N (ky node)).isNone := by
      show _ = (getL g.nodes (ky node)).isNone
      rw [getL_nodes]; cases getL g.NN (ky node) <;> rfl
    rw [this]
  refine (pBind_any H p node hok hn (by have := S.b.small.pods; omega) (by have := S.b.ff_len H.ord; omega)).mono ?_
  rintro e w' ⟨g', he, H', hk, hT⟩
  rw [hbe] at he
  refine ⟨_, he, ⟨⟨hd, g', H', ?_, ?_⟩, fun b h => h, hk⟩⟩
  · rcases hT with ⟨_, rfl⟩ | ⟨h0, q, rfl⟩
    · exact S
    · unfold Gh.bindErr at h0
      have hgd : p.err = 0 := by
        by_cases h : p.err = 0
        · exact h
        · rw [if_pos h] at h0; exact absurd h0 h
      rw [if_neg (by simp [hgd])] at h0
      have hg := PodD.good_Good (PodD.err_good.1 hgd)
      have hno : (getL g.NN (ky node)).isSome = true := by
        cases e : getL g.NN (ky node) with
        | none => rw [e] at h0; simp at h0
        | some x => rfl
      have hno' : ¬ (getL g.NN (ky node)).isNone = true := by
        cases e : getL g.NN (ky node) with
        | none => rw [e] at hno; cases hno
        | some x => simp
      rw [if_neg hno'] at h0
      unfold Gh.admits at h0
      have a1 : getL g.PP (ky p.name) = none := by
        cases e : getL g.PP (ky p.name) with
        | none => rfl
        | some x => rw [e] at h0; simp at h0
      have a2 : g.PP.length < 128 := by
        rw [a1] at h0
        simp at h0
        omega
      exact S.lay H.ord (x := p.lies (ky node) true 0) ⟨a1, a2, by rw [ky_length]; exact hg.name.2, hno, hg.need, by show (0 : Int) ≤ 0; omega, S.b.now.1⟩
  · unfold Abs.bind
    rw [← hbe]
    rcases hT with ⟨h0, rfl⟩ | ⟨h0, q, rfl⟩
    · rw [if_neg h0]
    · rw [if_pos h0]
      exact abs_lay (x := p.lies (ky node) true 0) _ _

theorem spec_drop (B : BSt F w Y a) (s : ByteArray) (hs : s.size ≤ maxLen) :
    Calls Try.prog 32 #[.pointer (some ⟨Y, 0, none⟩), .string s] w fun e w' => ∃ F', e = .returned (.int .i64 (a.dropErr (ky s))) ∧ Left F w Y (a.drop (ky s)) F' w' := by
  obtain ⟨hd, g, H, S, rfl⟩ := B
  refine (pDrop_any H s hs (by have := S.b.ff_len H.ord; omega) (fun x hx => by have h1 := (S.b.pk _ (getL_mem hx)).2.1; have := S.b.node_len h1; dsimp only at this; unfold maxLen; omega)).mono ?_
  rintro e w' ⟨r, g', he, H', hk, hT⟩
  have hi : getL (absOf hd g).P (ky s) = (getL g.PP (ky s)).map (·.2) := getL_pods g _
  refine ⟨F, ?_, ⟨⟨hd, g', H', S.drop H.ord hT, ?_⟩, grow_self, hk⟩⟩
  · rw [he]
    unfold Abs.dropErr
    rw [hi]
    rcases hT with ⟨h, rfl, _⟩ | ⟨x, h, rfl, _⟩
    · rw [h]; rfl
    · rw [h]; rfl
  · unfold Abs.drop
    rw [hi]
    rcases hT with ⟨h, _, rfl⟩ | ⟨x, h, _, rfl⟩
    · rw [h]; rfl
    · rw [h]
      exact abs_unlay _

theorem confirm_same {a : Abs} (hs : SortedL a.P) {k : Bytes} (h : ∀ x, getL a.P k = some x → x.bound = true) : a.confirm k = a := by
  unfold Abs.confirm
  have : a.P.map (fun p => (p.1, if p.1 == k then { p.2 with bound := true } else p.2)) = a.P := by
    conv => rhs; rw [← List.map_id a.P]
    apply List.map_congr_left
    intro p hp
    by_cases e : p.1 = k
    · have hb := h p.2 (by rw [← e]; exact getL_of_mem hs.distinct hp)
      have e' : (p.1 == k) = true := by simpa using e
      rw [e', if_pos rfl]
      show (p.1, ({ p.2 with bound := true } : LiesV)) = p
      have : ({ p.2 with bound := true } : LiesV) = p.2 := by
        cases h2 : p.2
        rw [h2] at hb
        dsimp only at hb ⊢
        rw [hb]
      rw [this]
    · have e' : (p.1 == k) = false := by simpa using e
      rw [e', if_neg (by simp)]
      rfl
  rw [this]

theorem spec_confirm (B : BSt F w Y a) (s : ByteArray) (hs : s.size ≤ maxLen) :
    Calls Try.prog 31 #[.pointer (some ⟨Y, 0, none⟩), .string s] w fun e w' => ∃ F', e = .returned (.int .i64 (a.confirmErr (ky s))) ∧ Left F w Y (a.confirm (ky s)) F' w' := by
  obtain ⟨hd, g, H, S, rfl⟩ := B
  refine (pConfirm_any H s hs).mono ?_
  rintro e w' ⟨r, g', he, H', hk, hT⟩
  have hi : getL (absOf hd g).P (ky s) = (getL g.PP (ky s)).map (·.2) := getL_pods g _
  have hsp := (H.fineA S).sp
  refine ⟨F, ?_, ⟨⟨hd, g', H', ?_, ?_⟩, grow_self, hk⟩⟩
  · rw [he]
    unfold Abs.confirmErr
    rw [hi]
    rcases hT with ⟨h, rfl, _⟩ | ⟨x, h, ⟨h2, rfl, _⟩ | ⟨h2, rfl, _⟩⟩
    · rw [h]; rfl
    · rw [h]; show _ = Ending.returned (.int .i64 (if x.2.bound then 7 else 0)); rw [h2]; rfl
    · rw [h]; show _ = Ending.returned (.int .i64 (if x.2.bound then 7 else 0)); rw [h2]; rfl
  · rcases hT with ⟨_, _, rfl⟩ | ⟨x, h, ⟨_, _, rfl⟩ | ⟨_, _, rfl⟩⟩
    · exact S
    · exact S
    · exact S.confirm H.ord _
  · rcases hT with ⟨h, _, rfl⟩ | ⟨x, h, ⟨h2, _, rfl⟩ | ⟨_, _, rfl⟩⟩
    · rw [confirm_same hsp]
      intro x hx
      rw [hi, h] at hx
      cases hx
    · rw [confirm_same hsp]
      intro y hy
      rw [hi, h] at hy
      cases hy
      exact h2
    · exact abs_confirm _

theorem spec_tick (B : BSt F w Y a) (n : Int) :
    Calls Try.prog 30 #[.pointer (some ⟨Y, 0, none⟩), .int .i64 n] w fun e w' => ∃ F', e = .returned (.int .i64 (a.tickErr n)) ∧ Left F w Y (a.tick n) F' w' := by
  obtain ⟨hd, g, H, S, rfl⟩ := B
  refine (pTick_any H n S.b.now.1 S.b.now.2 ⟨by have := S.b.hold.1; omega, S.b.hold.2⟩ (fun p hp => ?_) (by have := S.b.ff_len H.ord; have := S.b.small.pods; omega)).mono ?_
  · obtain ⟨h1, h2, h3, h4⟩ := S.b.pk p hp
    have := S.b.node_len h2
    have := S.b.now.2
    exact ⟨by unfold maxLen; omega, by unfold maxLen; omega, h3, by omega⟩
  · rintro e w' ⟨hd', g', he, H', hk, hT⟩
    exact ⟨F, he, ⟨⟨hd', g', H', S.tick H.ord hT, abs_tick H.ord hT⟩, grow_self, hk⟩⟩

/-- A reply, with its reasons in new memory. -/
structure RepAt (F : Nat → Prop) (w w' : World) (r : Rep) (oo : Option Addr) (oc : Nat) : Prop where
  rsn : w'.ownsRow 0 103 2 (.slice oo r.reasons.length oc) r.reasons.length (r.reasons.flatMap rsnRow)
  rnew : ∀ b, (Value.slice oo r.reasons.length oc).ownBlock = some b → w.heap.size ≤ b ∧ ¬ F b

theorem RepAt.none (F : Nat → Prop) (w w' : World) (e : Int) : RepAt F w w' (repE e) none 0 := ⟨World.ownsRow_nil _ _ _ _, fun b h => by simp [Value.ownBlock] at h⟩

theorem spec_sched (B : BSt F w Y a) (p : PodD) (hok : p.ok w) :
    Calls Try.prog 33 #[.pointer (some ⟨Y, 0, none⟩), .agg p.cells] w fun e w' => ∃ F' oo oc, e = .returned (repV (a.sched p.name p.val).1 oo oc) ∧ Left F w Y (a.sched p.name p.val).2 F' w' ∧ RepAt F' w w' (a.sched p.name p.val).1 oo oc := by
  have B0 := B
  obtain ⟨hd, g, H, S, rfl⟩ := B
  have hse : (absOf hd g).schedErr p.name p.val = if p.err ≠ 0 then p.err else g.admits (ky p.name) := by
    unfold Abs.schedErr
    rw [← err_val, ← admits_abs]
  by_cases h0 : p.err = 0
  · rw [if_neg (by simp [h0])] at hse
    by_cases h1 : g.admits (ky p.name) = 0
    · rw [h1] at hse
      by_cases h2 : (chooseA g.nodes g.pods p.val).err = 0
      · have hs : (absOf hd g).sched p.name p.val = ({ chooseA g.nodes g.pods p.val with fresh := g.FF.length }, ({ absOf hd g with F := [] } : Abs).lay (ky p.name) (p.val.lies (chooseA g.nodes g.pods p.val).node false hd.now)) := by
          unfold Abs.sched
          rw [if_neg (by simp [hse])]
          show (_, if (chooseA g.nodes g.pods p.val).err = 0 then _ else _) = _
          rw [if_pos h2]
          rfl
        rw [hs]
        refine (sched_ok H S p hok h0 h1 h2).mono ?_
        rintro e w' ⟨oo, oc, F', G, q, he, T, e1, e2, e3⟩
        refine ⟨F', oo, oc, he, ⟨⟨hd, _, T.mem, T.sound, ?_⟩, T.less, T.kept⟩, T.rsn, T.rnew⟩
        refine (abs_lay (g := { G with FF := [] }) (x := p.lies (chooseA g.nodes g.pods p.val).node false hd.now) _ _).trans ?_
        have : absOf hd { G with FF := [] } = { absOf hd g with F := [] } := by
          unfold absOf Gh.nodes Gh.pods
          dsimp only
          rw [e1, e2, e3]
        rw [this]
        rfl
      · have hs : (absOf hd g).sched p.name p.val = ({ chooseA g.nodes g.pods p.val with fresh := g.FF.length }, { absOf hd g with F := [] }) := by
          unfold Abs.sched
          rw [if_neg (by simp [hse])]
          show (_, if (chooseA g.nodes g.pods p.val).err = 0 then _ else _) = _
          rw [if_neg h2]
          rfl
        rw [hs]
        refine (sched_fit H S p hok h0 h1 h2).mono ?_
        rintro e w' ⟨oo, oc, F', G, he, T, e1, e2, e3, e4⟩
        refine ⟨F', oo, oc, he, ⟨⟨hd, _, T.mem, T.sound, ?_⟩, T.less, T.kept⟩, T.rsn, T.rnew⟩
        unfold absOf Gh.nodes Gh.pods
        rw [e1, e2, e3, e4]
    · have hs : (absOf hd g).sched p.name p.val = (repE (g.admits (ky p.name)), absOf hd g) := by
        unfold Abs.sched
        rw [if_pos (by rw [hse]; exact h1), hse]
        rfl
      rw [hs]
      refine (sched_adm H p hok h0 h1).mono ?_
      rintro e w' ⟨he, hb⟩
      exact ⟨F, none, 0, he, Left.of_below B0 hb, RepAt.none _ _ _ _⟩
  · rw [if_pos h0] at hse
    have hs : (absOf hd g).sched p.name p.val = (repE p.err, absOf hd g) := by
      unfold Abs.sched
      rw [if_pos (by rw [hse]; exact h0), hse]
      rfl
    rw [hs]
    refine (sched_bad p hok h0).mono ?_
    rintro e w' ⟨he, hb⟩
    exact ⟨F, none, 0, he, Left.of_below B0 hb, RepAt.none _ _ _ _⟩

/-! ### State -/
def useRowA (P : List (Bytes × LiesV)) (k : Bytes) : List Value := [.string (bs k), .int .i64 (usedOf P k).1, .int .i64 (usedOf P k).2.1, .int .i64 (usedOf P k).2.2, .int .i64 (cntOf P k)]
def liesRowA (p : Bytes × LiesV) : List Value := [.string (bs p.1), .string (bs p.2.node), .bool p.2.bound, .int .i64 p.2.since]

/-- A state, with its lists in new memory. -/
structure StAt (w w' : World) (a : Abs) (a1 : Option Addr) (c1 : Nat) (a2 : Option Addr) (c2 : Nat) : Prop where
  us : w'.ownsRow 0 76 5 (.slice a1 a.N.length c1) a.N.length (a.N.flatMap fun p => useRowA a.P p.1)
  ls : w'.ownsRow 0 80 4 (.slice a2 a.P.length c2) a.P.length (a.P.flatMap liesRowA)
  unew : ∀ b, (Value.slice a1 a.N.length c1).ownBlock = some b → w.heap.size ≤ b
  lnew : ∀ b, (Value.slice a2 a.P.length c2).ownBlock = some b → w.heap.size ≤ b

def stV (a : Abs) (a1 : Option Addr) (c1 : Nat) (a2 : Option Addr) (c2 : Nat) : Value := .agg #[.int .i64 a.now, .slice a1 a.N.length c1, .slice a2 a.P.length c2, .int .i64 a.W.length]

theorem spec_state (B : BSt F w Y a) :
    Calls Try.prog 25 #[.pointer (some ⟨Y, 0, none⟩)] w fun e w' => ∃ a1 c1 a2 c2, e = .returned (stV a a1 c1 a2 c2) ∧ StAt w w' a a1 c1 a2 c2 ∧ Below w.heap.size w w' := by
  obtain ⟨hd, g, H, S, rfl⟩ := B
  have hf := H.fineA S
  refine (pState_any H S.b.small (by have := S.b.nn; omega) (fun p hp => by have := S.b.nk p hp; unfold maxLen; omega) (fun p hp => by have := (S.b.pk p hp).1; unfold maxLen; omega) (fun p hp => by have := S.b.node_len (S.b.pk p hp).2.1; unfold maxLen; omega)).mono ?_
  rintro e w' ⟨a1, c1, a2, c2, he, h1, h2, h3, h4, hb⟩
  have n1 : (absOf hd g).N.length = g.NN.length := len_nodes g
  have n2 : (absOf hd g).P.length = g.PP.length := len_pods g
  have n3 : (absOf hd g).W.length = g.WW.length := by show (g.WW.map _).length = _; rw [List.length_map]
  have e1 : (absOf hd g).N.flatMap (fun p => useRowA (absOf hd g).P p.1) = g.NN.flatMap fun p => useRow g p.1 := by
    show (g.NN.map _).flatMap _ = _
    rw [List.flatMap_map]
    rfl
  have e2 : (absOf hd g).P.flatMap liesRowA = g.PP.flatMap liesRow := by
    show (g.PP.map _).flatMap _ = _
    rw [List.flatMap_map]
    rfl
  refine ⟨a1, c1, a2, c2, ?_, ⟨?_, ?_, ?_, ?_⟩, hb⟩
  · rw [he]
    unfold stV
    rw [n1, n2, n3]
    rfl
  · rw [n1, e1]; exact h1
  · rw [n2, e2]; exact h2
  · rw [n1]; exact h3
  · rw [n2]; exact h4

end

end Go.Proofs.Ytchddaafibjmgaa
