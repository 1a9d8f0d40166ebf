/-
  The zone that labels tell.
  'copy' of rows whose elements take several cells.
  The program's Berth as it lies in memory: maps of nodes, of pods, and what is remembered.
-/
import Derived.Test.YtchddaafibjmgaaQA1
import Derived.Test.YtchddaafibjmgaaQCheckP
import Derived.Test.YtchddaafibjmgaaQA2
namespace Go.Proofs.Ytchddaafibjmgaa

def zoneB : ByteArray := ⟨#[122, 111, 110, 101]⟩
theorem zoneB_list : zoneB.toList = [122, 111, 110, 101] := by rw [ByteArray.toList_eq]; rfl

/-- The zone that labels tell; none: the empty text. -/
def zoneOf : List Lab → ByteArray
  | [] => ⟨#[]⟩
  | x :: L => if x.1.toList == zoneB.toList then x.2 else zoneOf L

theorem zoneOf_drop (L : List Lab) (k : Nat) (hk : k < L.length) : zoneOf (L.drop k) = if (labAt L k).1.toList == zoneB.toList then (labAt L k).2 else zoneOf (L.drop (k + 1)) := by
  rw [List.drop_eq_getElem_cons hk, zoneOf]
  unfold labAt
  rw [List.getElem?_eq_getElem hk]
  rfl

end Go.Proofs.Ytchddaafibjmgaa

namespace Go.Proofs.Ytchddaafibjmgaa
open Go.RowKit

def setL (cur : Array Value) : Nat → List Value → Array Value
  | _, [] => cur
  | o, v :: r => setL (cur.setIfInBounds o v) (o + 1) r

theorem setL_size : ∀ (cs : List Value) (cur : Array Value) (o : Nat), (setL cur o cs).size = cur.size
  | [], _, _ => rfl
  | v :: r, cur, o => by rw [setL, setL_size r]; simp

theorem block_setCells {b : Nat} {t : TypeId} {fr : Nat × Nat} : ∀ (cs : List Value) (o : Nat) {w : World} {cur : Array Value}, w.heap[b]? = some (.cells cur t fr) → (w.setCells b o cs).heap[b]? = some (.cells (setL cur o cs) t fr)
  | [], _, _, _, h => h
  | _ :: r, o, _, _, h => block_setCells r (o + 1) (block_setCell h _)

theorem size_setCells {b : Nat} : ∀ (cs : List Value) (o : Nat) (w : World), (w.setCells b o cs).heap.size = w.heap.size
  | [], _, _ => rfl
  | v :: r, o, w => by rw [World.setCells, size_setCells r, size_setCell]

theorem Kept.setCells {F : Nat → Prop} {a : World} {b : Nat} (hp : b < a.heap.size → F b) : ∀ (cs : List Value) (o : Nat) {w : World}, Kept F a w → Kept F a (w.setCells b o cs)
  | [], _, _, h => h
  | v :: r, o, _, h => Kept.setCells hp r (o + 1) (h.setCell (p := ⟨b, o, none⟩) hp v)

theorem below_setCells {B : Nat} {a : World} {b : Nat} (hp : B ≤ b) : ∀ (cs : List Value) (o : Nat) {w : World}, Below B a w → Below B a (w.setCells b o cs)
  | [], _, _, h => h
  | v :: r, o, _, h => below_setCells hp r (o + 1) (h.setCell (p := ⟨b, o, none⟩) hp v)

section
variable {P : Program} (w : World)

theorem run_copy_sized (dT sT ty elem : TypeId) (b o dLen dCap : Nat) (a : Addr) (sLen sCap : Nat) (cs : List Value) (size n : Nat)
    (hu : P.underlying dT = some (.slice elem)) (hs : (P.info? elem).map (·.size) = some size) (hn : Nat.min sLen dLen = n) (hl : cs.length = n * size)
    (hsrc : ∀ j v, cs[j]? = some v → w.cell? (a.add j) = some v) (hc : ∀ j, j < cs.length → (w.cell? ⟨b, o + j, none⟩).isSome = true) (hf : ∀ j, j < cs.length → w.frozen? ⟨b, o + j, none⟩ = false) (h1 : ∀ v ∈ cs, v.oneCell' = true) :
    (Builtin.copy_ #[dT, sT] ty #[.slice (some ⟨b, o, none⟩) dLen dCap, .slice (some a) sLen sCap]).run P w = .ok (.int .i64 n) (w.setCells b o cs) := by
  have hld := run_loadCells_list (P := P) w a cs hsrc
  have hst := run_storeCells_cells (P := P) b o cs 0 w (by simpa using hc) (by simpa using hf) h1
  cases hq : P.info? elem with
  | none => simp [hq] at hs
  | some i =>
    have hi : i.size = size := by simpa [hq] using hs
    have e : ∀ m, m = n * size → (loadCells a m).run P w = .ok cs.toArray w := fun m hm => by rw [hm, ← hl]; exact hld
    simp only [Nat.add_zero] at hst
    simp [Builtin.copy_, run_underlying hu, Builtin.lenOf, Builtin.firstCells, sizeOf, typeInfo, hq, hi, hn, e, hst, goInt]

theorem run_copy_zero (dT sT ty elem : TypeId) (d a : Option Addr) (dLen dCap sLen sCap : Nat) (hu : P.underlying dT = some (.slice elem)) (i : TypeInfo) (hi : P.info? elem = some i) (hn : Nat.min sLen dLen = 0) :
    (Builtin.copy_ #[dT, sT] ty #[.slice d dLen dCap, .slice a sLen sCap]).run P w = .ok (.int .i64 0) w := by
  have hl : ∀ (x : Addr), (loadCells x 0).run P w = .ok #[] w := fun x => by simpa using run_loadCells_list (P := P) w x [] (by simp)
  cases d <;> cases a <;> simp [Builtin.copy_, run_underlying hu, Builtin.lenOf, Builtin.firstCells, sizeOf, typeInfo, hi, hn, storeCells, hl, goInt]

theorem wpList_copy_sized {ops : Array Oper} {rest : List Oper} {q : Oper} {ac : Act} {Q : Exit → Act → World → Prop} (hgd : q.guard = none) (d s : Operand) (dT sT : TypeId)
    (hop : q.op = .call { callee := .builtin .copy, args := #[d, s], argTypes := #[dT, sT] })
    (elem : TypeId) (b o dLen dCap : Nat) (a : Addr) (sLen sCap : Nat) (cs : List Value) (size n : Nat) (hd : ac.eval d = .slice (some ⟨b, o, none⟩) dLen dCap) (hsv : ac.eval s = .slice (some a) sLen sCap)
    (hu : P.underlying dT = some (.slice elem)) (hs : (P.info? elem).map (·.size) = some size) (hn : Nat.min sLen dLen = n) (hl : cs.length = n * size)
    (hsrc : ∀ j v, cs[j]? = some v → w.cell? (a.add j) = some v) (hc : ∀ j, j < cs.length → (w.cell? ⟨b, o + j, none⟩).isSome = true) (hf : ∀ j, j < cs.length → w.frozen? ⟨b, o + j, none⟩ = false) (h1 : ∀ v ∈ cs, v.oneCell' = true)
    (h : wpList P ops Q rest (ac.put q.dst (.int .i64 n)) (w.setCells b o cs)) : wpList P ops Q (q :: rest) ac w := by
  refine wpList_plain hgd fun K hK' => ?_
  have hr := run_copy_sized (P := P) w dT sT q.type elem b o dLen dCap a sLen sCap cs size n hu hs hn hl hsrc hc hf h1
  unfold Oper.wp
  simp [execOp, hop, resolve, invoke, builtin, hd, hsv, hr, Result.andThen]
  exact hK' _ _ h

theorem wpList_copy_zero {ops : Array Oper} {rest : List Oper} {q : Oper} {ac : Act} {Q : Exit → Act → World → Prop} (hgd : q.guard = none) (d s : Operand) (dT sT : TypeId)
    (hop : q.op = .call { callee := .builtin .copy, args := #[d, s], argTypes := #[dT, sT] })
    (elem : TypeId) (da a : Option Addr) (dLen dCap sLen sCap : Nat) (hd : ac.eval d = .slice da dLen dCap) (hsv : ac.eval s = .slice a sLen sCap)
    (hu : P.underlying dT = some (.slice elem)) (i : TypeInfo) (hi : P.info? elem = some i) (hn : Nat.min sLen dLen = 0)
    (h : wpList P ops Q rest (ac.put q.dst (.int .i64 0)) w) : wpList P ops Q (q :: rest) ac w := by
  refine wpList_plain hgd fun K hK' => ?_
  have hr := run_copy_zero (P := P) w dT sT q.type elem da a dLen dCap sLen sCap hu i hi hn
  unfold Oper.wp
  simp [execOp, hop, resolve, invoke, builtin, hd, hsv, hr, Result.andThen]
  exact hK' _ _ h

end

end Go.Proofs.Ytchddaafibjmgaa

namespace Go.Proofs.Ytchddaafibjmgaa
open Go.RowKit Go.Maps

/-! ### names as keys -/
def ky (s : ByteArray) : Bytes := s.data.toList
def bs (k : Bytes) : ByteArray := ⟨k.toArray⟩
theorem bs_ky (s : ByteArray) : bs (ky s) = s := by cases s; simp [bs, ky]
theorem ky_bs (k : Bytes) : ky (bs k) = k := by simp [bs, ky]
theorem toList_bs (k : Bytes) : (bs k).toList = k := ByteArray.toList_mk k
theorem toList_ky (s : ByteArray) : s.toList = ky s := ByteArray.toList_eq s
theorem ky_inj {s t : ByteArray} (h : ky s = ky t) : s = t := by rw [← bs_ky s, ← bs_ky t, h]
theorem bs_size (k : Bytes) : (bs k).size = k.length := by show k.toArray.size = k.length; rw [List.size_toArray]
theorem ky_length (s : ByteArray) : (ky s).length = s.size := by show s.data.toList.length = _; rw [Array.length_toList]; rfl

theorem strK : Keyed Try.prog 9 := string_keyed Try.underlying9
theorem keyS (s : ByteArray) (h : s.size ≤ maxLen) : keyOf Try.prog 9 (.string s) = some (.string (ky s)) := WideMaps.keyOf_string_mk Try.underlying9 h
theorem keyS_inv {key : Value} {kl : Bytes} (h : keyOf Try.prog 9 key = some (.string kl)) : key = .string (bs kl) ∧ kl.length ≤ maxLen := by
  have hu := Try.underlying9
  cases key <;> simp [keyOf, hu, mapKey] at h
  obtain ⟨h1, h2⟩ := h
  subst h2
  exact ⟨congrArg Value.string (bs_ky _).symm, by rw [Array.length_toList]; exact h1⟩

/-! ### lists with ghosts -/
def mapV {α β : Type} (f : α → β) (L : List (Bytes × α)) : List (Bytes × β) := L.map fun p => (p.1, f p.2)

section
variable {α β γ : Type}

theorem mapV_length (f : α → β) (L : List (Bytes × α)) : (mapV f L).length = L.length := by simp [mapV]

theorem mapV_keys (f : α → β) (L : List (Bytes × α)) : (mapV f L).map (·.1) = L.map (·.1) := by simp [mapV]

theorem mapV_mapV (f : α → β) (g : β → γ) (L : List (Bytes × α)) : mapV g (mapV f L) = mapV (fun x => g (f x)) L := by simp [mapV]

theorem getL_mapV (f : α → β) (L : List (Bytes × α)) (k : Bytes) : getL (mapV f L) k = (getL L k).map f := by
  induction L with
  | nil => rfl
  | cons p r ih =>
    unfold mapV at ih ⊢
    simp only [List.map_cons, getL, ih]
    cases (p.1 == k) <;> simp

theorem delL_mapV (f : α → β) (L : List (Bytes × α)) (k : Bytes) : delL (mapV f L) k = mapV f (delL L k) := by
  unfold delL mapV
  rw [List.filter_map]
  rfl

theorem insL_mapV (f : α → β) (k : Bytes) (v : α) (L : List (Bytes × α)) : insL (k, f v) (mapV f L) = mapV f (insL (k, v) L) := by
  induction L with
  | nil => rfl
  | cons p r ih =>
    unfold mapV at ih ⊢
    simp only [List.map_cons, insL]
    split
    · simp
    · simp [ih]

theorem putL_mapV (f : α → β) (L : List (Bytes × α)) (k : Bytes) (v : α) : putL (mapV f L) k (f v) = mapV f (putL L k v) := by
  unfold putL
  rw [delL_mapV, insL_mapV]

theorem sortedL_mapV {f : α → β} {L : List (Bytes × α)} : SortedL (mapV f L) ↔ SortedL L := by
  unfold SortedL mapV
  rw [List.pairwise_map]

theorem mem_mapV {f : α → β} {L : List (Bytes × α)} {q : Bytes × β} : q ∈ mapV f L ↔ ∃ p ∈ L, q = (p.1, f p.2) := by
  unfold mapV
  rw [List.mem_map]
  constructor
  · rintro ⟨p, h1, h2⟩; exact ⟨p, h1, h2.symm⟩
  · rintro ⟨p, h1, h2⟩; exact ⟨p, h1, h2.symm⟩

end

/-! ### what is there -/
structure NodeV where
  r0 : Int
  r1 : Int
  r2 : Int
  labels : List Lab
  taints : List Lab

structure LiesV where
  n0 : Int
  n1 : Int
  n2 : Int
  port : Int
  labels : List Lab
  apart : List Lab
  node : Bytes
  bound : Bool
  since : Int

/-- What a Berth is told of itself, and the time. -/
structure Head where
  hold : Int
  rem : Bool
  whole : Bool
  now : Int

/-- A view of a node: what is used, and where the pods' boxes lie. -/
structure ViewG where
  u0 : Int
  u1 : Int
  u2 : Int
  row : Value
  ptrs : List Nat

/-- All that lies in memory, with the places. -/
structure Gh where
  bn : Nat
  bp : Nat
  bf : Nat
  bv : Nat
  ba : Nat
  NN : List (Bytes × (Value × NodeV))
  PP : List (Bytes × (Nat × LiesV))
  FF : List (Bytes × Unit)
  VV : List (Bytes × ViewG)
  AA : List (Bytes × (Nat × List (Bytes × (Int × Int))))
  bc : Nat
  WW : List PodD

def Gh.nodes (g : Gh) : List (Bytes × NodeV) := mapV (·.2) g.NN
def Gh.pods (g : Gh) : List (Bytes × LiesV) := mapV (·.2) g.PP

def ptrV (q : Nat) : Value := .pointer (some ⟨q, 0, none⟩)
def ansV (a : Int × Int) : Value := .agg #[.int .i64 a.1, .int .i64 a.2]
def ViewG.val (v : ViewG) : Value := .agg #[.int .i64 v.u0, .int .i64 v.u1, .int .i64 v.u2, v.row]
def boolI (b : Bool) : Int := if b then 1 else 0

/-- A list of labels that the program has for itself. -/
def OwnList (F : Nat → Prop) (w : World) (v : Value) (l : List Lab) : Prop :=
  ∃ b cap cur, v = .slice (some ⟨b, 0, none⟩) l.length cap ∧ F b ∧ w.heap[b]? = some (.cells cur 51 (0, 0)) ∧ (Lst.mk (some ⟨b, 0, none⟩) l cap).ok w

def NodeAt (F : Nat → Prop) (w : World) (v : Value) (n : NodeV) : Prop := ∃ lv tv, v = .agg #[.int .i64 n.r0, .int .i64 n.r1, .int .i64 n.r2, lv, tv] ∧ OwnList F w lv n.labels ∧ OwnList F w tv n.taints

def podCells (x : LiesV) (lv av : Value) : Array Value := #[.int .i64 x.n0, .int .i64 x.n1, .int .i64 x.n2, .int .i64 x.port, lv, av, .string (bs x.node), .int .i64 (boolI x.bound), .int .i64 x.since]
def PodAt (F : Nat → Prop) (w : World) (q : Nat) (x : LiesV) : Prop := ∃ lv av, w.heap[q]? = some (.cells (podCells x lv av) 120 (0, 0)) ∧ F q ∧ OwnList F w lv x.labels ∧ OwnList F w av x.apart

def RowAt (F : Nat → Prop) (w : World) (v : ViewG) : Prop := w.ownsRow 0 117 1 v.row v.ptrs.length (v.ptrs.map ptrV) ∧ ∀ k, v.row.ownBlock = some k → F k

def boxCells (hd : Head) (g : Gh) : Array Value := #[.int .i64 hd.hold, .bool hd.rem, .bool hd.whole, .int .i64 hd.now, .map (some g.bn), .map (some g.bp), .map (some g.bf), .map (some g.bv), .map (some g.ba), .chan (some g.bc)]

/-- A pod that waits, with lists of the program's own. -/
def WaitAt (F : Nat → Prop) (w : World) (p : PodD) : Prop := p.good = true ∧ p.name.size ≤ 9223372036854775807 ∧ ∀ x ∈ p.lists, OwnList F w x.val x.L

/-- The channel of those that wait. -/
structure ChanAt (F : Nat → Prop) (w : World) (b : Nat) (W : List PodD) : Prop where
  fb : F b
  ob : ∃ s r, w.heap[b]? = some (.chan 128 (W.map fun p => Value.agg p.cells).toArray false s r false)
  le : W.length ≤ 128
  ps : ∀ p ∈ W, WaitAt F w p

/-- The blocks that are maps. -/
def Gh.maps (g : Gh) : List Nat := [g.bn, g.bp, g.bf, g.bv, g.ba] ++ g.AA.map (·.2.1)

/-- The program's Berth, as it lies in memory. F: its blocks. -/
structure BMem (F : Nat → Prop) (w : World) (Y : Nat) (hd : Head) (g : Gh) : Prop where
  lt : ∀ b, F b → b < w.heap.size
  fy : F Y
  fm : ∀ b ∈ g.maps, F b
  box : w.heap[Y]? = some (.cells (boxCells hd g) 113 (0, 0))
  nd : MapAt Try.prog w 9 g.bn (mapV (·.1) g.NN)
  pd : MapAt Try.prog w 9 g.bp (mapV (fun x => ptrV x.1) g.PP)
  fr : MapAt Try.prog w 9 g.bf (mapV (fun _ => .agg #[]) g.FF)
  vw : MapAt Try.prog w 9 g.bv (mapV ViewG.val g.VV)
  an : MapAt Try.prog w 152 g.ba (mapV (fun x => .map (some x.1)) g.AA)
  nn : ∀ p ∈ g.NN, NodeAt F w p.2.1 p.2.2
  pp : ∀ p ∈ g.PP, PodAt F w p.2.1 p.2.2
  vv : ∀ p ∈ g.VV, RowAt F w p.2
  aa : ∀ p ∈ g.AA, MapAt Try.prog w 9 p.2.1 (mapV ansV p.2.2)
  dist : g.maps.Nodup
  ppd : (g.PP.map (·.2.1)).Nodup
  ch : ChanAt F w g.bc g.WW

/-! ### what stays -/
/-- No block of G is a row of type t. -/
def Off (t : TypeId) (G : Nat → Prop) (w : World) : Prop := ∀ b c, G b → w.heap[b]? ≠ some (.cells c t (0, 0))

theorem Off.map {w : World} {b : Nat} (t : TypeId) (h : ∃ es c, w.heap[b]? = some (.map es c)) : Off t (fun x => x = b) w := by
  rintro x c rfl e
  obtain ⟨es, c', h⟩ := h
  rw [h] at e
  cases e

theorem Off.cells {w : World} {b : Nat} {t t' : TypeId} {c : Array Value} {fr : Nat × Nat} (h : w.heap[b]? = some (.cells c t' fr)) (hne : t' ≠ t) : Off t (fun x => x = b) w := by
  rintro x c' rfl e
  rw [h] at e
  simp only [Option.some.injEq, Obj.cells.injEq] at e
  exact hne e.2.1

theorem LabsAt.kept {G : Nat → Prop} {w w' : World} {a : Option Addr} {L : List Lab} (h : LabsAt w a L) (hk : Kept G w w') (hG : ∀ q, a = some q → ¬ G q.block) : LabsAt w' a L := by
  intro k hk'
  obtain ⟨b, off, e, h1, h2⟩ := h k hk'
  have hl := World.block_lt_of_cell? w _ h1
  refine ⟨b, off, e, ?_, ?_⟩
  · rw [← h1]; exact hk.cell (p := ⟨b, off + k * 2, none⟩) hl (hG ⟨b, off, none⟩ e)
  · rw [← h2]; exact hk.cell (p := ⟨b, off + k * 2 + 1, none⟩) hl (hG ⟨b, off, none⟩ e)

theorem Lst.ok.kept {G : Nat → Prop} {w w' : World} {x : Lst} (h : x.ok w) (hk : Kept G w w') (hG : ∀ q, x.a = some q → ¬ G q.block) : x.ok w' := ⟨h.1, h.2.1, h.2.2.1.kept hk hG, h.2.2.2⟩

section
variable {F F' G : Nat → Prop} {w w' : World}

theorem OwnList.kept {v : Value} {l : List Lab} (h : OwnList F w v l) (hk : Kept G w w') (hG : Off 51 G w) (hF : ∀ b, F b → F' b) : OwnList F' w' v l := by
  obtain ⟨b, cap, cur, rfl, h1, h2, h3⟩ := h
  have hb : ¬ G b := fun g => hG b cur g h2
  refine ⟨b, cap, cur, rfl, hF _ h1, by rw [hk.block b (lt_of_block h2) hb]; exact h2, h3.kept hk ?_⟩
  intro q e
  simp only [Option.some.injEq] at e
  subst e
  exact hb

theorem ChanAt.kept {b : Nat} {W : List PodD} (h : ChanAt F w b W) (hk : Kept G w w') (hb : ¬ G b) (hG : Off 51 G w) (hF : ∀ b, F b → F' b) : ChanAt F' w' b W := by
  obtain ⟨s, r, ho⟩ := h.ob
  exact ⟨hF _ h.fb, ⟨s, r, by rw [hk.block b (lt_of_block ho) hb]; exact ho⟩, h.le, fun p hp => ⟨(h.ps p hp).1, (h.ps p hp).2.1, fun x hx => ((h.ps p hp).2.2 x hx).kept hk hG hF⟩⟩

theorem ChanAt.nmap {b x : Nat} {W : List PodD} (h : ChanAt F w b W) (hx : ∃ es c, w.heap[x]? = some (.map es c)) : b ≠ x := by
  rintro rfl
  obtain ⟨s, r, ho⟩ := h.ob
  obtain ⟨es, c, hx⟩ := hx
  rw [ho] at hx
  cases hx

theorem ChanAt.ncells {b x : Nat} {W : List PodD} {cs : Array Value} {t : TypeId} {f : Nat × Nat} (h : ChanAt F w b W) (hx : w.heap[x]? = some (.cells cs t f)) : b ≠ x := by
  rintro rfl
  obtain ⟨s, r, ho⟩ := h.ob
  rw [ho] at hx
  cases hx

theorem NodeAt.kept {v : Value} {n : NodeV} (h : NodeAt F w v n) (hk : Kept G w w') (hG : Off 51 G w) (hF : ∀ b, F b → F' b) : NodeAt F' w' v n := by
  obtain ⟨lv, tv, rfl, h1, h2⟩ := h
  exact ⟨lv, tv, rfl, h1.kept hk hG hF, h2.kept hk hG hF⟩

theorem PodAt.kept {q : Nat} {x : LiesV} (h : PodAt F w q x) (hk : Kept G w w') (hG : Off 51 G w) (hP : ¬ G q) (hF : ∀ b, F b → F' b) : PodAt F' w' q x := by
  obtain ⟨lv, av, h1, h2, h3, h4⟩ := h
  exact ⟨lv, av, by rw [hk.block q (lt_of_block h1) hP]; exact h1, hF _ h2, h3.kept hk hG hF, h4.kept hk hG hF⟩

theorem PodAt.off {q : Nat} {x : LiesV} (h : PodAt F w q x) (hG : Off 120 G w) : ¬ G q := by
  obtain ⟨lv, av, h1, _⟩ := h
  exact fun g => hG q _ g h1

theorem RowAt.kept {v : ViewG} (h : RowAt F w v) (hk : Kept G w w') (hG : Off 117 G w) (hF : ∀ b, F b → F' b) : RowAt F' w' v := by
  refine ⟨hk.ownsRow h.1 fun k e g => ?_, fun k e => hF _ (h.2 k e)⟩
  rcases h.1.2 with ⟨hn, _⟩ | ⟨b, cap, cur, hv, _, hb, _⟩
  · rw [hn] at e
    simp [Value.ownBlock] at e
  · rw [hv] at e
    simp [Value.ownBlock] at e
    subst e
    exact hG _ cur g hb

variable {Y : Nat} {hd : Head} {g : Gh}

theorem BMem.isMap (H : BMem F w Y hd g) {b : Nat} (hb : b ∈ g.maps) : ∃ es c, w.heap[b]? = some (.map es c) := by
  unfold Gh.maps at hb
  simp only [List.cons_append, List.nil_append, List.mem_cons, List.mem_map] at hb
  rcases hb with rfl | rfl | rfl | rfl | rfl | ⟨p, hp, rfl⟩
  · exact H.nd.isMap
  · exact H.pd.isMap
  · exact H.fr.isMap
  · exact H.vw.isMap
  · exact H.an.isMap
  · exact (H.aa p hp).isMap

/-- Nothing of it has turned. -/
theorem BMem.kept (H : BMem F w Y hd g) (hk : Kept G w w') (hG : ∀ b, F b → ¬ G b) (hF : ∀ b, F b → F' b) (hl : ∀ b, F' b → b < w'.heap.size) : BMem F' w' Y hd g := by
  have hm : ∀ b ∈ g.maps, ¬ G b := fun b hb => hG b (H.fm b hb)
  have oL : ∀ {v : Value} {l : List Lab}, OwnList F w v l → OwnList F' w' v l := fun {v l} h => by
    obtain ⟨b, cap, cur, rfl, h1, h2, h3⟩ := h
    refine ⟨b, cap, cur, rfl, hF _ h1, by rw [hk.block b (lt_of_block h2) (hG b h1)]; exact h2, h3.kept hk ?_⟩
    intro q e
    simp only [Option.some.injEq] at e
    subst e
    exact hG b h1
  refine ⟨hl, hF _ H.fy, fun b hb => hF _ (H.fm b hb), by rw [hk.block Y (lt_of_block H.box) (hG Y H.fy)]; exact H.box, H.nd.kept hk (hm _ (by simp [Gh.maps])), H.pd.kept hk (hm _ (by simp [Gh.maps])), H.fr.kept hk (hm _ (by simp [Gh.maps])),
    H.vw.kept hk (hm _ (by simp [Gh.maps])), H.an.kept hk (hm _ (by simp [Gh.maps])), fun p hp => ?_, fun p hp => ?_, fun p hp => ?_, fun p hp => (H.aa p hp).kept hk (hm _ (List.mem_append_right _ (List.mem_map.2 ⟨p, hp, rfl⟩))), H.dist, H.ppd, ?_⟩
  · obtain ⟨lv, tv, e, h1, h2⟩ := H.nn p hp
    exact ⟨lv, tv, e, oL h1, oL h2⟩
  · obtain ⟨lv, av, h1, h2, h3, h4⟩ := H.pp p hp
    exact ⟨lv, av, by rw [hk.block _ (lt_of_block h1) (hG _ h2)]; exact h1, hF _ h2, oL h3, oL h4⟩
  · have h := H.vv p hp
    exact ⟨hk.ownsRow h.1 fun k e => hG _ (h.2 k e), fun k e => hF _ (h.2 k e)⟩
  · obtain ⟨s, r, ho⟩ := H.ch.ob
    exact ⟨hF _ H.ch.fb, ⟨s, r, by rw [hk.block _ (lt_of_block ho) (hG _ H.ch.fb)]; exact ho⟩, H.ch.le, fun p hp => ⟨(H.ch.ps p hp).1, (H.ch.ps p hp).2.1, fun x hx => oL ((H.ch.ps p hp).2.2 x hx)⟩⟩

theorem BMem.below (H : BMem F w Y hd g) (hb : Below w.heap.size w w') : BMem F w' Y hd g :=
  H.kept (Kept.of_below (F := noBlock) hb) (fun _ _ => id) (fun _ h => h) fun b hf => Nat.lt_of_lt_of_le (H.lt b hf) hb.size

/-- One map has turned. -/
theorem BMem.off (H : BMem F w Y hd g) {b : Nat} (hb : b ∈ g.maps) (t : TypeId) : Off t (fun x => x = b) w := Off.map t (H.isMap hb)

theorem BMem.ny (H : BMem F w Y hd g) {b : Nat} (hb : b ∈ g.maps) : Y ≠ b := by
  rintro rfl
  obtain ⟨es, c, h⟩ := H.isMap hb
  rw [H.box] at h
  cases h

end

end Go.Proofs.Ytchddaafibjmgaa
