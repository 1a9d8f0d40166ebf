/-
  Names and amounts: the program's tests and the document's, each walked; they say the same.
  Lists of labels: the program's tests and the document's, each walked; they say the same.
-/
import Derived.Test.YtchddaafibjmgaaQA1
import Derived.Deep.RegionHeld3
namespace Go.Proofs.Ytchddaafibjmgaa
open Go.RowKit

/-- A byte of a name. -/
def byteB (c : Int) : Bool := (decide (97 ≤ c) && decide (c ≤ 122)) || (decide (48 ≤ c) && decide (c ≤ 57)) || (c == 45)

theorem ret_bool {a b : Bool} (h : a = b) : Ending.returned (.bool a) = .returned (.bool b) := by rw [h]

set_option maxHeartbeats 400000 in
theorem isNameByte_any (c : Int) (w : World) : Calls Try.prog 56 #[.int .u8 c] w fun e w' => e = .returned (.bool (byteB c)) ∧ w' = w := by
  by_cases h1 : 97 ≤ c
  · by_cases h2 : c ≤ 122
    · have hb : byteB c = true := by simp [byteB, h1, h2]
      rw [hb]
      go_enter Try.func56, Try.ntmps56
      go_wp2
      go_ret
      exact ⟨rfl, rfl⟩
    · have h3 : 48 ≤ c := by omega
      have h4 : ¬ c ≤ 57 := by omega
      have h5 : (c == 45) = false := beq_eq_false_iff_ne.2 (by omega)
      have hb : byteB c = false := by simp [byteB, h2, h4, h5]
      rw [hb]
      go_enter Try.func56, Try.ntmps56
      go_wp2
      go_ret
      exact ⟨rfl, rfl⟩
  · by_cases h3 : 48 ≤ c
    · by_cases h4 : c ≤ 57
      · have hb : byteB c = true := by simp [byteB, h3, h4]
        rw [hb]
        go_enter Try.func56, Try.ntmps56
        go_wp2
        go_ret
        exact ⟨rfl, rfl⟩
      · have h5 : (c == 45) = false := beq_eq_false_iff_ne.2 (by omega)
        have hb : byteB c = false := by simp [byteB, h1, h4, h5]
        rw [hb]
        go_enter Try.func56, Try.ntmps56
        go_wp2
        go_ret
        exact ⟨rfl, rfl⟩
    · have hb : byteB c = (c == 45) := by simp [byteB, h1, h3]
      rw [hb]
      go_enter Try.func56, Try.ntmps56
      go_wp2
      go_ret
      exact ⟨rfl, rfl⟩

/-- All bytes are a name's. -/
def bytesB (l : List UInt8) : Bool := l.all fun c => byteB (c.toNat : Int)
/-- A name. -/
def nameB (s : ByteArray) : Bool := decide (1 ≤ s.size) && decide (s.size ≤ 20) && bytesB s.data.toList

theorem bytes_snoc (s : ByteArray) (k : Nat) (h : k < s.size) : bytesB (s.data.toList.take (k + 1)) = (bytesB (s.data.toList.take k) && byteB (s[k].toNat : Int)) := by
  unfold bytesB
  rw [List.take_succ_eq_append_getElem (by simpa using h), List.all_append]
  simp only [List.all_cons, List.all_nil, Bool.and_true]
  rfl

theorem bytes_bad (s : ByteArray) (k : Nat) (h : k < s.size) (hb : byteB (s[k].toNat : Int) = false) : bytesB s.data.toList = false := by
  unfold bytesB
  rw [List.all_eq_false]
  refine ⟨s[k], ?_, by simp [hb]⟩
  show s.data[k]'_ ∈ s.data.toList
  exact Array.getElem_mem_toList _

set_option maxHeartbeats 400000 in
theorem isName_any (s : ByteArray) (w : World) (hs : s.size ≤ 9223372036854775807) : Calls Try.prog 36 #[.string s] w fun e w' => e = .returned (.bool (nameB s)) ∧ w' = w := by
  by_cases h1 : 1 ≤ s.size
  · by_cases h2 : s.size ≤ 20
    · go_enter Try.func36, Try.ntmps36
      go_wp2
      go_loop [14] (fun i => ∃ k : Nat, k ≤ s.size ∧ i = .int .i64 k ∧ bytesB (s.data.toList.take k) = true) (fun i => s.size - (intOf i).toNat)
      case atStart => exact ⟨0, Nat.zero_le _, rfl, rfl⟩
      case round =>
        obtain ⟨k, hk, rfl, hno⟩ := hrel
        have Hno : Hid (bytesB (s.data.toList.take k) = true) := hno
        clear hno
        by_cases hlt : k < s.size
        · have Hs : Hid (bytesB (s.data.toList.take (k + 1)) = (bytesB (s.data.toList.take k) && byteB (s[k].toNat : Int))) := bytes_snoc s k hlt
          cases hE : byteB (s[k].toNat : Int)
          · have HE : Hid (byteB (s[k].toNat : Int) = false) := hE
            clear hE
            go_wp2_with (go_at_call 56; refine (isNameByte_any _ _).mono ?_; rintro e w' ⟨rfl, rfl⟩; rw [HE.out])
            go_ret
            exact ⟨by unfold nameB; rw [bytes_bad s k hlt HE.out, Bool.and_false]; rfl, rfl⟩
          · have HE : Hid (byteB (s[k].toNat : Int) = true) := hE
            clear hE
            go_wp2_with (go_at_call 56; refine (isNameByte_any _ _).mono ?_; rintro e w' ⟨rfl, rfl⟩; rw [HE.out])
            go_round
            case rel => exact ⟨k + 1, by omega, by go_num, by rw [Hs.out, Hno.out, HE.out]; rfl⟩
            case measure => simp [intOf]; omega
        · go_wp2
          go_ret
          exact ⟨by have h0 := Hno.out; rw [List.take_of_length_le (by simp; omega)] at h0; simp [nameB, h1, h2, h0], rfl⟩
    · go_enter Try.func36, Try.ntmps36
      go_wp2
      go_ret
      exact ⟨by simp [nameB, h2], rfl⟩
  · go_enter Try.func36, Try.ntmps36
    go_wp2
    go_ret
    exact ⟨by simp [nameB]; omega, rfl⟩

set_option maxHeartbeats 400000 in
theorem name_any (s : ByteArray) (w : World) (hs : s.size ≤ 9223372036854775807) : Calls Try.prog 39 #[.string s] w fun e w' => e = .returned (.bool (nameB s)) ∧ w' = w := by
  go_enter Try.func39, Try.ntmps39
  go_wp2
  go_loop [3] (fun i => ∃ k : Nat, k ≤ s.size ∧ i = .int .i64 k ∧ bytesB (s.data.toList.take k) = true) (fun i => s.size - (intOf i).toNat)
  case atStart => exact ⟨0, Nat.zero_le _, rfl, rfl⟩
  case round =>
    obtain ⟨k, hk, rfl, hno⟩ := hrel
    have Hno : Hid (bytesB (s.data.toList.take k) = true) := hno
    clear hno
    by_cases hlt : k < s.size
    · have Hs : Hid (bytesB (s.data.toList.take (k + 1)) = (bytesB (s.data.toList.take k) && byteB (s[k].toNat : Int))) := bytes_snoc s k hlt
      by_cases g0 : (s[k].toNat : Int) = 45
      · have HE : Hid (byteB (s[k].toNat : Int) = true) := by show byteB _ = true; rw [g0]; rfl
        have g0' : ((s[k].toNat : Int) != 45) = false := by simp [g0]
        clear g0
        go_wp2
        go_round
        case rel => exact ⟨k + 1, by omega, by go_num, by rw [Hs.out, Hno.out, HE.out]; rfl⟩
        case measure => simp [intOf]; omega
      · have g0' : ((s[k].toNat : Int) != 45) = true := by simp [g0]
        by_cases g1 : 97 ≤ (s[k].toNat : Int)
        · by_cases g2 : (s[k].toNat : Int) ≤ 122
          · have HE : Hid (byteB (s[k].toNat : Int) = true) := by show byteB _ = true; simp [byteB, g1, g2]
            clear g0
            go_wp2
            go_round
            case rel => exact ⟨k + 1, by omega, by go_num, by rw [Hs.out, Hno.out, HE.out]; rfl⟩
            case measure => simp [intOf]; omega
          · have HE : Hid (byteB (s[k].toNat : Int) = false) := by show byteB _ = false; simp [byteB, g2, g0]; omega
            clear g0
            go_wp2
            go_ret
            exact ⟨by unfold nameB; rw [bytes_bad s k hlt HE.out, Bool.and_false]; rfl, rfl⟩
        · by_cases g3 : 48 ≤ (s[k].toNat : Int)
          · by_cases g4 : (s[k].toNat : Int) ≤ 57
            · have HE : Hid (byteB (s[k].toNat : Int) = true) := by show byteB _ = true; simp [byteB, g3, g4]
              clear g0
              go_wp2
              go_round
              case rel => exact ⟨k + 1, by omega, by go_num, by rw [Hs.out, Hno.out, HE.out]; rfl⟩
              case measure => simp [intOf]; omega
            · have HE : Hid (byteB (s[k].toNat : Int) = false) := by show byteB _ = false; simp [byteB, g1, g4, g0]
              clear g0
              go_wp2
              go_ret
              exact ⟨by unfold nameB; rw [bytes_bad s k hlt HE.out, Bool.and_false]; rfl, rfl⟩
          · have HE : Hid (byteB (s[k].toNat : Int) = false) := by show byteB _ = false; simp [byteB, g1, g3, g0]
            clear g0
            go_wp2
            go_ret
            exact ⟨by unfold nameB; rw [bytes_bad s k hlt HE.out, Bool.and_false]; rfl, rfl⟩
    · have h0 := Hno.out
      rw [List.take_of_length_le (by simp; omega)] at h0
      have H0 : Hid (bytesB s.data.toList = true) := h0
      clear h0
      by_cases h1 : 1 ≤ s.size
      · go_wp2
        go_ret
        exact ⟨by rw [show nameB s = decide ((s.size : Int) ≤ 20) from by unfold nameB; rw [H0.out, Bool.and_true, decide_eq_true h1, Bool.true_and]; exact decide_eq_decide.2 (by omega)]; rfl, rfl⟩
      · go_wp2
        go_ret
        exact ⟨by simp [nameB, H0.out]; omega, rfl⟩

/-- An amount. -/
def amtB (n : Int) : Bool := decide (0 ≤ n) && decide (n ≤ 1099511627776)
def amtsB (a b c : Int) : Bool := amtB a && amtB b && amtB c

set_option maxHeartbeats 400000 in
theorem areAmounts_any (a b c : Int) (w : World) : Calls Try.prog 37 #[.agg #[.int .i64 a, .int .i64 b, .int .i64 c]] w fun e w' => e = .returned (.bool (amtsB a b c)) ∧ Below w.heap.size w w' := by
  have i0 : ∀ w, (Instr.index 30 (.agg #[.int .i64 a, .int .i64 b, .int .i64 c]) (.int .i64 0)).run Try.prog w = .ok (.int .i64 a) w := fun _ => by kernel_rfl
  have i1 : ∀ w, (Instr.index 30 (.agg #[.int .i64 a, .int .i64 b, .int .i64 c]) (.int .i64 1)).run Try.prog w = .ok (.int .i64 b) w := fun _ => by kernel_rfl
  have i2 : ∀ w, (Instr.index 30 (.agg #[.int .i64 a, .int .i64 b, .int .i64 c]) (.int .i64 2)).run Try.prog w = .ok (.int .i64 c) w := fun _ => by kernel_rfl
  go_enter Try.func37, Try.ntmps37
  go_wp2
  go_loop [6] (fun i => ∃ k : Nat, k ≤ 3 ∧ i = .int .i64 k ∧ (0 < k → amtB a = true) ∧ (1 < k → amtB b = true) ∧ (2 < k → amtB c = true)) (fun i => 3 - (intOf i).toNat)
  case atStart => exact ⟨0, by omega, rfl, fun h => absurd h (by omega), fun h => absurd h (by omega), fun h => absurd h (by omega)⟩
  case round =>
    obtain ⟨k, hk, rfl, q1, q2, q3⟩ := hrel
    have hk' : k = 0 ∨ k = 1 ∨ k = 2 ∨ k = 3 := by omega
    clear hk
    rcases hk' with rfl | rfl | rfl | rfl
    · clear q1 q2 q3
      by_cases g1 : 0 ≤ a
      · by_cases g2 : a ≤ 1099511627776
        · have HE : Hid (amtB a = true) := by show amtB _ = true; simp [amtB, g1, g2]
          go_wp2
          go_round
          case rel => exact ⟨1, by omega, rfl, fun _ => HE.out, fun h => absurd h (by omega), fun h => absurd h (by omega)⟩
          case measure => simp [intOf]
        · have HE : Hid (amtB a = false) := by show amtB _ = false; simp [amtB, g2]
          go_wp2
          go_ret
          exact ⟨by unfold amtsB; rw [HE.out]; simp, below_alloc _ _⟩
      · have HE : Hid (amtB a = false) := by show amtB _ = false; simp [amtB, g1]
        go_wp2
        go_ret
        exact ⟨by unfold amtsB; rw [HE.out]; simp, below_alloc _ _⟩
    · have H1 : Hid (amtB a = true) := q1 (by omega)
      clear q1 q2 q3
      by_cases g1 : 0 ≤ b
      · by_cases g2 : b ≤ 1099511627776
        · have HE : Hid (amtB b = true) := by show amtB _ = true; simp [amtB, g1, g2]
          go_wp2
          go_round
          case rel => exact ⟨2, by omega, rfl, fun _ => H1.out, fun _ => HE.out, fun h => absurd h (by omega)⟩
          case measure => simp [intOf]
        · have HE : Hid (amtB b = false) := by show amtB _ = false; simp [amtB, g2]
          go_wp2
          go_ret
          exact ⟨by unfold amtsB; rw [HE.out]; simp, below_alloc _ _⟩
      · have HE : Hid (amtB b = false) := by show amtB _ = false; simp [amtB, g1]
        go_wp2
        go_ret
        exact ⟨by unfold amtsB; rw [HE.out]; simp, below_alloc _ _⟩
    · have H1 : Hid (amtB a = true) := q1 (by omega)
      have H2 : Hid (amtB b = true) := q2 (by omega)
      clear q1 q2 q3
      by_cases g1 : 0 ≤ c
      · by_cases g2 : c ≤ 1099511627776
        · have HE : Hid (amtB c = true) := by show amtB _ = true; simp [amtB, g1, g2]
          go_wp2
          go_round
          case rel => exact ⟨3, by omega, rfl, fun _ => H1.out, fun _ => H2.out, fun _ => HE.out⟩
          case measure => simp [intOf]
        · have HE : Hid (amtB c = false) := by show amtB _ = false; simp [amtB, g2]
          go_wp2
          go_ret
          exact ⟨by unfold amtsB; rw [HE.out]; simp, below_alloc _ _⟩
      · have HE : Hid (amtB c = false) := by show amtB _ = false; simp [amtB, g1]
        go_wp2
        go_ret
        exact ⟨by unfold amtsB; rw [HE.out]; simp, below_alloc _ _⟩
    · have HE : Hid (amtsB a b c = true) := by show amtsB a b c = true; simp [amtsB, q1, q2, q3]
      clear q1 q2 q3
      go_wp2
      go_ret
      exact ⟨by rw [HE.out]; rfl, below_alloc _ _⟩

set_option maxHeartbeats 400000 in
theorem amounts_any (a b c : Int) (w : World) : Calls Try.prog 40 #[.agg #[.int .i64 a, .int .i64 b, .int .i64 c]] w fun e w' => e = .returned (.bool (amtsB a b c)) ∧ Below w.heap.size w w' := by
  go_enter Try.func40, Try.ntmps40
  go_wp2
  go_loop [3] (fun i => ∃ k : Nat, k ≤ 3 ∧ i = .int .i64 k ∧ (0 < k → amtB a = true) ∧ (1 < k → amtB b = true) ∧ (2 < k → amtB c = true)) (fun i => 3 - (intOf i).toNat)
  case atStart => exact ⟨0, by omega, rfl, fun h => absurd h (by omega), fun h => absurd h (by omega), fun h => absurd h (by omega)⟩
  case round =>
    obtain ⟨k, hk, rfl, q1, q2, q3⟩ := hrel
    have hk' : k = 0 ∨ k = 1 ∨ k = 2 ∨ k = 3 := by omega
    clear hk
    rcases hk' with rfl | rfl | rfl | rfl
    · clear q1 q2 q3
      by_cases g1 : 0 ≤ a
      · by_cases g2 : a ≤ 1099511627776
        · have HE : Hid (amtB a = true) := by show amtB _ = true; simp [amtB, g1, g2]
          go_wp2
          go_round
          case rel => exact ⟨1, by omega, rfl, fun _ => HE.out, fun h => absurd h (by omega), fun h => absurd h (by omega)⟩
          case measure => simp [intOf]
        · have HE : Hid (amtB a = false) := by show amtB _ = false; simp [amtB, g2]
          go_wp2
          go_ret
          exact ⟨by unfold amtsB; rw [HE.out]; simp, below_alloc _ _⟩
      · have HE : Hid (amtB a = false) := by show amtB _ = false; simp [amtB, g1]
        go_wp2
        go_ret
        exact ⟨by unfold amtsB; rw [HE.out]; simp, below_alloc _ _⟩
    · have H1 : Hid (amtB a = true) := q1 (by omega)
      clear q1 q2 q3
      by_cases g1 : 0 ≤ b
      · by_cases g2 : b ≤ 1099511627776
        · have HE : Hid (amtB b = true) := by show amtB _ = true; simp [amtB, g1, g2]
          go_wp2
          go_round
          case rel => exact ⟨2, by omega, rfl, fun _ => H1.out, fun _ => HE.out, fun h => absurd h (by omega)⟩
          case measure => simp [intOf]
        · have HE : Hid (amtB b = false) := by show amtB _ = false; simp [amtB, g2]
          go_wp2
          go_ret
          exact ⟨by unfold amtsB; rw [HE.out]; simp, below_alloc _ _⟩
      · have HE : Hid (amtB b = false) := by show amtB _ = false; simp [amtB, g1]
        go_wp2
        go_ret
        exact ⟨by unfold amtsB; rw [HE.out]; simp, below_alloc _ _⟩
    · have H1 : Hid (amtB a = true) := q1 (by omega)
      have H2 : Hid (amtB b = true) := q2 (by omega)
      clear q1 q2 q3
      by_cases g1 : 0 ≤ c
      · by_cases g2 : c ≤ 1099511627776
        · have HE : Hid (amtB c = true) := by show amtB _ = true; simp [amtB, g1, g2]
          go_wp2
          go_round
          case rel => exact ⟨3, by omega, rfl, fun _ => H1.out, fun _ => H2.out, fun _ => HE.out⟩
          case measure => simp [intOf]
        · have HE : Hid (amtB c = false) := by show amtB _ = false; simp [amtB, g2]
          go_wp2
          go_ret
          exact ⟨by unfold amtsB; rw [HE.out]; simp, below_alloc _ _⟩
      · have HE : Hid (amtB c = false) := by show amtB _ = false; simp [amtB, g1]
        go_wp2
        go_ret
        exact ⟨by unfold amtsB; rw [HE.out]; simp, below_alloc _ _⟩
    · have HE : Hid (amtsB a b c = true) := by show amtsB a b c = true; simp [amtsB, q1, q2, q3]
      clear q1 q2 q3
      go_wp2
      go_ret
      exact ⟨by rw [HE.out]; rfl, below_alloc _ _⟩

end Go.Proofs.Ytchddaafibjmgaa

namespace Go.Proofs.Ytchddaafibjmgaa
open Go.RowKit

/-- A key is among those of L. -/
def keyIn (L : List Lab) (key : ByteArray) : Bool := L.any fun x => x.1.toList == key.toList

/-- The k-th label of a list is one, and no label ahead of it has its key. -/
def itemB (L : List Lab) (k : Nat) : Bool := nameB (labAt L k).1 && nameB (labAt L k).2 && !keyIn (L.take k) (labAt L k).1
/-- The first k are. -/
def listTo (L : List Lab) (k : Nat) : Bool := (List.range k).all (itemB L)
/-- A list of labels. -/
def listB (L : List Lab) : Bool := decide (L.length ≤ 8) && listTo L L.length

/-- Strings that a machine holds. -/
def LabsOk (L : List Lab) : Prop := ∀ x ∈ L, x.1.size ≤ 9223372036854775807 ∧ x.2.size ≤ 9223372036854775807

theorem LabsOk.at {L : List Lab} (h : LabsOk L) {k : Nat} (hk : k < L.length) : (labAt L k).1.size ≤ 9223372036854775807 ∧ (labAt L k).2.size ≤ 9223372036854775807 := by
  have : labAt L k ∈ L := by
    unfold labAt
    rw [List.getElem?_eq_getElem hk]
    exact List.getElem_mem hk
  exact h _ this

theorem listTo_succ (L : List Lab) (k : Nat) : listTo L (k + 1) = (listTo L k && itemB L k) := by
  unfold listTo
  rw [List.range_succ, List.all_append]
  simp

theorem listTo_bad (L : List Lab) (k n : Nat) (hk : k < n) (h : itemB L k = false) : listTo L n = false := by
  unfold listTo
  rw [List.all_eq_false]
  exact ⟨k, by simpa using hk, by simp [h]⟩

theorem keyIn_take {L : List Lab} {key : ByteArray} {k : Nat} (hk : k < L.length) : keyIn (L.take (k + 1)) key = (keyIn (L.take k) key || ((labAt L k).1.toList == key.toList)) := by
  unfold keyIn labAt
  rw [List.take_succ_eq_append_getElem hk, List.any_append, List.getElem?_eq_getElem hk]
  simp only [List.any_cons, List.any_nil, Bool.or_false, Option.getD_some]

theorem keyIn_at {L : List Lab} {key : ByteArray} {k : Nat} (hk : k < L.length) (h : ((labAt L k).1.toList == key.toList) = true) : keyIn L key = true := by
  unfold keyIn
  rw [List.any_eq_true]
  refine ⟨labAt L k, ?_, h⟩
  unfold labAt
  rw [List.getElem?_eq_getElem hk]
  exact List.getElem_mem hk

theorem LabsAt.take {w : World} {a : Option Addr} {L : List Lab} (h : LabsAt w a L) (n : Nat) : LabsAt w a (L.take n) := by
  intro k hk
  have hk' : k < L.length := by simp at hk; omega
  have hl : labAt (L.take n) k = labAt L k := by
    unfold labAt
    rw [List.getElem?_take, if_pos (by simp at hk; omega)]
  rw [hl]
  exact h k hk'

set_option maxHeartbeats 400000 in
theorem hasKey_any (L : List Lab) (key : ByteArray) (a : Option Addr) (cap : Nat) (w : World) (hl : L.length ≤ 4398046511104) (h : LabsAt w a L) :
    Calls Try.prog 71 #[.slice a L.length cap, .string key] w fun e w' => e = .returned (.bool (keyIn L key)) ∧ Below w.heap.size w w' := by
  go_enter Try.func71, Try.ntmps71
  go_wp2
  go_loopw [9] (fun i wr => ∃ k : Nat, k ≤ L.length ∧ i = .int .i64 k ∧ Below w.heap.size w wr ∧ keyIn (L.take k) key = false) (fun i _ => L.length - (intOf i).toNat)
  case atStart => exact ⟨0, Nat.zero_le _, rfl, Below.refl _ _, rfl⟩
  case round =>
    obtain ⟨k, hk, rfl, hbw, hno⟩ := hrel
    have Hno : Hid (keyIn (L.take k) key = false) := hno
    clear hno
    by_cases hlt : k < L.length
    · have hr := h.below hbw
      obtain ⟨b, off, rfl, hc⟩ := hr.head (by omega)
      obtain ⟨hc1, hc2⟩ := hc k hlt
      have hb : b < wr.heap.size := World.block_lt_of_cell? wr _ hc1
      have Htk : Hid (keyIn (L.take (k + 1)) key = (keyIn (L.take k) key || ((labAt L k).1.toList == key.toList))) := keyIn_take hlt
      clear hc hr
      cases hE : ((labAt L k).1.toList == key.toList)
      · go_wp2
        go_roundw
        case rel => exact ⟨k + 1, by omega, by go_num, below_trans hbw (below_alloc _ _), by rw [Htk.out, hE, Hno.out]; rfl⟩
        case measure => simp [intOf]; omega
      · go_wp2
        go_ret
        exact ⟨by rw [keyIn_at hlt hE]; rfl, below_trans hbw (below_alloc _ _)⟩
    · go_wp2
      go_ret
      exact ⟨by have h0 := Hno.out; rw [List.take_of_length_le (by omega)] at h0; rw [h0]; rfl, hbw⟩

set_option maxRecDepth 100000 in
set_option maxHeartbeats 400000 in
theorem isList_any (L : List Lab) (a : Option Addr) (cap : Nat) (w : World) (hl : L.length ≤ 4398046511104) (hcap : L.length ≤ cap) (h : LabsAt w a L) (ho : LabsOk L) :
    Calls Try.prog 57 #[.slice a L.length cap] w fun e w' => e = .returned (.bool (listB L)) ∧ Below w.heap.size w w' := by
  by_cases h8 : L.length ≤ 8
  · go_enter Try.func57, Try.ntmps57
    go_wp2
    go_loopw [10] (fun i wr => ∃ k : Nat, k ≤ L.length ∧ i = .int .i64 k ∧ Below w.heap.size w wr ∧ listTo L k = true) (fun i _ => L.length - (intOf i).toNat)
    case atStart => exact ⟨0, Nat.zero_le _, rfl, Below.refl _ _, rfl⟩
    case round =>
      obtain ⟨k, hk, rfl, hbw, hno⟩ := hrel
      have Hno : Hid (listTo L k = true) := hno
      clear hno
      by_cases hlt : k < L.length
      · have hr := h.below hbw
        obtain ⟨b, off, rfl, hc⟩ := hr.head (by omega)
        obtain ⟨hc1, hc2⟩ := hc k hlt
        have hb : b < wr.heap.size := World.block_lt_of_cell? wr _ hc1
        have Hts : Hid (listTo L (k + 1) = (listTo L k && itemB L k)) := listTo_succ L k
        obtain ⟨o1, o2⟩ := ho.at hlt
        have c1 := fun w => isName_any (labAt L k).1 w o1
        have c2 := fun w => isName_any (labAt L k).2 w o2
        clear hc
        cases hE : nameB (labAt L k).1
        · have HE : Hid (listB L = false) := by show listB L = false; unfold listB; rw [listTo_bad L k _ hlt (by simp [itemB, hE]), Bool.and_false]
          rw [hE] at c1
          clear hE c2
          go_wp2
          go_quiet ((go_at_call 36; exact Calls.quiet_of_same (c1 _)))
          go_wp2
          go_ret
          exact ⟨by rw [HE.out]; rfl, below_drewN (below_trans hbw (below_alloc _ _)) _⟩
        · cases hE2 : nameB (labAt L k).2
          · have HE : Hid (listB L = false) := by show listB L = false; unfold listB; rw [listTo_bad L k _ hlt (by simp [itemB, hE2]), Bool.and_false]
            rw [hE] at c1
            rw [hE2] at c2
            clear hE hE2
            go_wp2
            go_quiet (first | (go_at_call_of 36 (Value.string (labAt L k).1); exact Calls.quiet_of_same (c1 _)) | (go_at_call_of 36 (Value.string (labAt L k).2); exact Calls.quiet_of_same (c2 _)))
            go_wp2
            go_ret
            exact ⟨by rw [HE.out]; rfl, below_drewN (below_trans hbw (below_alloc _ _)) _⟩
          · rw [hE] at c1
            rw [hE2] at c2
            have hrt := (hr.take k)
            have c3 := fun w => hasKey_any (L.take k) (labAt L k).1 (some ⟨b, off, none⟩) cap w (by rw [List.length_take]; omega)
            rw [List.length_take, Nat.min_eq_left (by omega)] at c3
            have hi1 : (0 : Int) ≤ (k : Int) := by omega
            have hi2 : (k : Int) ≤ (cap : Int) := by omega
            cases hK : keyIn (L.take k) (labAt L k).1
            · have HI : Hid (itemB L k = true) := by show itemB L k = true; simp [itemB, hE, hE2, hK]
              rw [hK] at c3
              clear hE hE2 hK hr
              go_wp2
              go_region_held3 (fun w' => w'.cell? ⟨wr.heap.size, 0, none⟩ = some (.string (labAt L k).1) ∧ w'.cell? ⟨wr.heap.size, 1, none⟩ = some (.string (labAt L k).2)) (go_keep)
                (first
                  | (go_at_call_of 36 (Value.string (labAt L k).1); refine (c1 _).mono ?_; rintro e w' ⟨rfl, rfl⟩)
                  | (go_at_call_of 36 (Value.string (labAt L k).2); refine (c2 _).mono ?_; rintro e w' ⟨rfl, rfl⟩)
                  | (go_at_call 71; refine (c3 _ (by exact hrt.below (below_alloc _ _).drew)).mono ?_; rintro e w' ⟨rfl, hb'⟩; have e1 := hb'.cell (p := ⟨wr.heap.size, 0, none⟩) (by simp); have e2 := hb'.cell (p := ⟨wr.heap.size, 1, none⟩) (by simp)))
              go_wp2
              go_roundw
              case rel => exact ⟨k + 1, by omega, by go_num, below_trans hbw (below_trans (below_alloc _ _).drew (by assumption)), by rw [Hts.out, Hno.out, HI.out]; rfl⟩
              case measure => simp [intOf]; omega
            · have HE : Hid (listB L = false) := by show listB L = false; unfold listB; rw [listTo_bad L k _ hlt (by simp [itemB, hK]), Bool.and_false]
              rw [hK] at c3
              clear hE hE2 hK hr
              go_wp2
              go_region_held3 (fun w' => w'.cell? ⟨wr.heap.size, 0, none⟩ = some (.string (labAt L k).1) ∧ w'.cell? ⟨wr.heap.size, 1, none⟩ = some (.string (labAt L k).2)) (go_keep)
                (first
                  | (go_at_call_of 36 (Value.string (labAt L k).1); refine (c1 _).mono ?_; rintro e w' ⟨rfl, rfl⟩)
                  | (go_at_call_of 36 (Value.string (labAt L k).2); refine (c2 _).mono ?_; rintro e w' ⟨rfl, rfl⟩)
                  | (go_at_call 71; refine (c3 _ (by exact hrt.below (below_alloc _ _).drew)).mono ?_; rintro e w' ⟨rfl, hb'⟩; have e1 := hb'.cell (p := ⟨wr.heap.size, 0, none⟩) (by simp); have e2 := hb'.cell (p := ⟨wr.heap.size, 1, none⟩) (by simp)))
              go_wp2
              go_ret
              exact ⟨by rw [HE.out]; rfl, below_trans hbw (below_trans (below_alloc _ _).drew (by assumption))⟩
      · go_wp2
        go_ret
        exact ⟨by have h0 := Hno.out; rw [show k = L.length from by omega] at h0; simp [listB, h8, h0], hbw⟩
  · go_enter Try.func57, Try.ntmps57
    go_wp2
    go_ret
    exact ⟨by simp [listB, h8], Below.refl _ _⟩

/-- Lists of labels, one behind the other in a row of slices. -/
structure Lst where
  a : Option Addr
  L : List Lab
  cap : Nat

def Lst.val (x : Lst) : Value := .slice x.a x.L.length x.cap
/-- Each can be read. -/
def Lst.ok (w : World) (x : Lst) : Prop := x.L.length ≤ 4398046511104 ∧ x.L.length ≤ x.cap ∧ LabsAt w x.a x.L ∧ LabsOk x.L

theorem Lst.ok.below {w w' : World} {x : Lst} (h : x.ok w) (hb : Below w.heap.size w w') : x.ok w' := ⟨h.1, h.2.1, h.2.2.1.below hb, h.2.2.2⟩

set_option maxHeartbeats 400000 in
theorem areLists_any (xs : List Lst) (B cap : Nat) (w : World) (hx : ∀ x ∈ xs, x.ok w) (hn : xs.length ≤ 100) (hB : B < w.heap.size) (hc : ∀ k (h : k < xs.length), w.cell? ⟨B, k, none⟩ = some (xs[k].val)) :
    Calls Try.prog 38 #[.slice (some ⟨B, 0, none⟩) xs.length cap] w fun e w' => e = .returned (.bool (xs.all fun x => listB x.L)) ∧ Below w.heap.size w w' := by
  go_enter Try.func38, Try.ntmps38
  go_wp2
  go_loopw [7] (fun i wr => ∃ k : Nat, k ≤ xs.length ∧ i = .int .i64 k ∧ Below w.heap.size w wr ∧ (xs.take k).all (fun x => listB x.L) = true) (fun i _ => xs.length - (intOf i).toNat)
  case atStart => exact ⟨0, Nat.zero_le _, rfl, Below.refl _ _, rfl⟩
  case round =>
    obtain ⟨k, hk, rfl, hbw, hno⟩ := hrel
    have Hno : Hid ((xs.take k).all (fun x => listB x.L) = true) := hno
    clear hno
    by_cases hlt : k < xs.length
    · have hcell : wr.cell? ⟨B, k, none⟩ = some (xs[k].val) := by rw [← hc k hlt]; exact hbw.cell hB
      obtain ⟨x, hxe⟩ : ∃ x, x = xs[k] := ⟨_, rfl⟩
      rw [← hxe] at hcell
      have hok := (hx x (hxe ▸ List.getElem_mem hlt)).below hbw
      have Hx : Hid (x = xs[k]) := hxe
      clear hxe
      unfold Lst.val at hcell
      have c1 := isList_any x.L x.a x.cap wr hok.1 hok.2.1 hok.2.2.1 hok.2.2.2
      cases hE : listB x.L
      · have HE : Hid (listB x.L = false) := hE
        rw [hE] at c1
        clear hE hok
        go_wp2_with (go_at_call 57; refine c1.mono ?_; rintro e w' ⟨rfl, hb'⟩)
        go_ret
        refine ⟨?_, below_trans hbw hb'⟩
        rw [show (xs.all fun x => listB x.L) = false from List.all_eq_false.2 ⟨x, Hx.out ▸ List.getElem_mem hlt, by simp [HE.out]⟩]
        rfl
      · have HE : Hid (listB x.L = true) := hE
        rw [hE] at c1
        clear hE hok
        go_wp2_with (go_at_call 57; refine c1.mono ?_; rintro e w' ⟨rfl, hb'⟩)
        go_roundw
        case rel =>
          refine ⟨k + 1, by omega, by go_num, below_trans hbw hb', ?_⟩
          rw [List.take_succ_eq_append_getElem hlt, List.all_append, Hno.out, ← Hx.out]
          simp [HE.out]
        case measure => simp [intOf]; omega
    · go_wp2
      go_ret
      exact ⟨by have h0 := Hno.out; rw [List.take_of_length_le (by omega)] at h0; rw [h0]; rfl, hbw⟩

set_option maxHeartbeats 400000 in
theorem list_any (L : List Lab) (a : Option Addr) (cap : Nat) (w : World) (hl : L.length ≤ 4398046511104) (h : LabsAt w a L) (ho : LabsOk L) :
    Calls Try.prog 41 #[.slice a L.length cap] w fun e w' => e = .returned (.bool (listB L)) ∧ ∃ n, w' = w.drewN n := by
  go_enter Try.func41, Try.ntmps41
  go_wp2
  go_loopw [3] (fun i wr => ∃ k n : Nat, k ≤ L.length ∧ i = .int .i64 k ∧ wr = w.drewN n ∧ listTo L k = true) (fun i _ => L.length - (intOf i).toNat)
  case atStart => exact ⟨0, 0, Nat.zero_le _, rfl, rfl, rfl⟩
  case round =>
    obtain ⟨k, n, hk, rfl, rfl, hno⟩ := hrel
    have Hno : Hid (listTo L k = true) := hno
    clear hno
    by_cases hlt : k < L.length
    · obtain ⟨b, off, rfl, hc⟩ := h.head (by omega)
      obtain ⟨hc1, hc2⟩ := hc k hlt
      have Hts : Hid (listTo L (k + 1) = (listTo L k && itemB L k)) := listTo_succ L k
      obtain ⟨o1, o2⟩ := ho.at hlt
      have c1 := fun w => name_any (labAt L k).1 w o1
      have c2 := fun w => name_any (labAt L k).2 w o2
      have Hc : Hid (∀ k, k < L.length → w.cell? ⟨b, off + k * 2, none⟩ = some (.string (labAt L k).1) ∧ w.cell? ⟨b, off + k * 2 + 1, none⟩ = some (.string (labAt L k).2)) := hc
      clear hc
      by_cases hnm : nameB (labAt L k).1 = true ∧ nameB (labAt L k).2 = true
      · rw [hnm.1] at c1
        rw [hnm.2] at c2
        have Hnm : Hid (nameB (labAt L k).1 = true ∧ nameB (labAt L k).2 = true) := hnm
        clear hnm
        go_wp2_with (first | (go_at_call_of 39 (Value.string (labAt L k).1); refine (c1 _).mono ?_; rintro e w' ⟨rfl, rfl⟩) | (go_at_call_of 39 (Value.string (labAt L k).2); refine (c2 _).mono ?_; rintro e w' ⟨rfl, rfl⟩))
        go_loopw [6] (fun j wr => ∃ m n : Nat, m ≤ k ∧ j = .int .i64 m ∧ wr = w.drewN n ∧ keyIn (L.take m) (labAt L k).1 = false) (fun j _ => k - (intOf j).toNat)
        case atStart => exact ⟨0, n, Nat.zero_le _, rfl, rfl, rfl⟩
        case round =>
          obtain ⟨m, n', hm, rfl, rfl, hg⟩ := hrel
          have Hg : Hid (keyIn (L.take m) (labAt L k).1 = false) := hg
          clear hg
          by_cases hlt' : m < k
          · obtain ⟨hd1, _⟩ := Hc.out m (by omega)
            have hml : m < L.length := by omega
            have Htk : Hid (keyIn (L.take (m + 1)) (labAt L k).1 = (keyIn (L.take m) (labAt L k).1 || ((labAt L m).1.toList == (labAt L k).1.toList))) := keyIn_take (by omega)
            cases hE : ((labAt L m).1.toList == (labAt L k).1.toList)
            · go_wp2
              go_quiet (fail)
              go_wp2
              go_roundw
              case rel => exact ⟨m + 1, _, by omega, by go_num, rfl, by rw [Htk.out, hE, Hg.out]; rfl⟩
              case measure => simp [intOf]; omega
            · have HE : Hid (listB L = false) := by
                show listB L = false
                have : keyIn (L.take k) (labAt L k).1 = true := by
                  have e1 : labAt (L.take k) m = labAt L m := by unfold labAt; rw [List.getElem?_take, if_pos hlt']
                  refine keyIn_at (k := m) (by rw [List.length_take]; omega) ?_
                  rw [e1]; exact hE
                unfold listB; rw [listTo_bad L k _ hlt (by simp [itemB, this]), Bool.and_false]
              go_wp2
              go_quiet (fail)
              go_wp2
              go_ret
              exact ⟨by rw [HE.out]; rfl, _, World.drewN_drewN ..⟩
          · have hg' := Hg.out
            rw [show m = k from by omega] at hg'
            have HI : Hid (itemB L k = true) := by show itemB L k = true; simp [itemB, Hnm.out.1, Hnm.out.2, hg']
            clear hg'
            go_wp2
            go_roundw
            case rel => exact ⟨k + 1, _, by omega, by go_num, rfl, by rw [Hts.out, HI.out, Hno.out]; rfl⟩
            case measure => simp [intOf]; omega
      · have HE : Hid (listB L = false) := by
          show listB L = false
          unfold listB; rw [listTo_bad L k _ hlt (by cases h1 : nameB (labAt L k).1 <;> cases h2 : nameB (labAt L k).2 <;> simp_all [itemB]), Bool.and_false]
        cases h1 : nameB (labAt L k).1
        · rw [h1] at c1
          clear h1 hnm
          go_wp2_with (first | (go_at_call_of 39 (Value.string (labAt L k).1); refine (c1 _).mono ?_; rintro e w' ⟨rfl, rfl⟩) | (go_at_call_of 39 (Value.string (labAt L k).2); refine (c2 _).mono ?_; rintro e w' ⟨rfl, rfl⟩))
          go_ret
          exact ⟨by rw [HE.out]; rfl, _, rfl⟩
        · have h2 : nameB (labAt L k).2 = false := by
            cases h2 : nameB (labAt L k).2
            · rfl
            · exact absurd ⟨h1, h2⟩ hnm
          rw [h1] at c1
          rw [h2] at c2
          clear h1 h2 hnm
          go_wp2_with (first | (go_at_call_of 39 (Value.string (labAt L k).1); refine (c1 _).mono ?_; rintro e w' ⟨rfl, rfl⟩) | (go_at_call_of 39 (Value.string (labAt L k).2); refine (c2 _).mono ?_; rintro e w' ⟨rfl, rfl⟩))
          go_ret
          exact ⟨by rw [HE.out]; rfl, _, rfl⟩
    · go_wp2
      go_ret
      exact ⟨by have h0 := Hno.out; rw [show k = L.length from by omega] at h0; unfold listB; rw [h0, Bool.and_true]; exact ret_bool (decide_eq_decide.2 (by omega)), _, rfl⟩

end Go.Proofs.Ytchddaafibjmgaa
