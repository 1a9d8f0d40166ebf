/-
  Names and amounts: the program's tests and the document's, each walked; they say the same.
-/
import Derived.Test.YtchddaafibjmgaaBase
import Derived.Test.YtchddaafibjmgaaHeap
namespace Go.Proofs.Ytchddaafibjmgaa
open Go.RowKit

/-- A byte of a name. -/
def byteB (c : Int) : Bool := (decide (97 ≤ c) && decide (c ≤ 122)) || (decide (48 ≤ c) && decide (c ≤ 57)) || (c == 45)

theorem ret_bool {a b : Bool} (h : a = b) : Ending.returned (.bool a) = .returned (.bool b) := by rw [h]

set_option maxHeartbeats 400000 in
theorem isNameByte_any (c : Int) (w : World) : Calls Try.prog 56 #[.int .u8 c] w fun e w' => e = .returned (.bool (byteB c)) ∧ w' = w := by
  by_cases h1 : 97 ≤ c
  · by_cases h2 : c ≤ 122
    · have hb : byteB c = true := by simp [byteB, h1, h2]
      rw [hb]
      go_enter Try.func56, Try.ntmps56
      go_wp2
      go_ret
      exact ⟨rfl, rfl⟩
    · have h3 : 48 ≤ c := by omega
      have h4 : ¬ c ≤ 57 := by omega
      have h5 : (c == 45) = false := beq_eq_false_iff_ne.2 (by omega)
      have hb : byteB c = false := by simp [byteB, h2, h4, h5]
      rw [hb]
      go_enter Try.func56, Try.ntmps56
      go_wp2
      go_ret
      exact ⟨rfl, rfl⟩
  · by_cases h3 : 48 ≤ c
    · by_cases h4 : c ≤ 57
      · have hb : byteB c = true := by simp [byteB, h3, h4]
        rw [hb]
        go_enter Try.func56, Try.ntmps56
        go_wp2
        go_ret
        exact ⟨rfl, rfl⟩
      · have h5 : (c == 45) = false := beq_eq_false_iff_ne.2 (by omega)
        have hb : byteB c = false := by simp [byteB, h1, h4, h5]
        rw [hb]
        go_enter Try.func56, Try.ntmps56
        go_wp2
        go_ret
        exact ⟨rfl, rfl⟩
    · have hb : byteB c = (c == 45) := by simp [byteB, h1, h3]
      rw [hb]
      go_enter Try.func56, Try.ntmps56
      go_wp2
      go_ret
      exact ⟨rfl, rfl⟩

/-- All bytes are a name's. -/
def bytesB (l : List UInt8) : Bool := l.all fun c => byteB (c.toNat : Int)
/-- A name. -/
def nameB (s : ByteArray) : Bool := decide (1 ≤ s.size) && decide (s.size ≤ 20) && bytesB s.data.toList

theorem bytes_snoc (s : ByteArray) (k : Nat) (h : k < s.size) : bytesB (s.data.toList.take (k + 1)) = (bytesB (s.data.toList.take k) && byteB (s[k].toNat : Int)) := by
  unfold bytesB
  rw [List.take_succ_eq_append_getElem (by simpa using h), List.all_append]
  simp only [List.all_cons, List.all_nil, Bool.and_true]
  rfl

theorem bytes_bad (s : ByteArray) (k : Nat) (h : k < s.size) (hb : byteB (s[k].toNat : Int) = false) : bytesB s.data.toList = false := by
  unfold bytesB
  rw [List.all_eq_false]
  refine ⟨s[k], ?_, by simp [hb]⟩
  show s.data[k]'_ ∈ s.data.toList
  exact Array.getElem_mem_toList _

set_option maxHeartbeats 400000 in
theorem isName_any (s : ByteArray) (w : World) (hs : s.size ≤ 9223372036854775807) : Calls Try.prog 36 #[.string s] w fun e w' => e = .returned (.bool (nameB s)) ∧ w' = w := by
  by_cases h1 : 1 ≤ s.size
  · by_cases h2 : s.size ≤ 20
    · go_enter Try.func36, Try.ntmps36
      go_wp2
      go_loop [14] (fun i => ∃ k : Nat, k ≤ s.size ∧ i = .int .i64 k ∧ bytesB (s.data.toList.take k) = true) (fun i => s.size - (intOf i).toNat)
      case atStart => exact ⟨0, Nat.zero_le _, rfl, rfl⟩
      case round =>
        obtain ⟨k, hk, rfl, hno⟩ := hrel
        have Hno : Hid (bytesB (s.data.toList.take k) = true) := hno
        clear hno
        by_cases hlt : k < s.size
        · have Hs : Hid (bytesB (s.data.toList.take (k + 1)) = (bytesB (s.data.toList.take k) && byteB (s[k].toNat : Int))) := bytes_snoc s k hlt
          cases hE : byteB (s[k].toNat : Int)
          · have HE : Hid (byteB (s[k].toNat : Int) = false) := hE
            clear hE
            go_wp2_with (go_at_call 56; refine (isNameByte_any _ _).mono ?_; rintro e w' ⟨rfl, rfl⟩; rw [HE.out])
            go_ret
            exact ⟨by unfold nameB; rw [bytes_bad s k hlt HE.out, Bool.and_false]; rfl, rfl⟩
          · have HE : Hid (byteB (s[k].toNat : Int) = true) := hE
            clear hE
            go_wp2_with (go_at_call 56; refine (isNameByte_any _ _).mono ?_; rintro e w' ⟨rfl, rfl⟩; rw [HE.out])
            go_round
            case rel => exact ⟨k + 1, by omega, by go_num, by rw [Hs.out, Hno.out, HE.out]; rfl⟩
            case measure => simp [intOf]; omega
        · go_wp2
          go_ret
          exact ⟨by have h0 := Hno.out; rw [List.take_of_length_le (by simp; omega)] at h0; simp [nameB, h1, h2, h0], rfl⟩
    · go_enter Try.func36, Try.ntmps36
      go_wp2
      go_ret
      exact ⟨by simp [nameB, h2], rfl⟩
  · go_enter Try.func36, Try.ntmps36
    go_wp2
    go_ret
    exact ⟨by simp [nameB]; omega, rfl⟩

set_option maxHeartbeats 400000 in
theorem name_any (s : ByteArray) (w : World) (hs : s.size ≤ 9223372036854775807) : Calls Try.prog 39 #[.string s] w fun e w' => e = .returned (.bool (nameB s)) ∧ w' = w := by
  go_enter Try.func39, Try.ntmps39
  go_wp2
  go_loop [3] (fun i => ∃ k : Nat, k ≤ s.size ∧ i = .int .i64 k ∧ bytesB (s.data.toList.take k) = true) (fun i => s.size - (intOf i).toNat)
  case atStart => exact ⟨0, Nat.zero_le _, rfl, rfl⟩
  case round =>
    obtain ⟨k, hk, rfl, hno⟩ := hrel
    have Hno : Hid (bytesB (s.data.toList.take k) = true) := hno
    clear hno
    by_cases hlt : k < s.size
    · have Hs : Hid (bytesB (s.data.toList.take (k + 1)) = (bytesB (s.data.toList.take k) && byteB (s[k].toNat : Int))) := bytes_snoc s k hlt
      by_cases g0 : (s[k].toNat : Int) = 45
      · have HE : Hid (byteB (s[k].toNat : Int) = true) := by show byteB _ = true; rw [g0]; rfl
        have g0' : ((s[k].toNat : Int) != 45) = false := by simp [g0]
        clear g0
        go_wp2
        go_round
        case rel => exact ⟨k + 1, by omega, by go_num, by rw [Hs.out, Hno.out, HE.out]; rfl⟩
        case measure => simp [intOf]; omega
      · have g0' : ((s[k].toNat : Int) != 45) = true := by simp [g0]
        by_cases g1 : 97 ≤ (s[k].toNat : Int)
        · by_cases g2 : (s[k].toNat : Int) ≤ 122
          · have HE : Hid (byteB (s[k].toNat : Int) = true) := by show byteB _ = true; simp [byteB, g1, g2]
            clear g0
            go_wp2
            go_round
            case rel => exact ⟨k + 1, by omega, by go_num, by rw [Hs.out, Hno.out, HE.out]; rfl⟩
            case measure => simp [intOf]; omega
          · have HE : Hid (byteB (s[k].toNat : Int) = false) := by show byteB _ = false; simp [byteB, g2, g0]; omega
            clear g0
            go_wp2
            go_ret
            exact ⟨by unfold nameB; rw [bytes_bad s k hlt HE.out, Bool.and_false]; rfl, rfl⟩
        · by_cases g3 : 48 ≤ (s[k].toNat : Int)
          · by_cases g4 : (s[k].toNat : Int) ≤ 57
            · have HE : Hid (byteB (s[k].toNat : Int) = true) := by show byteB _ = true; simp [byteB, g3, g4]
              clear g0
              go_wp2
              go_round
              case rel => exact ⟨k + 1, by omega, by go_num, by rw [Hs.out, Hno.out, HE.out]; rfl⟩
              case measure => simp [intOf]; omega
            · have HE : Hid (byteB (s[k].toNat : Int) = false) := by show byteB _ = false; simp [byteB, g1, g4, g0]
              clear g0
              go_wp2
              go_ret
              exact ⟨by unfold nameB; rw [bytes_bad s k hlt HE.out, Bool.and_false]; rfl, rfl⟩
          · have HE : Hid (byteB (s[k].toNat : Int) = false) := by show byteB _ = false; simp [byteB, g1, g3, g0]
            clear g0
            go_wp2
            go_ret
            exact ⟨by unfold nameB; rw [bytes_bad s k hlt HE.out, Bool.and_false]; rfl, rfl⟩
    · have h0 := Hno.out
      rw [List.take_of_length_le (by simp; omega)] at h0
      have H0 : Hid (bytesB s.data.toList = true) := h0
      clear h0
      by_cases h1 : 1 ≤ s.size
      · go_wp2
        go_ret
        exact ⟨by rw [show nameB s = decide ((s.size : Int) ≤ 20) from by unfold nameB; rw [H0.out, Bool.and_true, decide_eq_true h1, Bool.true_and]; exact decide_eq_decide.2 (by omega)]; rfl, rfl⟩
      · go_wp2
        go_ret
        exact ⟨by simp [nameB, H0.out]; omega, rfl⟩

/-- An amount. -/
def amtB (n : Int) : Bool := decide (0 ≤ n) && decide (n ≤ 1099511627776)
def amtsB (a b c : Int) : Bool := amtB a && amtB b && amtB c

set_option maxHeartbeats 400000 in
theorem areAmounts_any (a b c : Int) (w : World) : Calls Try.prog 37 #[.agg #[.int .i64 a, .int .i64 b, .int .i64 c]] w fun e w' => e = .returned (.bool (amtsB a b c)) ∧ Below w.heap.size w w' := by
  have i0 : ∀ w, (Instr.index 30 (.agg #[.int .i64 a, .int .i64 b, .int .i64 c]) (.int .i64 0)).run Try.prog w = .ok (.int .i64 a) w := fun _ => by kernel_rfl
  have i1 : ∀ w, (Instr.index 30 (.agg #[.int .i64 a, .int .i64 b, .int .i64 c]) (.int .i64 1)).run Try.prog w = .ok (.int .i64 b) w := fun _ => by kernel_rfl
  have i2 : ∀ w, (Instr.index 30 (.agg #[.int .i64 a, .int .i64 b, .int .i64 c]) (.int .i64 2)).run Try.prog w = .ok (.int .i64 c) w := fun _ => by kernel_rfl
  go_enter Try.func37, Try.ntmps37
  go_wp2
  go_loop [6] (fun i => ∃ k : Nat, k ≤ 3 ∧ i = .int .i64 k ∧ (0 < k → amtB a = true) ∧ (1 < k → amtB b = true) ∧ (2 < k → amtB c = true)) (fun i => 3 - (intOf i).toNat)
  case atStart => exact ⟨0, by omega, rfl, fun h => absurd h (by omega), fun h => absurd h (by omega), fun h => absurd h (by omega)⟩
  case round =>
    obtain ⟨k, hk, rfl, q1, q2, q3⟩ := hrel
    have hk' : k = 0 ∨ k = 1 ∨ k = 2 ∨ k = 3 := by omega
    clear hk
    rcases hk' with rfl | rfl | rfl | rfl
    · clear q1 q2 q3
      by_cases g1 : 0 ≤ a
      · by_cases g2 : a ≤ 1099511627776
        · have HE : Hid (amtB a = true) := by show amtB _ = true; simp [amtB, g1, g2]
          go_wp2
          go_round
          case rel => exact ⟨1, by omega, rfl, fun _ => HE.out, fun h => absurd h (by omega), fun h => absurd h (by omega)⟩
          case measure => simp [intOf]
        · have HE : Hid (amtB a = false) := by show amtB _ = false; simp [amtB, g2]
          go_wp2
          go_ret
          exact ⟨by unfold amtsB; rw [HE.out]; simp, below_alloc _ _⟩
      · have HE : Hid (amtB a = false) := by show amtB _ = false; simp [amtB, g1]
        go_wp2
        go_ret
        exact ⟨by unfold amtsB; rw [HE.out]; simp, below_alloc _ _⟩
    · have H1 : Hid (amtB a = true) := q1 (by omega)
      clear q1 q2 q3
      by_cases g1 : 0 ≤ b
      · by_cases g2 : b ≤ 1099511627776
        · have HE : Hid (amtB b = true) := by show amtB _ = true; simp [amtB, g1, g2]
          go_wp2
          go_round
          case rel => exact ⟨2, by omega, rfl, fun _ => H1.out, fun _ => HE.out, fun h => absurd h (by omega)⟩
          case measure => simp [intOf]
        · have HE : Hid (amtB b = false) := by show amtB _ = false; simp [amtB, g2]
          go_wp2
          go_ret
          exact ⟨by unfold amtsB; rw [HE.out]; simp, below_alloc _ _⟩
      · have HE : Hid (amtB b = false) := by show amtB _ = false; simp [amtB, g1]
        go_wp2
        go_ret
        exact ⟨by unfold amtsB; rw [HE.out]; simp, below_alloc _ _⟩
    · have H1 : Hid (amtB a = true) := q1 (by omega)
      have H2 : Hid (amtB b = true) := q2 (by omega)
      clear q1 q2 q3
      by_cases g1 : 0 ≤ c
      · by_cases g2 : c ≤ 1099511627776
        · have HE : Hid (amtB c = true) := by show amtB _ = true; simp [amtB, g1, g2]
          go_wp2
          go_round
          case rel => exact ⟨3, by omega, rfl, fun _ => H1.out, fun _ => H2.out, fun _ => HE.out⟩
          case measure => simp [intOf]
        · have HE : Hid (amtB c = false) := by show amtB _ = false; simp [amtB, g2]
          go_wp2
          go_ret
          exact ⟨by unfold amtsB; rw [HE.out]; simp, below_alloc _ _⟩
      · have HE : Hid (amtB c = false) := by show amtB _ = false; simp [amtB, g1]
        go_wp2
        go_ret
        exact ⟨by unfold amtsB; rw [HE.out]; simp, below_alloc _ _⟩
    · have HE : Hid (amtsB a b c = true) := by show amtsB a b c = true; simp [amtsB, q1, q2, q3]
      clear q1 q2 q3
      go_wp2
      go_ret
      exact ⟨by rw [HE.out]; rfl, below_alloc _ _⟩

set_option maxHeartbeats 400000 in
theorem amounts_any (a b c : Int) (w : World) : Calls Try.prog 40 #[.agg #[.int .i64 a, .int .i64 b, .int .i64 c]] w fun e w' => e = .returned (.bool (amtsB a b c)) ∧ Below w.heap.size w w' := by
  go_enter Try.func40, Try.ntmps40
  go_wp2
  go_loop [3] (fun i => ∃ k : Nat, k ≤ 3 ∧ i = .int .i64 k ∧ (0 < k → amtB a = true) ∧ (1 < k → amtB b = true) ∧ (2 < k → amtB c = true)) (fun i => 3 - (intOf i).toNat)
  case atStart => exact ⟨0, by omega, rfl, fun h => absurd h (by omega), fun h => absurd h (by omega), fun h => absurd h (by omega)⟩
  case round =>
    obtain ⟨k, hk, rfl, q1, q2, q3⟩ := hrel
    have hk' : k = 0 ∨ k = 1 ∨ k = 2 ∨ k = 3 := by omega
    clear hk
    rcases hk' with rfl | rfl | rfl | rfl
    · clear q1 q2 q3
      by_cases g1 : 0 ≤ a
      · by_cases g2 : a ≤ 1099511627776
        · have HE : Hid (amtB a = true) := by show amtB _ = true; simp [amtB, g1, g2]
          go_wp2
          go_round
          case rel => exact ⟨1, by omega, rfl, fun _ => HE.out, fun h => absurd h (by omega), fun h => absurd h (by omega)⟩
          case measure => simp [intOf]
        · have HE : Hid (amtB a = false) := by show amtB _ = false; simp [amtB, g2]
          go_wp2
          go_ret
          exact ⟨by unfold amtsB; rw [HE.out]; simp, below_alloc _ _⟩
      · have HE : Hid (amtB a = false) := by show amtB _ = false; simp [amtB, g1]
        go_wp2
        go_ret
        exact ⟨by unfold amtsB; rw [HE.out]; simp, below_alloc _ _⟩
    · have H1 : Hid (amtB a = true) := q1 (by omega)
      clear q1 q2 q3
      by_cases g1 : 0 ≤ b
      · by_cases g2 : b ≤ 1099511627776
        · have HE : Hid (amtB b = true) := by show amtB _ = true; simp [amtB, g1, g2]
          go_wp2
          go_round
          case rel => exact ⟨2, by omega, rfl, fun _ => H1.out, fun _ => HE.out, fun h => absurd h (by omega)⟩
          case measure => simp [intOf]
        · have HE : Hid (amtB b = false) := by show amtB _ = false; simp [amtB, g2]
          go_wp2
          go_ret
          exact ⟨by unfold amtsB; rw [HE.out]; simp, below_alloc _ _⟩
      · have HE : Hid (amtB b = false) := by show amtB _ = false; simp [amtB, g1]
        go_wp2
        go_ret
        exact ⟨by unfold amtsB; rw [HE.out]; simp, below_alloc _ _⟩
    · have H1 : Hid (amtB a = true) := q1 (by omega)
      have H2 : Hid (amtB b = true) := q2 (by omega)
      clear q1 q2 q3
      by_cases g1 : 0 ≤ c
      · by_cases g2 : c ≤ 1099511627776
        · have HE : Hid (amtB c = true) := by show amtB _ = true; simp [amtB, g1, g2]
          go_wp2
          go_round
          case rel => exact ⟨3, by omega, rfl, fun _ => H1.out, fun _ => H2.out, fun _ => HE.out⟩
          case measure => simp [intOf]
        · have HE : Hid (amtB c = false) := by show amtB _ = false; simp [amtB, g2]
          go_wp2
          go_ret
          exact ⟨by unfold amtsB; rw [HE.out]; simp, below_alloc _ _⟩
      · have HE : Hid (amtB c = false) := by show amtB _ = false; simp [amtB, g1]
        go_wp2
        go_ret
        exact ⟨by unfold amtsB; rw [HE.out]; simp, below_alloc _ _⟩
    · have HE : Hid (amtsB a b c = true) := by show amtsB a b c = true; simp [amtsB, q1, q2, q3]
      clear q1 q2 q3
      go_wp2
      go_ret
      exact ⟨by rw [HE.out]; rfl, below_alloc _ _⟩

end Go.Proofs.Ytchddaafibjmgaa
