/-
  Package kinds: Parse answers as the plain function says; nothing is touched.
-/
import Derived.Test.YtbckmmodobennaaDoorKnCalls
namespace Go.Proofs.YtbckmmodobennaaDoor
open Go.RowKit
set_option linter.unusedVariables false

def preB (s p : ByteArray) : Bool := decide (p.size ≤ s.size ∧ s.data.toList.take p.size = p.data.toList)

theorem pre_eq (s p : ByteArray) (h : p.size ≤ s.size) : ((s.extract 0 p.size).toList == p.toList) = preB s p := by
  have e : (s.extract 0 p.size).data.toList = s.data.toList.take p.size := by simp [ByteArray.data_extract]
  unfold preB
  rw [ByteArray.toList_eq, ByteArray.toList_eq, e, Bool.eq_iff_iff]
  simp [h]

set_option maxHeartbeats 1000000 in
theorem hasPrefix_calls (s p : ByteArray) (hs : s.size ≤ maxLen) (hp : p.size ≤ maxLen) (w : World) :
    Calls Tryd.prog 39 #[.string s, .string p] w fun e w' => e = .returned (.bool (preB s p)) ∧ w = w' := by
  unfold maxLen at hs hp
  by_cases h : p.size ≤ s.size
  · have hE := hide (pre_eq s p h)
    go_enter Tryd.func39, Tryd.ntmps39
    go_wp2
    go_ret
    exact ⟨ret_bool (unhide hE), rfl⟩
  · have hE : preB s p = false := by unfold preB; simp [h]
    rw [hE]
    clear hE
    go_enter Tryd.func39, Tryd.ntmps39
    go_wp2
    go_ret
    exact ⟨rfl, rfl⟩

set_option maxHeartbeats 1000000 in
theorem cutPrefix_no (s p : ByteArray) (hs : s.size ≤ maxLen) (hp : p.size ≤ maxLen) (h : preB s p = false) (w : World) :
    Calls Tryd.prog 27 #[.string s, .string p] w fun e w' => e = .returned (.tuple #[.string s, .bool false]) ∧ w = w' := by
  have H := hide h
  clear h
  go_enter Tryd.func27, Tryd.ntmps27
  go_wp2_with (first | (go_at_call 39; refine (hasPrefix_calls _ _ hs hp _).mono ?_; rintro e w' ⟨rfl, rfl⟩; rw [unhide H]) | go_in)
  go_ret2
  exact ⟨rfl, rfl⟩

set_option maxHeartbeats 1000000 in
theorem cutPrefix_yes (s p : ByteArray) (hs : s.size ≤ maxLen) (hp : p.size ≤ maxLen) (h : preB s p = true) (w : World) :
    Calls Tryd.prog 27 #[.string s, .string p] w fun e w' => e = .returned (.tuple #[.string (s.extract p.size s.size), .bool true]) ∧ w = w' := by
  have hle : p.size ≤ s.size := by unfold preB at h; simp at h; exact h.1
  have H := hide h
  clear h
  have hs' := hs
  have hp' := hp
  unfold maxLen at hs' hp'
  go_enter Tryd.func27, Tryd.ntmps27
  go_wp2_with (first | (go_at_call 39; refine (hasPrefix_calls _ _ hs hp _).mono ?_; rintro e w' ⟨rfl, rfl⟩; rw [unhide H]) | go_in)
  go_ret2
  exact ⟨rfl, rfl⟩

theorem pre_pid (c : UInt8) : preB ⟨#[112, 105, 100, c]⟩ ⟨#[112, 105, 100]⟩ = true := decide_eq_true ⟨by show 3 ≤ 4; omega, rfl⟩

theorem ext_pid (c : UInt8) : (⟨#[112, 105, 100, c]⟩ : ByteArray).extract 3 4 = ⟨#[c]⟩ := by
  apply WideShapes.bytes_inj; simp [ByteArray.data_extract]

theorem cut_pid (c : UInt8) (w : World) :
    Calls Tryd.prog 27 #[.string ⟨#[112, 105, 100, c]⟩, .string ⟨#[112, 105, 100]⟩] w fun e w' => e = .returned (.tuple #[.string ⟨#[c]⟩, .bool true]) ∧ w = w' := by
  refine (cutPrefix_yes _ _ (by unfold maxLen; exact Nat.le_of_ble_eq_true rfl) (by unfold maxLen; exact Nat.le_of_ble_eq_true rfl) (pre_pid c) _).mono ?_
  rintro e w' ⟨rfl, rfl⟩
  refine ⟨?_, rfl⟩
  rw [← ext_pid c]; rfl

set_option maxHeartbeats 1000000 in
theorem parse_pid (c : UInt8) (w : World) :
    Calls Tryd.prog 17 #[.string ⟨#[112, 105, 100, c]⟩] w fun e w' => e = .returned (.tuple #[.int .i64 (ofN ((c.toNat : Int) - 48)), .bool (ofOk ((c.toNat : Int) - 48))]) ∧ w = w' := by
  have hc : (c.toNat : Int) ≤ 255 := by have := c.toNat_lt; omega
  go_enter Tryd.func17, Tryd.ntmps17
  go_wp2_with (first | (go_at_call 27; refine (cut_pid c _).mono ?_; rintro e w' ⟨rfl, rfl⟩) | (go_at_call 16; refine (of_calls _ _).mono ?_; rintro e w' ⟨rfl, rfl⟩))
  go_ret2
  refine ⟨?_, rfl⟩
  show Ending.returned (.tuple #[.int .i64 (ofN (wrap64 (wrap64 (c.toNat : Int) - 48))), .bool (ofOk (wrap64 (wrap64 (c.toNat : Int) - 48)))]) = _
  rw [show wrap64 (wrap64 (c.toNat : Int) - 48) = (c.toNat : Int) - 48 from by rw [IntWalk.wrap64_in (c.toNat : Int) (by omega), IntWalk.wrap64_in _ (by omega)]]

set_option maxHeartbeats 1000000 in
theorem parse_calls (s : ByteArray) (hs : s.size ≤ maxLen) (w : World) :
    Calls Tryd.prog 17 #[.string s] w fun e w' => e = .returned (.tuple #[.int .i64 (parseT s.data.toList), .bool (parseB s.data.toList)]) ∧ w = w' := by
  by_cases h1 : s.data.toList = [105, 110, 116]
  · obtain rfl := bytes_of h1
    clear h1
    go_enter Tryd.func17, Tryd.ntmps17
    go_wp2
    go_ret2
    exact ⟨rfl, rfl⟩
  by_cases h2 : s.data.toList = [98, 111, 111, 108]
  · obtain rfl := bytes_of h2
    clear h2
    go_enter Tryd.func17, Tryd.ntmps17
    go_wp2
    go_ret2
    exact ⟨rfl, rfl⟩
  by_cases h3 : s.data.toList.length = 4 ∧ s.data.toList.take 3 = [112, 105, 100]
  · have e1 : parseT s.data.toList = ofN (((s.data.toList.getD 3 0).toNat : Int) - 48) := by unfold parseT; rw [if_neg h1, if_neg h2, if_pos h3]
    have e2 : parseB s.data.toList = ofOk (((s.data.toList.getD 3 0).toNat : Int) - 48) := by unfold parseB; rw [if_neg h1, if_neg h2, if_pos h3]
    obtain ⟨c, hc⟩ := pid_form h3
    rw [e1, e2, hc]
    obtain rfl := bytes_of hc
    exact parse_pid c w
  have e1 : parseT s.data.toList = 0 := by unfold parseT; rw [if_neg h1, if_neg h2, if_neg h3]
  have e2 : parseB s.data.toList = false := by unfold parseB; rw [if_neg h1, if_neg h2, if_neg h3]
  rw [e1, e2]
  have b1 : (s.toList == [105, 110, 116]) = false := by rw [ByteArray.toList_eq]; exact beq_eq_false_iff_ne.2 h1
  have b2 : (s.toList == [98, 111, 111, 108]) = false := by rw [ByteArray.toList_eq]; exact beq_eq_false_iff_ne.2 h2
  cases hp : preB s ⟨#[112, 105, 100]⟩
  · clear h1 h2 h3 e1 e2
    have H := hide hp
    clear hp
    go_enter Tryd.func17, Tryd.ntmps17
    go_wp2_with (go_at_call 27; refine (cutPrefix_no _ _ hs (by unfold maxLen; decide) (unhide H) _).mono ?_; rintro e w' ⟨rfl, rfl⟩)
    go_ret2
    exact ⟨rfl, rfl⟩
  · have hl : s.data.toList.length ≠ 4 := by
      intro h4
      exact h3 ⟨h4, (of_decide_eq_true hp).2⟩
    have hle : 3 ≤ s.size := (of_decide_eq_true hp).1
    have hz : (((s.size - 3 : Nat) : Int) != 1) = true := by
      rw [bne_iff_ne]; simp at hl; omega
    clear h1 h2 h3 e1 e2 hl
    have H := hide hp
    clear hp
    go_enter Tryd.func17, Tryd.ntmps17
    go_wp2_with (go_at_call 27; refine (cutPrefix_yes _ _ hs (by unfold maxLen; decide) (unhide H) _).mono ?_; rintro e w' ⟨rfl, rfl⟩)
    go_ret2
    exact ⟨rfl, rfl⟩
end Go.Proofs.YtbckmmodobennaaDoor
