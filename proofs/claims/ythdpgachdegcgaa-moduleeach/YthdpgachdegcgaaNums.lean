/-
  The calls of package reel that only compute: bits.Len64, numLen, unsigned, signed.
-/
import Derived.Test.YthdpgachdegcgaaProg
import Derived.Test.YthdpgachdegcgaaKit
import Derived.Test.YthdpgachdegcgaaPure
import Derived.WalkLawsBesides
import Derived.Outline
import Derived.Lib.Strings
import Derived.Lib.Slices
import Derived.Lib.Small
import Derived.Lib.Walk
namespace Go.Proofs.Ythdpgachdegcgaa
open Go.RowKit
set_option linter.unusedVariables false

theorem w64 (n : Int) (h : -9223372036854775808 ≤ n ∧ n ≤ 9223372036854775807) : wrap64 n = n := by unfold wrap64; omega

theorem tab_get (n : Nat) (h : n < Lib.len8tab.size) : (Lib.len8tab[n].toNat : Int) = (Lib.bitLen n : Int) := by
  have h2 : n < 256 := by rw [← Lib.len8tab_size]; exact h
  have e := Lib.len8_eq ⟨n, h2⟩
  rw [← e]
  simp [Lib.len8, h]

set_option maxHeartbeats 4000000 in
set_option maxRecDepth 100000 in
theorem len64 (x : Int) (w : World) (h0 : 0 ≤ x) (h1 : x ≤ 18446744073709551615) :
    Calls Try.prog 98 #[.int .u64 x] w fun e w' => e = .returned (.int .i64 (Lib.bitLen x.toNat)) ∧ w = w' := by
  have hsz := Lib.len8tab_size
  go_enter Try.func98, Try.ntmps98
  go_wp2
  all_goals (go_ret; refine ⟨congrArg Ending.returned (congrArg (Value.int IntKind.i64) ?_), rfl⟩)
  all_goals first
    | (have e : (x / 4294967296 / 65536 / 256).toNat = x.toNat / 72057594037927936 := by omega
       have l := Lib.bitLen_le (x.toNat / 72057594037927936) 8 (by omega) (by omega)
       have s := Lib.bitLen_shift56 x.toNat (by omega) (by omega); rw [tab_get, e, w64 (Lib.bitLen (x.toNat / 72057594037927936) : Int) (by omega), w64 _ (by omega)]; omega)
    | (have e : (x / 4294967296 / 65536).toNat = x.toNat / 281474976710656 := by omega
       have l := Lib.bitLen_le (x.toNat / 281474976710656) 8 (by omega) (by omega)
       have s := Lib.bitLen_shift48 x.toNat (by omega) (by omega); rw [tab_get, e, w64 (Lib.bitLen (x.toNat / 281474976710656) : Int) (by omega), w64 _ (by omega)]; omega)
    | (have e : (x / 4294967296 / 256).toNat = x.toNat / 1099511627776 := by omega
       have l := Lib.bitLen_le (x.toNat / 1099511627776) 8 (by omega) (by omega)
       have s := Lib.bitLen_shift40 x.toNat (by omega) (by omega); rw [tab_get, e, w64 (Lib.bitLen (x.toNat / 1099511627776) : Int) (by omega), w64 _ (by omega)]; omega)
    | (have e : (x / 4294967296).toNat = x.toNat / 4294967296 := by omega
       have l := Lib.bitLen_le (x.toNat / 4294967296) 8 (by omega) (by omega)
       have s := Lib.bitLen_shift32 x.toNat (by omega) (by omega); rw [tab_get, e, w64 (Lib.bitLen (x.toNat / 4294967296) : Int) (by omega), w64 _ (by omega)]; omega)
    | (have e : (x / 65536 / 256).toNat = x.toNat / 16777216 := by omega
       have l := Lib.bitLen_le (x.toNat / 16777216) 8 (by omega) (by omega)
       have s := Lib.bitLen_shift24 x.toNat (by omega) (by omega); rw [tab_get, e, w64 (Lib.bitLen (x.toNat / 16777216) : Int) (by omega), w64 _ (by omega)]; omega)
    | (have e : (x / 65536).toNat = x.toNat / 65536 := by omega
       have l := Lib.bitLen_le (x.toNat / 65536) 8 (by omega) (by omega)
       have s := Lib.bitLen_shift16 x.toNat (by omega) (by omega); rw [tab_get, e, w64 (Lib.bitLen (x.toNat / 65536) : Int) (by omega), w64 _ (by omega)]; omega)
    | (have e : (x / 256).toNat = x.toNat / 256 := by omega
       have l := Lib.bitLen_le (x.toNat / 256) 8 (by omega) (by omega)
       have s := Lib.bitLen_shift8 x.toNat (by omega) (by omega); rw [tab_get, e, w64 (Lib.bitLen (x.toNat / 256) : Int) (by omega), w64 _ (by omega)]; omega)
    | (have e : x.toNat = x.toNat := by omega
       have l := Lib.bitLen_le (x.toNat) 8 (by omega) (by omega)
       rw [tab_get, e, w64 (Lib.bitLen (x.toNat) : Int) (by omega), w64 _ (by omega)])

theorem ret_int {k : IntKind} {a b : Int} (h : a = b) : Ending.returned (.int k a) = .returned (.int k b) := by rw [h]

set_option maxHeartbeats 400000 in
theorem numLen (x : Int) (w : World) (h0 : 0 ≤ x) (h1 : x ≤ 18446744073709551615) :
    Calls Try.prog 85 #[.int .u64 x] w fun e w' => e = .returned (.int .i64 ((vb x.toNat).length : Nat)) ∧ w = w' := by
  have hb := bitLen_64 x.toNat (by omega)
  have hn := numLen_of x.toNat (by omega)
  have hv := vb_length x.toNat
  have HN : Hid (max 1 ((Lib.bitLen x.toNat + 6) / 7) = (vb x.toNat).length) := hn.trans hv.symm
  clear hn hv
  generalize hL : Lib.bitLen x.toNat = L at *
  have HL := hL
  go_enter Try.func85, Try.ntmps85
  go_wp2_with (go_at_call 98; refine (len64 _ _ h0 h1).mono ?_; rintro e w' ⟨rfl, rfl⟩; rw [hL])
  go_ret
  exact ⟨ret_int (by have := HN.out; omega), rfl⟩

set_option maxHeartbeats 400000 in
theorem unsigned (x : Int) (w : World) (h0 : -9223372036854775808 ≤ x) (h1 : x ≤ 9223372036854775807) :
    Calls Try.prog 100 #[.int .i64 x] w fun e w' => e = .returned (.int .u64 (Lib.zigzag x : Nat)) ∧ w = w' := by
  have hz : (Lib.zigzag x : Int) = if 0 ≤ x then 2 * x else -2 * x - 1 := by unfold Lib.zigzag; split <;> omega
  have HH : Hid ((Lib.zigzag x : Int) = if 0 ≤ x then 2 * x else -2 * x - 1) := hz
  clear hz
  go_enter Try.func100, Try.ntmps100
  go_wp2
  all_goals go_ret
  all_goals exact ⟨ret_int (by have := HH.out; split at this <;> omega), rfl⟩

set_option maxHeartbeats 400000 in
theorem signed (x : Int) (w : World) (h0 : 0 ≤ x) (h1 : x ≤ 18446744073709551615) :
    Calls Try.prog 102 #[.int .u64 x] w fun e w' => e = .returned (.int .i64 (sgn x)) ∧ w = w' := by
  by_cases h : x % 2 = 0
  · have h' : (x % 2 == 0) = true := beq_iff_eq.2 h
    have e : x / 2 = sgn x := by unfold sgn; rw [if_pos h]
    have HE : Hid (x / 2 = sgn x) := e
    clear e h
    go_enter Try.func102, Try.ntmps102
    go_wp2
    go_ret
    exact ⟨ret_int HE.out, rfl⟩
  · have h' : (x % 2 == 0) = false := beq_eq_false_iff_ne.2 h
    have e : -(x / 2) - 1 = sgn x := by unfold sgn; rw [if_neg h]
    have HE : Hid (-(x / 2) - 1 = sgn x) := e
    clear e h
    go_enter Try.func102, Try.ntmps102
    go_wp2
    go_ret
    exact ⟨ret_int HE.out, rfl⟩
end Go.Proofs.Ythdpgachdegcgaa
