/-
  Instructions, plainly: which are right, their names, their bytes there and back. Of no call.
-/
import Derived.Test.YthdpgachdegcgaaRdPure
namespace Go.Proofs.Ythdpgachdegcgaa
set_option linter.unusedVariables false

def isOpB (op : Int) : Bool := decide (0 ≤ op) && decide (op < 27)
def hasB (op : Int) : Bool := op == 1 || op == 4 || op == 5 || op == 16 || op == 17 || op == 19 || op == 20 || op == 21
def least (op : Int) : Int := if op = 1 then -9223372036854775808 else 0
def most (op : Int) : Int := if op = 1 then 9223372036854775807 else if op = 4 ∨ op = 5 then 15 else if op = 16 ∨ op = 17 then 199 else if op = 19 ∨ op = 20 ∨ op = 21 then 7 else 0
def rightB (op a : Int) : Bool := isOpB op && decide (least op ≤ a) && decide (a ≤ most op)

theorem isOpB_iff (op : Int) : isOpB op = true ↔ 0 ≤ op ∧ op < 27 := by simp [isOpB]
theorem isOpB_no (op : Int) : isOpB op = false ↔ op < 0 ∨ 27 ≤ op := by
  cases h : isOpB op
  · have := mt (isOpB_iff op).2 (by simp [h])
    simp; omega
  · have := (isOpB_iff op).1 h
    simp; omega
theorem rightB_iff (op a : Int) : rightB op a = true ↔ isOpB op = true ∧ least op ≤ a ∧ a ≤ most op := by simp [rightB, and_assoc]
theorem hasB_isOp {op : Int} (h : hasB op = true) : isOpB op = true := by
  rw [isOpB_iff]
  simp [hasB] at h
  omega
theorem no_number {op : Int} (h : hasB op = false) : least op = 0 ∧ most op = 0 := by
  simp [hasB] at h
  unfold least most
  constructor
  · rw [if_neg (by omega)]
  · rw [if_neg (by omega), if_neg (by omega), if_neg (by omega), if_neg (by omega)]
theorem least_lo (op : Int) : -9223372036854775808 ≤ least op := by unfold least; split <;> omega
theorem most_hi (op : Int) : most op ≤ 9223372036854775807 := by unfold most; repeat (first | omega | split)
theorem least_hi (op : Int) : least op ≤ 0 := by unfold least; split <;> omega
theorem most_lo (op : Int) : 0 ≤ most op := by unfold most; repeat (first | omega | split)

/-- an instruction's bytes -/
def insB (op a : Int) : List UInt8 := op.toNat.toUInt8 :: (if hasB op then Lib.uvarint (Lib.zigzag a) else [])

/-- the instruction at the beginning: its Op, its number, how many bytes, the error -/
def readN (l : List UInt8) : Int × Int × Nat × Int :=
  match l with
  | [] => (0, 0, 0, 2)
  | b :: r =>
    if isOpB b.toNat = false then (0, 0, 0, 9)
    else if hasB b.toNat = false then (b.toNat, 0, 1, 0)
    else if (rd r 0 0).2.2 ≠ 0 then (0, 0, 0, ((rd r 0 0).2.2 : Nat))
    else if rightB b.toNat (sgn (rd r 0 0).1) = false then (0, 0, 0, 4)
    else (b.toNat, sgn (rd r 0 0).1, 1 + (rd r 0 0).2.1, 0)

/-- the names -/
def nms : List (List UInt8) := [[104, 97, 108, 116], [112, 117, 115, 104], [116, 114, 117, 101], [102, 97, 108, 115, 101], [108, 111, 97, 100], [115, 116, 111, 114, 101], [97, 100, 100], [115, 117, 98], [109, 117, 108], [100, 105, 118], [114, 101, 109], [108, 101, 115, 115], [101, 113], [110, 111, 116], [97, 110, 100], [111, 114], [106, 117, 109, 112], [117, 110, 108, 101, 115, 115], [115, 101, 108, 102], [115, 112, 97, 119, 110], [115, 101, 110, 100], [114, 101, 99, 118], [108, 105, 110, 107], [101, 120, 105, 116], [111, 117, 116], [100, 114, 111, 112], [100, 117, 112]]
def nm (k : Nat) : List UInt8 := nms.getD k []
def nameN (op : Int) : List UInt8 := if isOpB op then nm op.toNat else []

theorem nms_length : nms.length = 27 := rfl
theorem nm_ne : ∀ i : Fin 27, nm i.val ≠ [] := by decide +kernel
theorem nm_one : ∀ i j : Fin 27, nm i.val = nm j.val → i = j := by decide +kernel

/-- the first of the names that is s, from number k on -/
def pfind (s : List UInt8) : List (List UInt8) → Nat → Int × Bool
  | [], _ => (0, false)
  | n :: r, k => if n = s then ((k : Int), true) else pfind s r (k + 1)
def parseN (s : List UInt8) : Int × Bool := pfind s nms 0

theorem pfind_step (s : List UInt8) (k : Nat) (h : k < 27) : pfind s (nms.drop k) k = if nm k = s then ((k : Int), true) else pfind s (nms.drop (k + 1)) (k + 1) := by
  rw [List.drop_eq_getElem_cons (by rw [nms_length]; exact h), pfind]
  have e : nm k = nms[k] := by unfold nm; rw [List.getD_eq_getElem?_getD, List.getElem?_eq_getElem (by rw [nms_length]; exact h)]; rfl
  rw [e]
  by_cases hs : nms[k] = s
  · rw [if_pos hs]
    exact if_pos hs
  · rw [if_neg hs]
    exact if_neg hs
theorem pfind_end (s : List UInt8) : pfind s (nms.drop 27) 27 = (0, false) := rfl

theorem pfind_some (s : List UInt8) : ∀ (d k : Nat), k + d = 27 → (pfind s (nms.drop k) k = (0, false) ∧ ∀ i, k ≤ i → i < 27 → nm i ≠ s) ∨ ∃ i : Nat, k ≤ i ∧ i < 27 ∧ nm i = s ∧ pfind s (nms.drop k) k = ((i : Int), true) := by
  intro d
  induction d with
  | zero =>
    intro k hk
    obtain rfl : k = 27 := by omega
    exact .inl ⟨pfind_end s, fun i h1 h2 => by omega⟩
  | succ d ih =>
    intro k hk
    rw [pfind_step s k (by omega)]
    by_cases h : nm k = s
    · rw [if_pos h]
      exact .inr ⟨k, Nat.le_refl _, by omega, h, rfl⟩
    · rw [if_neg h]
      rcases ih (k + 1) (by omega) with ⟨e, h2⟩ | ⟨i, h1, h2, h3, e⟩
      · refine .inl ⟨e, fun i hi hi2 => ?_⟩
        by_cases hik : i = k
        · rw [hik]; exact h
        · exact h2 i (by omega) hi2
      · exact .inr ⟨i, by omega, h2, h3, e⟩

theorem parseN_cases (s : List UInt8) : (parseN s = (0, false) ∧ ∀ i, i < 27 → nm i ≠ s) ∨ ∃ i : Nat, i < 27 ∧ nm i = s ∧ parseN s = ((i : Int), true) := by
  rcases pfind_some s 27 0 rfl with ⟨e, h⟩ | ⟨i, _, h2, h3, e⟩
  · exact .inl ⟨e, fun i hi => h i (by omega) hi⟩
  · exact .inr ⟨i, h2, h3, e⟩

theorem parseN_nm (i : Nat) (h : i < 27) : parseN (nm i) = ((i : Int), true) := by
  rcases parseN_cases (nm i) with ⟨_, h2⟩ | ⟨j, hj, he, e⟩
  · exact absurd rfl (h2 i h)
  · have := nm_one ⟨j, hj⟩ ⟨i, h⟩ he
    simp at this
    rw [e, this]

theorem nameN_nil (op : Int) : nameN op = [] ↔ isOpB op = false := by
  unfold nameN
  cases h : isOpB op
  · simp
  · have := (isOpB_iff op).1 h
    simp
    exact nm_ne ⟨op.toNat, by omega⟩

theorem nameN_one {a b : Int} (ha : isOpB a = true) (h : nameN a = nameN b) : a = b := by
  have hb : isOpB b = true := by
    cases hb : isOpB b
    · have := (nameN_nil b).2 hb
      rw [← h] at this
      rw [(nameN_nil a).1 this] at ha
      exact ha
    · rfl
  have h1 := (isOpB_iff a).1 ha
  have h2 := (isOpB_iff b).1 hb
  unfold nameN at h
  rw [ha, hb] at h
  have := nm_one ⟨a.toNat, by omega⟩ ⟨b.toNat, by omega⟩ h
  simp at this
  omega

theorem parseN_name {a : Int} (ha : isOpB a = true) : parseN (nameN a) = (a, true) := by
  have h1 := (isOpB_iff a).1 ha
  unfold nameN
  rw [ha]
  simp only [if_true]
  rw [parseN_nm _ (by omega)]
  congr 1
  omega

theorem parseN_back (s : List UInt8) : parseN s = (0, false) ∨ ∃ op, isOpB op = true ∧ parseN s = (op, true) ∧ nameN op = s := by
  rcases parseN_cases s with ⟨e, _⟩ | ⟨i, hi, he, e⟩
  · exact .inl e
  · have hb : isOpB (i : Int) = true := (isOpB_iff _).2 ⟨by omega, by omega⟩
    refine .inr ⟨i, hb, e, ?_⟩
    unfold nameN
    rw [hb]
    simpa using he

/-! there and back -/
theorem insB_length_le (op a : Int) (h : hasB op = false ∨ (-9223372036854775808 ≤ a ∧ a ≤ 9223372036854775807)) : (insB op a).length ≤ 11 := by
  unfold insB
  simp only [List.length_cons]
  split
  · rename_i hh
    rcases h with h | h
    · rw [h] at hh; cases hh
    · have := Lib.uvarint_length64 (x := Lib.zigzag a) (by unfold Lib.zigzag; split <;> omega)
      omega
  · simp

theorem op_byte {op : Int} (h : isOpB op = true) : (op.toNat.toUInt8.toNat : Int) = op := by
  have := (isOpB_iff op).1 h
  simp
  omega

theorem zig_lt {a : Int} (h : -9223372036854775808 ≤ a ∧ a ≤ 9223372036854775807) : Lib.zigzag a < 18446744073709551616 := by unfold Lib.zigzag; split <;> omega

theorem right_fits {op a : Int} (h : rightB op a = true) : -9223372036854775808 ≤ a ∧ a ≤ 9223372036854775807 := by
  have := (rightB_iff op a).1 h
  have h1 := least_lo op
  have h2 := most_hi op
  omega

theorem right_isOp {op a : Int} (h : rightB op a = true) : isOpB op = true := ((rightB_iff op a).1 h).1

theorem readN_insB {op a : Int} (h : rightB op a = true) (r : List UInt8) : readN (insB op a ++ r) = (op, a, (insB op a).length, 0) := by
  have hi := right_isOp h
  have hb := op_byte hi
  unfold insB
  rw [List.cons_append, readN, hb, hi]
  simp only [Bool.true_eq_false, if_false]
  cases hh : hasB op
  · have hn := no_number hh
    have := (rightB_iff op a).1 h
    have ha : a = 0 := by omega
    simp [ha]
  · have hz := rd_of (Lib.zigzag a) (zig_lt (right_fits h)) r
    simp only [if_true, Bool.true_eq_false, if_false, hz, sgn_zig, h]
    simp
    omega

theorem rd_short : ∀ (x i m : Nat) (l : List UInt8) (k : Nat), k < (Lib.uvarint x).length → i + (Lib.uvarint x).length ≤ 10 → (rd ((Lib.uvarint x).take k) i m).2.2 = 2 := by
  intro x
  induction x using Nat.strongRecOn with
  | ind x ih =>
    intro i m l k hk hi
    cases k with
    | zero => simp [rd]
    | succ k =>
      by_cases h : x < 128
      · rw [Lib.uvarint_small h] at hk
        simp at hk
      · rw [Lib.uvarint_big (by omega)] at hk hi ⊢
        simp only [List.length_cons] at hk hi
        rw [List.take_succ_cons, rd]
        have e : ((x % 128 + 128).toUInt8).toNat = x % 128 + 128 := by simp; omega
        have hp := Lib.uvarint_pos (x / 128)
        rw [e, if_neg (by omega), if_pos (by omega)]
        exact ih (x / 128) (by omega) (i + 1) _ l k (by omega) (by omega)

theorem readN_short {op a : Int} (h : rightB op a = true) : readN ((insB op a).take ((insB op a).length - 1)) = (0, 0, 0, 2) := by
  have hi := right_isOp h
  have hb := op_byte hi
  unfold insB
  cases hh : hasB op
  · rfl
  · have hp := Lib.uvarint_pos (Lib.zigzag a)
    have hl := Lib.uvarint_length64 (zig_lt (right_fits h))
    have hs := rd_short (Lib.zigzag a) 0 0 [] ((Lib.uvarint (Lib.zigzag a)).length - 1) (by omega) (by omega)
    simp only [if_true, List.length_cons, Nat.add_sub_cancel]
    obtain ⟨n, hn⟩ : ∃ n, (Lib.uvarint (Lib.zigzag a)).length = n + 1 := ⟨(Lib.uvarint (Lib.zigzag a)).length - 1, by omega⟩
    rw [hn] at hs ⊢
    simp only [Nat.add_sub_cancel] at hs
    rw [List.take_succ_cons, readN, hb, hi, hh, hs]
    simp

/-- what is read is right, and is told as just these bytes -/
theorem readN_back (l : List UInt8) : ((readN l).2.2.2 ≠ 0 ∧ (readN l).1 = 0 ∧ (readN l).2.1 = 0 ∧ (readN l).2.2.1 = 0) ∨
    ((readN l).2.2.2 = 0 ∧ rightB (readN l).1 (readN l).2.1 = true ∧ (readN l).2.2.1 ≤ l.length ∧ insB (readN l).1 (readN l).2.1 = l.take (readN l).2.2.1) := by
  cases l with
  | nil => exact .inl (by simp [readN])
  | cons b r =>
    have hb8 : ((b.toNat : Int).toNat).toUInt8 = b := by simp
    rw [readN]
    cases h1 : isOpB b.toNat
    · exact .inl (by simp)
    · cases h2 : hasB b.toNat
      · refine .inr ⟨by simp, ?_, ?_, ?_⟩
        · have := no_number h2
          simp [rightB_iff, h1, this]
        · simp
        · simp [insB, h2]
      · by_cases h3 : (rd r 0 0).2.2 ≠ 0
        · exact .inl (by simp [h3])
        · have h3' : (rd r 0 0).2.2 = 0 := by omega
          cases h4 : rightB b.toNat (sgn (rd r 0 0).1)
          · exact .inl (by simp [h3'])
          · have hr := rd_is (l := r) (n := (rd r 0 0).1) (sz := (rd r 0 0).2.1) (Prod.ext rfl (Prod.ext rfl h3'))
            have hsz := rd_size r 0 0
            refine .inr ⟨by simp [h3'], by simp [h3', h4], ?_, ?_⟩
            · simp [h3']; omega
            · simp only [Bool.true_eq_false, if_false, h3', ne_eq, not_true, insB, h2, if_true, hb8, zig_sgn]
              rw [Nat.add_comm, List.take_succ_cons]
              congr 1
              rw [hr.2]
              have h5 := congrArg (List.take (Lib.uvarint (rd r 0 0).1).length) hr.1
              rw [List.take_left'] at h5
              · exact h5.symm
              · rfl

end Go.Proofs.Ythdpgachdegcgaa
