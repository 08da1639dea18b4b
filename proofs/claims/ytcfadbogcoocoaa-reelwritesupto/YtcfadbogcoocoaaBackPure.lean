/-
  ReelBack, the plain part: what was written is read again.
-/
import Derived.Test.YtcfadbogcoocoaaRdPure
import Derived.Test.YtcfadbogcoocoaaArgs
namespace Go.Proofs.Ytcfadbogcoocoaa
set_option linter.unusedVariables false

theorem runW_prefix {L : Int} {its : Nat → It} : ∀ (d k : Nat), (runW L its ([], 0) (k + d)).2 = 0 → (runW L its ([], 0) k).2 = 0 ∧ ∃ r, (runW L its ([], 0) (k + d)).1 = (runW L its ([], 0) k).1 ++ r := by
  intro d
  induction d with
  | zero => intro k h; exact ⟨h, [], by simp⟩
  | succ d ih =>
    intro k h
    rw [show k + (d + 1) = (k + d) + 1 by omega] at h ⊢
    simp only [runW] at h ⊢
    obtain ⟨h0, ys, hi, hl, he⟩ := wstep_ok h
    obtain ⟨hk, r, hr⟩ := ih k h0
    exact ⟨hk, r ++ ys, by rw [he, hr]; simp⟩

/-- at step k the next item's bytes stand next -/
theorem back_next {L : Int} {its : Nat → It} {n k : Nat} {l : List UInt8} (hk : k < n) (h : (runW L its ([], 0) n).2 = 0) (hl : (runW L its ([], 0) n).1 = (runW L its ([], 0) k).1 ++ ints l) :
    ∃ zs l', itemBytes (its k) = some (ints zs) ∧ l = zs ++ l' ∧ (runW L its ([], 0) n).1 = (runW L its ([], 0) (k + 1)).1 ++ ints l' := by
  obtain ⟨d, rfl⟩ : ∃ d, n = (k + 1) + d := ⟨n - (k + 1), by omega⟩
  obtain ⟨h1, r, hr⟩ := runW_prefix d (k + 1) h
  simp only [runW] at h1
  obtain ⟨h0, ys, hi, hle, he⟩ := wstep_ok h1
  obtain ⟨zs, rfl⟩ := itemBytes_ints hi
  have e1 : (runW L its ([], 0) (k + 1)).1 = (runW L its ([], 0) k).1 ++ ints zs := by simp only [runW]; rw [he]
  rw [hr, e1, List.append_assoc] at hl
  have e2 := List.append_cancel_left hl
  obtain ⟨l', hl'⟩ : ∃ l', l = zs ++ l' ∧ ints l' = r := by
    unfold ints at e2
    have e3 := congrArg (List.drop zs.length) e2
    simp only [List.drop_left', List.length_map] at e3
    have e4 := congrArg (List.take zs.length) e2
    rw [List.take_left' (by simp), ← List.map_take] at e4
    have e5 : zs = l.take zs.length := ints_inj e4
    refine ⟨l.drop zs.length, ?_, ?_⟩
    · conv => lhs; rw [← List.take_append_drop zs.length l, ← e5]
    · unfold ints; rw [List.map_drop]; rw [← e2]; simp
  exact ⟨zs, l', hi, hl'.1, by rw [hr, hl'.2]⟩

theorem rnum_of (x : Nat) (h : x < 18446744073709551616) (r : List UInt8) : rnum (Lib.uvarint x ++ r) 0 = (x, r, 0) := by
  unfold rnum
  rw [if_neg (by simp), rd_of x h r]
  simp

theorem rbyte_of (b : UInt8) (r : List UInt8) : rbyte (b :: r) 0 = (b.toNat, r, 0) := rfl

theorem rtext_of (s r : List UInt8) (h : s.length ≤ 65535) : rtext (Lib.uvarint s.length ++ s ++ r) 0 = (s, r, 0) := by
  unfold rtext
  rw [if_neg (by simp), List.append_assoc, rd_of s.length (by omega) (s ++ r)]
  simp only
  rw [if_neg (by simp), if_neg (by simp)]
  simp only [Prod.mk.injEq, and_true]
  constructor
  · rw [List.drop_left, List.take_left]
  · rw [← List.drop_drop, List.drop_left, List.drop_left]

theorem back_num {x : It} {zs : List UInt8} (h : itemBytes x = some (ints zs)) (hk : x.K % 4 = 0) (hu : x.Ok) (r : List UInt8) : rnum (zs ++ r) 0 = (x.U.toNat, r, 0) := by
  simp only [itemBytes, hk, if_true, Option.some.injEq] at h
  have e : zs = Lib.uvarint x.U.toNat := (ints_inj h).symm
  rw [e]
  exact rnum_of _ (by have := hu.u1; omega) r

theorem back_int {x : It} {zs : List UInt8} (h : itemBytes x = some (ints zs)) (hk : x.K % 4 = 1) (hu : x.Ok) (r : List UInt8) : rnum (zs ++ r) 0 = (Lib.zigzag x.N, r, 0) := by
  simp [itemBytes, hk] at h
  have e : zs = Lib.uvarint (Lib.zigzag x.N) := (ints_inj h).symm
  rw [e]
  refine rnum_of _ ?_ r
  have h0 := hu.n0
  have h1 := hu.n1
  unfold Lib.zigzag
  split <;> omega

theorem back_byte {x : It} {zs : List UInt8} (h : itemBytes x = some (ints zs)) (hk : x.K % 4 = 2) (r : List UInt8) : ∃ b : UInt8, rbyte (zs ++ r) 0 = (b.toNat, r, 0) ∧ (b.toNat : Int) = x.N := by
  simp [itemBytes, hk] at h
  obtain ⟨hb, h⟩ := h
  match zs, h with
  | [b], h =>
    simp [ints] at h
    exact ⟨b, rfl, h.symm⟩
  | [], h => simp [ints] at h
  | _ :: _ :: _, h => simp [ints] at h

theorem back_text {x : It} {zs : List UInt8} (h : itemBytes x = some (ints zs)) (hk : x.K % 4 = 3) (r : List UInt8) : rtext (zs ++ r) 0 = (x.S.data.toList, r, 0) := by
  simp [itemBytes, hk] at h
  obtain ⟨hb, h⟩ := h
  have e : zs = Lib.uvarint x.S.size ++ x.S.data.toList := (ints_inj (by rw [ints_append]; exact h)).symm
  have e2 := Lib.size_eq x.S
  rw [e, e2]
  exact rtext_of _ r (by omega)

/-- how many bytes the first k items may take -/
def sumB (its : Nat → It) : Nat → Nat
  | 0 => 0
  | k + 1 => sumB its k + (10 + (its k).S.size)

theorem itemBytes_len {x : It} (hx : x.Ok) {ys : List Int} (h : itemBytes x = some ys) : ys.length ≤ 10 + x.S.size := by
  unfold itemBytes at h
  split at h
  · cases h; have := vb_le x.U.toNat (by have := hx.u1; omega); omega
  · split at h
    · cases h
      have hz : Lib.zigzag x.N < 18446744073709551616 := by
        have h0 := hx.n0
        have h1 := hx.n1
        unfold Lib.zigzag
        split <;> omega
      have := vb_le _ hz
      omega
    · split at h
      · split at h
        · cases h; simp; omega
        · cases h
      · split at h
        · cases h
          have := vb_le x.S.size (by omega)
          have := Lib.size_eq x.S
          simp only [List.length_append, ints_length]
          omega
        · cases h

theorem wstep_grow {L : Int} {s : List Int × Int} {x : It} (hx : x.Ok) : (wstep L s x).1.length ≤ s.1.length + (10 + x.S.size) := by
  unfold wstep
  cases hi : itemBytes x with
  | none => simp only [bad]; split <;> first | omega | (simp only; omega)
  | some ys =>
    have := itemBytes_len hx hi
    simp only [put]
    split
    · omega
    · split
      · simp only; omega
      · simp only [List.length_append]; omega

theorem runW_sum {L : Int} {its : Nat → It} {s : List Int × Int} (n : Nat) (hok : ∀ i, i < n → (its i).Ok) : ∀ k, k ≤ n → (runW L its s k).1.length ≤ s.1.length + sumB its k := by
  intro k
  induction k with
  | zero => intro _; simp [runW, sumB]
  | succ k ih =>
    intro hk
    have h1 := ih (by omega)
    have h2 := wstep_grow (L := L) (s := runW L its s k) (hok k (by omega))
    simp only [runW, sumB]
    omega

theorem sumB_mono {its : Nat → It} {k n : Nat} (h : k ≤ n) : sumB its k ≤ sumB its n := by
  induction n with
  | zero => obtain rfl : k = 0 := by omega
            exact Nat.le_refl _
  | succ n ih =>
    by_cases hk : k = n + 1
    · subst hk; exact Nat.le_refl _
    · have := ih (by omega); simp only [sumB]; omega
end Go.Proofs.Ytcfadbogcoocoaa
