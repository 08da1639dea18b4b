/-
  ReelOnly, the plain part: what is read and written again is what was there.
-/
import Derived.Test.YtcfadbogcoocoaaRdPure
import Derived.Test.YtcfadbogcoocoaaArgs
namespace Go.Proofs.Ytcfadbogcoocoaa
set_option linter.unusedVariables false

def OnlyInv (T l : List UInt8) (E : Int) (s : List Int × Int) : Prop :=
  E ≠ 0 ∨ (s.2 = 0 ∧ s.1 ++ ints l = ints T) ∨ (s.2 = 4 ∧ T.length > 65535)

theorem only_put {T l l' : List UInt8} {ys : List UInt8} {s : List Int × Int} (h : (s.2 = 0 ∧ s.1 ++ ints l = ints T) ∨ (s.2 = 4 ∧ T.length > 65535)) (hl : l = ys ++ l') :
    OnlyInv T l' 0 (put T.length s (ints ys)) := by
  obtain ⟨xs, E⟩ := s
  right
  rcases h with ⟨hE, h⟩ | ⟨hE, h⟩
  · simp only at hE h
    subst hE
    subst hl
    have hlen := congrArg List.length h
    simp only [List.length_append, ints_length] at hlen
    rw [put_ok (by rw [ints_length]; omega)]
    left
    refine ⟨rfl, ?_⟩
    rw [← h, ints_append]
    simp
  · simp only at hE
    subst hE
    rw [put_stop _ (by omega)]
    exact .inr ⟨rfl, h⟩

theorem rnum_ok {l : List UInt8} (h : (rnum l 0).2.2 = 0) : l = Lib.uvarint (rnum l 0).1 ++ (rnum l 0).2.1 := by
  have e : rnum l 0 = ((rd l 0 0).1, l.drop (rd l 0 0).2.1, ((rd l 0 0).2.2 : Int)) := by simp [rnum]
  rw [e] at h ⊢
  simp only at h ⊢
  exact (rd_is (n := (rd l 0 0).1) (sz := (rd l 0 0).2.1) (by ext <;> simp; omega)).1

theorem only_num {T l : List UInt8} {E : Int} {s : List Int × Int} (h : OnlyInv T l E s) : OnlyInv T (rnum l E).2.1 (rnum l E).2.2 (put T.length s (vb (rnum l E).1)) := by
  by_cases hE : E = 0
  · subst hE
    by_cases he : (rnum l 0).2.2 = 0
    · rw [he]
      rcases h with h | h
      · exact absurd rfl h
      · exact only_put h (rnum_ok he)
    · exact .inl he
  · left
    simp [rnum, hE]

theorem only_byte {T l : List UInt8} {E : Int} {s : List Int × Int} (h : OnlyInv T l E s) : OnlyInv T (rbyte l E).2.1 (rbyte l E).2.2 (byteStep T.length s (rbyte l E).1) := by
  by_cases hE : E = 0
  · subst hE
    cases l with
    | nil => left; simp [rbyte]
    | cons x r =>
      have e : rbyte (x :: r) 0 = (x.toNat, r, 0) := rfl
      rw [e]
      simp only
      have hx := x.toNat_lt
      unfold byteStep
      rw [if_pos (by omega)]
      rcases h with h | h
      · exact absurd rfl h
      · exact only_put (ys := [x]) h rfl
  · left
    simp [rbyte, hE]

theorem only_text {T l : List UInt8} {E : Int} {s : List Int × Int} (h : OnlyInv T l E s) (hlen : l.length ≤ T.length) : OnlyInv T (rtext l E).2.1 (rtext l E).2.2 (textStep T.length s (ba (rtext l E).1)) := by
  by_cases hE : E = 0
  · subst hE
    rcases h with h | h
    · exact absurd rfl h
    unfold rtext
    rw [if_neg (by simp)]
    split
    · left; simp only; omega
    · rename_i he
      split
      · left; simp
      · rename_i hgt
        have hr := rd_is (l := l) (n := (rd l 0 0).1) (sz := (rd l 0 0).2.1) (by ext <;> simp; omega)
        generalize (rd l 0 0).1 = n at *
        generalize (rd l 0 0).2.1 = sz at *
        obtain ⟨hl, hsz⟩ := hr
        have hll := congrArg List.length hl
        simp only [List.length_append, List.length_drop] at hll
        have htl : ((l.drop sz).take n).length = n := by simp; omega
        simp only
        unfold textStep
        rw [ba_size, htl, ba_list]
        split
        · have hq := only_put (ys := Lib.uvarint n ++ (l.drop sz).take n) (l' := l.drop (sz + n)) h (by
            rw [List.append_assoc]
            have e : (l.drop sz).take n ++ l.drop (sz + n) = l.drop sz := by rw [← List.drop_drop, List.take_append_drop]
            rw [e]
            exact hl)
          rw [ints_append] at hq
          exact hq
        · rename_i hbig
          right
          have hT : T.length > 65535 := by omega
          obtain ⟨xs, E⟩ := s
          rcases h with ⟨hE, h⟩ | ⟨hE, h⟩
          · simp only at hE; subst hE; rw [bad_ok]; exact .inr ⟨rfl, hT⟩
          · simp only at hE; subst hE; rw [bad_stop (by omega)]; exact .inr ⟨rfl, hT⟩
  · left
    simp [rtext, hE]

theorem rnum_le (l : List UInt8) (E : Int) : (rnum l E).2.1.length ≤ l.length := by
  unfold rnum; split <;> simp
theorem rbyte_le (l : List UInt8) (E : Int) : (rbyte l E).2.1.length ≤ l.length := by
  unfold rbyte; split
  · simp
  · split <;> simp
theorem rtext_le (l : List UInt8) (E : Int) : (rtext l E).2.1.length ≤ l.length := by
  unfold rtext; split
  · simp
  · split
    · simp
    · split <;> simp
theorem rtext_len (l : List UInt8) (E : Int) : (rtext l E).1.length ≤ l.length := by
  unfold rtext; split
  · simp
  · split
    · simp
    · split
      · simp
      · simp; omega
end Go.Proofs.Ytcfadbogcoocoaa
