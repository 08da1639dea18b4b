/-
  A list of items that came in, and writers beside one another.
-/
import Derived.Test.YtcfadbogcoocoaaItems
namespace Go.Proofs.Ytcfadbogcoocoaa
open Go.RowKit
set_option linter.unusedVariables false

/-- the slice's items lie in memory -/
structure Has (w : World) (a : Option Addr) (len : Nat) (its : Nat → It) : Prop where
  small : len ≤ 9223372036854775807
  at' : len = 0 ∨ ∃ b off, a = some ⟨b, off, none⟩ ∧ b < w.heap.size ∧ ∀ i, i < len → (its i).Ok ∧
    w.cell? ⟨b, off + i * 4, none⟩ = some (.int .i64 (its i).K) ∧ w.cell? ⟨b, off + i * 4 + 1, none⟩ = some (.int .u64 (its i).U) ∧
    w.cell? ⟨b, off + i * 4 + 2, none⟩ = some (.int .i64 (its i).N) ∧ w.cell? ⟨b, off + i * 4 + 3, none⟩ = some (.string (its i).S)

theorem Has.below {w w' : World} {a : Option Addr} {len : Nat} {its : Nat → It} (h : Has w a len its) (hb : Below w.heap.size w w') : Has w' a len its := by
  refine ⟨h.small, ?_⟩
  rcases h.at' with h0 | ⟨b, off, rfl, hlt, hc⟩
  · exact .inl h0
  · refine .inr ⟨b, off, rfl, Nat.lt_of_lt_of_le hlt hb.size, fun i hi => ?_⟩
    obtain ⟨ok, c0, c1, c2, c3⟩ := hc i hi
    exact ⟨ok, (hb.cell (by exact hlt)).trans c0, (hb.cell (by exact hlt)).trans c1, (hb.cell (by exact hlt)).trans c2, (hb.cell (by exact hlt)).trans c3⟩

theorem Has.get {w : World} {a : Option Addr} {len : Nat} {its : Nat → It} (h : Has w a len its) {i : Nat} (hi : i < len) : ∃ b off, a = some ⟨b, off, none⟩ ∧ (its i).Ok ∧
    w.cell? ⟨b, off + i * 4, none⟩ = some (.int .i64 (its i).K) ∧ w.cell? ⟨b, off + i * 4 + 1, none⟩ = some (.int .u64 (its i).U) ∧
    w.cell? ⟨b, off + i * 4 + 2, none⟩ = some (.int .i64 (its i).N) ∧ w.cell? ⟨b, off + i * 4 + 3, none⟩ = some (.string (its i).S) := by
  rcases h.at' with h0 | ⟨b, off, rfl, hlt, hc⟩
  · omega
  · exact ⟨b, off, rfl, hc i hi⟩

/-- two slices in no common block -/
def Apart (v1 v2 : Value) : Prop := ∀ k, v1.ownBlock = some k → v2.ownBlock = some k → False

theorem Apart.symm {v1 v2 : Value} (h : Apart v1 v2) : Apart v2 v1 := fun k h1 h2 => h k h2 h1
theorem Apart.nil (n : Nat) (v : Value) : Apart (.slice none n n) v := fun k h => by simp [Value.ownBlock] at h

theorem row_lt {w : World} {b : Nat} {L : Int} {v : Value} {xs : List Int} {E : Int} (h : IsW w b L v xs E) {k : Nat} (hk : v.ownBlock = some k) : k < w.heap.size := (h.own.lt k hk).2

theorem row_ne {w : World} {b b2 : Nat} {L L2 : Int} {v v2 : Value} {xs xs2 : List Int} {E E2 : Int} (h : IsW w b L v xs E) (h2 : IsW w b2 L2 v2 xs2 E2) : v.ownBlock ≠ some b2 := by
  intro hb
  rcases h.own.2 with ⟨rfl, hn⟩ | ⟨g, cap, cur, rfl, _, hg, _⟩
  · simp [Value.ownBlock] at hb
  · simp [Value.ownBlock] at hb
    subst hb
    rw [h2.blk] at hg
    simp at hg

/-- a writer beside the one that was called on -/
theorem IsW.other {w w' : World} {b1 b2 : Nat} {L1 L2 : Int} {v1 v1' v2 : Value} {x1 x2 : List Int} {E1 E2 : Int} (h1 : IsW w b1 L1 v1 x1 E1) (h2 : IsW w b2 L2 v2 x2 E2)
    (hne : b1 ≠ b2) (ha : Apart v1 v2) (hw : Wrote w w' b1 v1 v1') : IsW w' b2 L2 v2 x2 E2 ∧ Apart v1' v2 := by
  refine ⟨h2.fr hw.fr ?_ ?_, ?_⟩
  · rintro (h | h)
    · exact hne h.symm
    · exact row_ne h1 h2 h
  · rintro k hk (h | h)
    · subst h; exact row_ne h2 h1 hk
    · exact ha k h hk
  · intro k hk hk2
    rcases hw.at' with e | ⟨g, e, hg⟩
    · rw [e] at hk; exact ha k hk hk2
    · rw [e] at hk
      cases hk
      have := row_lt h2 hk2
      omega

/-- what is left alone below B -/
theorem Wrote.below {w w' : World} {b B : Nat} {L : Int} {v v' : Value} {xs : List Int} {E : Int} (h : IsW w b L v xs E) (hw : Wrote w w' b v v') (hb : B ≤ b) (hv : ∀ k, v.ownBlock = some k → B ≤ k) :
    Below B w w' ∧ ∀ k, v'.ownBlock = some k → B ≤ k := by
  have hlt := lt_of_blk h.blk
  refine ⟨hw.fr.below (by omega) ?_, ?_⟩
  · rintro k hk (h | h)
    · omega
    · have := hv k h; omega
  · intro k hk
    rcases hw.at' with e | ⟨g, e, hg⟩
    · rw [e] at hk; exact hv k hk
    · rw [e] at hk; cases hk; omega

/-- what a writer has behind the first k items -/
def runW (L : Int) (its : Nat → It) (s : List Int × Int) : Nat → List Int × Int
  | 0 => s
  | k + 1 => wstep L (runW L its s k) (its k)

theorem put_len {L : Int} {s : List Int × Int} {ys : List Int} (h : (s.1.length : Int) ≤ L) : ((put L s ys).1.length : Int) ≤ L := by
  unfold put
  split
  · exact h
  · split
    · exact h
    · simp only [List.length_append]; omega

theorem wstep_len {L : Int} {s : List Int × Int} {x : It} (h : (s.1.length : Int) ≤ L) : ((wstep L s x).1.length : Int) ≤ L := by
  unfold wstep
  split
  · exact put_len h
  · unfold bad; split <;> exact h

theorem runW_len {L : Int} {its : Nat → It} {s : List Int × Int} (h : (s.1.length : Int) ≤ L) (k : Nat) : ((runW L its s k).1.length : Int) ≤ L := by
  induction k with
  | zero => exact h
  | succ k ih => exact wstep_len ih

/-- the step where nothing goes wrong -/
theorem wstep_ok {L : Int} {s : List Int × Int} {x : It} (h : (wstep L s x).2 = 0) : s.2 = 0 ∧ ∃ ys, itemBytes x = some ys ∧ (ys.length : Int) ≤ L - s.1.length ∧ wstep L s x = (s.1 ++ ys, 0) := by
  obtain ⟨xs, E⟩ := s
  unfold wstep at h ⊢
  cases hi : itemBytes x with
  | none =>
    rw [hi] at h
    simp only [bad] at h
    split at h
    · simp_all
    · simp at h
  | some ys =>
    rw [hi] at h
    simp only at h
    by_cases hE : E = 0
    · subst hE
      by_cases hl : (ys.length : Int) > L - xs.length
      · rw [put_long hl] at h; simp at h
      · have hl' : (ys.length : Int) ≤ L - xs.length := by omega
        exact ⟨rfl, ys, rfl, hl', put_ok hl'⟩
    · rw [put_stop _ hE] at h
      exact absurd h hE

theorem wstep_of {L : Int} {xs ys : List Int} {x : It} (hi : itemBytes x = some ys) (hl : (ys.length : Int) ≤ L - xs.length) : wstep L (xs, 0) x = (xs ++ ys, 0) := by
  unfold wstep; rw [hi]; exact put_ok hl

/-- a wider writer has the same, behind what it had -/
theorem runW_wider {L M : Int} {its : Nat → It} (pre : List Int) (hM : L + pre.length ≤ M) : ∀ k, (runW L its ([], 0) k).2 = 0 → runW M its (pre, 0) k = (pre ++ (runW L its ([], 0) k).1, 0) := by
  intro k
  induction k with
  | zero => intro _; simp [runW]
  | succ k ih =>
    intro h
    simp only [runW] at h ⊢
    obtain ⟨h0, ys, hi, hl, he⟩ := wstep_ok h
    rw [ih h0, he, wstep_of hi (by simp only [List.length_append]; omega)]
    simp

theorem itemBytes_ints {x : It} {ys : List Int} (h : itemBytes x = some ys) : ∃ bs, ys = ints bs := by
  unfold itemBytes at h
  split at h
  · cases h; exact ⟨_, vb_ints _⟩
  · split at h
    · cases h; exact ⟨_, vb_ints _⟩
    · split at h
      · split at h
        · rename_i hb
          cases h
          refine ⟨[UInt8.ofNat x.N.toNat], ?_⟩
          simp only [ints, List.map_cons, List.map_nil, UInt8.toNat_ofNat']
          have e : ((x.N.toNat % 2 ^ 8 : Nat) : Int) = x.N := by omega
          rw [e]
        · cases h
      · split at h
        · cases h; exact ⟨Lib.uvarint x.S.size ++ x.S.data.toList, by rw [ints_append]; rfl⟩
        · cases h

theorem wstep_ints {L : Int} {s : List Int × Int} {x : It} (h : ∃ bs, s.1 = ints bs) : ∃ bs, (wstep L s x).1 = ints bs := by
  obtain ⟨bs, hb⟩ := h
  unfold wstep
  cases hi : itemBytes x with
  | none => simp only [bad]; split <;> exact ⟨bs, hb⟩
  | some ys =>
    obtain ⟨cs, hc⟩ := itemBytes_ints hi
    simp only [put]
    split
    · exact ⟨bs, hb⟩
    · split
      · exact ⟨bs, hb⟩
      · exact ⟨bs ++ cs, by rw [ints_append, hb, hc]⟩

theorem put_ints {L : Int} {s : List Int × Int} {ys : List Int} (h : ∃ bs, s.1 = ints bs) (hy : ∃ bs, ys = ints bs) : ∃ bs, (put L s ys).1 = ints bs := by
  obtain ⟨bs, hb⟩ := h
  obtain ⟨cs, hc⟩ := hy
  simp only [put]
  split
  · exact ⟨bs, hb⟩
  · split
    · exact ⟨bs, hb⟩
    · exact ⟨bs ++ cs, by rw [ints_append, hb, hc]⟩

theorem byte_ints {n : Int} (h : 0 ≤ n ∧ n ≤ 255) : ∃ bs, [n] = ints bs := by
  refine ⟨[UInt8.ofNat n.toNat], ?_⟩
  simp only [ints, List.map_cons, List.map_nil, UInt8.toNat_ofNat']
  have e : ((n.toNat % 2 ^ 8 : Nat) : Int) = n := by omega
  rw [e]

theorem bad_ints {s : List Int × Int} (h : ∃ bs, s.1 = ints bs) : ∃ bs, (bad s).1 = ints bs := by
  simp only [bad]; split <;> exact h

theorem bad_len {L : Int} {s : List Int × Int} (h : (s.1.length : Int) ≤ L) : ((bad s).1.length : Int) ≤ L := by
  simp only [bad]; split <;> exact h

theorem byteStep_ints {L : Int} {s : List Int × Int} {n : Int} (h : ∃ bs, s.1 = ints bs) : ∃ bs, (byteStep L s n).1 = ints bs := by
  unfold byteStep; split
  · rename_i hn; exact put_ints h (byte_ints hn)
  · exact bad_ints h
theorem byteStep_len {L : Int} {s : List Int × Int} {n : Int} (h : (s.1.length : Int) ≤ L) : ((byteStep L s n).1.length : Int) ≤ L := by
  unfold byteStep; split
  · exact put_len h
  · exact bad_len h
theorem textStep_ints {L : Int} {s : List Int × Int} {S : ByteArray} (h : ∃ bs, s.1 = ints bs) : ∃ bs, (textStep L s S).1 = ints bs := by
  unfold textStep; split
  · exact put_ints h ⟨Lib.uvarint S.size ++ S.data.toList, by rw [ints_append]; rfl⟩
  · exact bad_ints h
theorem textStep_len {L : Int} {s : List Int × Int} {S : ByteArray} (h : (s.1.length : Int) ≤ L) : ((textStep L s S).1.length : Int) ≤ L := by
  unfold textStep; split
  · exact put_len h
  · exact bad_len h

theorem runW_ints {L : Int} {its : Nat → It} {s : List Int × Int} (h : ∃ bs, s.1 = ints bs) (k : Nat) : ∃ bs, (runW L its s k).1 = ints bs := by
  induction k with
  | zero => exact h
  | succ k ih => exact wstep_ints ih

theorem ints_inj {a b : List UInt8} (h : ints a = ints b) : a = b := by
  unfold ints at h
  refine List.map_inj_right ?_ |>.1 h
  intro x y hxy
  exact UInt8.toNat_inj.1 (by omega)

/-- what Done answers -/
def doneText (bs : List UInt8) (E : Int) : ByteArray := if E = 0 then ⟨bs.toArray⟩ else ⟨#[]⟩

theorem done_any {w : World} {b : Nat} {L : Int} {v : Value} {bs : List UInt8} {E : Int} (h : IsW w b L v (ints bs) E) :
    Calls Try.prog 16 #[.pointer (some ⟨b, 0, none⟩)] w fun e w' => e = .returned (.tuple #[.string (doneText bs E), .int .i64 E]) ∧ ∃ nq, w' = w.drewN nq := by
  by_cases hE : E = 0
  · subst hE
    refine (done_ok h).mono ?_
    rintro e w' ⟨rfl, rfl⟩
    exact ⟨by simp [doneText], 0, rfl⟩
  · refine (done_no h hE).mono ?_
    rintro e w' ⟨rfl, nq, rfl⟩
    exact ⟨by simp [doneText, hE], nq, rfl⟩

theorem IsW.drewN {w : World} {b : Nat} {L : Int} {v : Value} {xs : List Int} {E : Int} (h : IsW w b L v xs E) (n : Nat) : IsW (w.drewN n) b L v xs E :=
  h.fr ((Fr.refl (fun _ => False) w).drewN n) (fun h => h) (fun _ _ h => h)

end Go.Proofs.Ytcfadbogcoocoaa
