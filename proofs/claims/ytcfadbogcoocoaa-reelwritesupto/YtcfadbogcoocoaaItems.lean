/-
  Items of the statements: their kinds, and what write does with a writer that is there.
-/
import Derived.Test.YtcfadbogcoocoaaWrCalls
namespace Go.Proofs.Ytcfadbogcoocoaa
open Go.RowKit
set_option linter.unusedVariables false

/-- an item: its kind, its numbers, its text -/
structure It where
  K : Int
  U : Int
  N : Int
  S : ByteArray

def It.val (x : It) : Array Value := #[.int .i64 x.K, .int .u64 x.U, .int .i64 x.N, .string x.S]

/-- what fits its kind of number, and a text within reach -/
structure It.Ok (x : It) : Prop where
  k0 : -9223372036854775808 ≤ x.K
  k1 : x.K ≤ 9223372036854775807
  u0 : 0 ≤ x.U
  u1 : x.U ≤ 18446744073709551615
  n0 : -9223372036854775808 ≤ x.N
  n1 : x.N ≤ 9223372036854775807
  s : x.S.size ≤ 9223372036854775807

theorem kind_mod (K : Int) : wrap64 ((IntKind.u64.wrap K).tmod 4) = K % 4 := by
  have e : IntKind.u64.wrap K = K % 18446744073709551616 := by simp [IntKind.wrap, IntKind.bits, IntKind.signed]
  rw [e, Int.tmod_eq_emod_of_nonneg (by omega), w64 _ (by omega)]
  omega

set_option maxHeartbeats 400000 in
theorem kind_calls (K U N : Int) (S : ByteArray) (h0 : -9223372036854775808 ≤ K) (h1 : K ≤ 9223372036854775807) (w : World) :
    Calls Try.prog 23 #[.agg #[.int .i64 K, .int .u64 U, .int .i64 N, .string S]] w fun e w' => e = .returned (.int .i64 (K % 4)) ∧ w' = w.alloc (.cells #[.int .i64 K, .int .u64 U, .int .i64 N, .string S] 31) := by
  go_enter Try.func23, Try.ntmps23
  go_wp2
  go_ret
  exact ⟨ret_int (kind_mod K), rfl⟩

theorem IsW.alloc {w : World} {b : Nat} {L : Int} {v : Value} {xs : List Int} {E : Int} (h : IsW w b L v xs E) (o : Obj) : IsW (w.alloc o) b L v xs E :=
  h.fr ((Fr.refl (fun _ => False) w).alloc o) (fun h => h) (fun _ _ h => h)

theorem Wrote.unalloc {w w' : World} {b : Nat} {v v' : Value} {o : Obj} (h : Wrote (w.alloc o) w' b v v') : Wrote w w' b v v' :=
  ⟨((Fr.refl _ w).alloc o).trans h.fr (fun _ _ h => h) (fun _ _ h => h), by
    rcases h.at' with e | ⟨g, e, hg⟩
    · exact .inl e
    · exact .inr ⟨g, e, by simp at hg; omega⟩⟩

/-- what an item is written as; none: it is no field -/
def itemBytes (x : It) : Option (List Int) :=
  if x.K % 4 = 0 then some (vb x.U.toNat)
  else if x.K % 4 = 1 then some (vb (Lib.zigzag x.N))
  else if x.K % 4 = 2 then (if 0 ≤ x.N ∧ x.N ≤ 255 then some [x.N] else none)
  else if x.S.size ≤ 65535 then some (vb x.S.size ++ ints x.S.data.toList) else none

def wstep (L : Int) (s : List Int × Int) (x : It) : List Int × Int :=
  match itemBytes x with
  | some ys => put L s ys
  | none => bad s

def byteStep (L : Int) (s : List Int × Int) (n : Int) : List Int × Int := if 0 ≤ n ∧ n ≤ 255 then put L s [n] else bad s
def textStep (L : Int) (s : List Int × Int) (S : ByteArray) : List Int × Int := if S.size ≤ 65535 then put L s (vb S.size ++ ints S.data.toList) else bad s

theorem byte_calls' {w : World} {b : Nat} {L : Int} {v : Value} {xs : List Int} {E : Int} (h : IsW w b L v xs E) (n : Int)
    (h0 : 0 ≤ L) (h1 : L ≤ 9223372036854775807) (hx : xs.length ≤ 9223372036854775807) (hr : Room L xs) :
    Calls Try.prog 30 #[.pointer (some ⟨b, 0, none⟩), .int .i64 n] w fun e w' => e = .returned (.tuple #[]) ∧
      ∃ v', IsW w' b L v' (byteStep L (xs, E) n).1 (byteStep L (xs, E) n).2 ∧ Wrote w w' b v v' := byte_calls h n h0 h1 hx hr

theorem text_calls' {w : World} {b : Nat} {L : Int} {v : Value} {xs : List Int} {E : Int} (h : IsW w b L v xs E) (s : ByteArray) (hs : s.size ≤ 9223372036854775807)
    (h0 : 0 ≤ L) (h1 : L ≤ 9223372036854775807) (hx : xs.length ≤ 9223372036854775807) (hr : Room L xs) :
    Calls Try.prog 31 #[.pointer (some ⟨b, 0, none⟩), .string s] w fun e w' => e = .returned (.tuple #[]) ∧
      ∃ v', IsW w' b L v' (textStep L (xs, E) s).1 (textStep L (xs, E) s).2 ∧ Wrote w w' b v v' := text_calls h s hs h0 h1 hx hr

theorem wstep0 {L : Int} {s : List Int × Int} {x : It} (h : x.K % 4 = 0) : wstep L s x = put L s (vb x.U.toNat) := by simp [wstep, itemBytes, h]
theorem wstep1 {L : Int} {s : List Int × Int} {x : It} (h : x.K % 4 = 1) : wstep L s x = put L s (vb (Lib.zigzag x.N)) := by simp [wstep, itemBytes, h]
theorem wstep2 {L : Int} {s : List Int × Int} {x : It} (h : x.K % 4 = 2) : wstep L s x = byteStep L s x.N := by
  simp only [wstep, itemBytes, h, byteStep]
  by_cases hb : 0 ≤ x.N ∧ x.N ≤ 255 <;> simp [hb]
theorem wstep3 {L : Int} {s : List Int × Int} {x : It} (h : x.K % 4 = 3) : wstep L s x = textStep L s x.S := by
  simp only [wstep, itemBytes, h, textStep]
  by_cases hb : x.S.size ≤ 65535 <;> simp [hb]

set_option maxHeartbeats 1000000 in
theorem write_calls {w : World} {b : Nat} {L : Int} {v : Value} {xs : List Int} {E : Int} (h : IsW w b L v xs E) (x : It) (hx : x.Ok)
    (h0 : 0 ≤ L) (h1 : L ≤ 9223372036854775807) (hl : xs.length ≤ 9223372036854775807) (hr : Room L xs) :
    Calls Try.prog 13 #[.pointer (some ⟨b, 0, none⟩), .agg x.val] w fun e w' => e = .returned (.tuple #[]) ∧
      ∃ v', IsW w' b L v' (wstep L (xs, E) x).1 (wstep L (xs, E) x).2 ∧ Wrote w w' b v v' := by
  obtain ⟨K, U, N, S⟩ := x
  obtain ⟨hk0, hk1, hu0, hu1, hn0, hn1, hs⟩ := hx
  simp only [It.val]
  simp only at hk0 hk1 hu0 hu1 hn0 hn1 hs
  have hc : K % 4 = 0 ∨ K % 4 = 1 ∨ K % 4 = 2 ∨ K % 4 = 3 := by omega
  have H2 := (h.alloc (.cells #[.int .i64 K, .int .u64 U, .int .i64 N, .string S] 31)).alloc (.cells #[.int .i64 K, .int .u64 U, .int .i64 N, .string S] 31)
  rcases hc with hc | hc | hc | hc
  · rw [wstep0 hc]
    have hk0' : (K % 4 == 0) = true := beq_iff_eq.2 hc
    clear hc
    go_enter Try.func13, Try.ntmps13
    go_wp2_with (first | (go_at_call 23; refine (kind_calls K U N S hk0 hk1 _).mono ?_; rintro e w' ⟨rfl, rfl⟩) | (go_at_call 28; refine (num_calls H2 U hu0 hu1 h0 h1 hl hr).mono ?_; rintro e w' ⟨rfl, v', hW, hF⟩))
    go_end0
    exact ⟨rfl, v', hW, hF.unalloc.unalloc⟩
  · rw [wstep1 hc]
    have hk0' : (K % 4 == 0) = false := beq_eq_false_iff_ne.2 (by omega)
    have hk1' : (K % 4 == 1) = true := beq_iff_eq.2 hc
    clear hc
    go_enter Try.func13, Try.ntmps13
    go_wp2_with (first | (go_at_call 23; refine (kind_calls K U N S hk0 hk1 _).mono ?_; rintro e w' ⟨rfl, rfl⟩) | (go_at_call 29; refine (int_calls H2 N hn0 hn1 h0 h1 hl hr).mono ?_; rintro e w' ⟨rfl, v', hW, hF⟩))
    go_end0
    exact ⟨rfl, v', hW, hF.unalloc.unalloc⟩
  · rw [wstep2 hc]
    have hk0' : (K % 4 == 0) = false := beq_eq_false_iff_ne.2 (by omega)
    have hk1' : (K % 4 == 1) = false := beq_eq_false_iff_ne.2 (by omega)
    have hk2' : (K % 4 == 2) = true := beq_iff_eq.2 hc
    clear hc
    go_enter Try.func13, Try.ntmps13
    go_wp2_with (first | (go_at_call 23; refine (kind_calls K U N S hk0 hk1 _).mono ?_; rintro e w' ⟨rfl, rfl⟩) | (go_at_call 30; refine (byte_calls' H2 N h0 h1 hl hr).mono ?_; rintro e w' ⟨rfl, v', hW, hF⟩))
    go_end0
    exact ⟨rfl, v', hW, hF.unalloc.unalloc⟩
  · rw [wstep3 hc]
    have hk0' : (K % 4 == 0) = false := beq_eq_false_iff_ne.2 (by omega)
    have hk1' : (K % 4 == 1) = false := beq_eq_false_iff_ne.2 (by omega)
    have hk2' : (K % 4 == 2) = false := beq_eq_false_iff_ne.2 (by omega)
    have hk3' : (K % 4 == 3) = true := beq_iff_eq.2 hc
    clear hc
    go_enter Try.func13, Try.ntmps13
    go_wp2_with (first | (go_at_call 23; refine (kind_calls K U N S hk0 hk1 _).mono ?_; rintro e w' ⟨rfl, rfl⟩) | (go_at_call 31; refine (text_calls' H2 S hs h0 h1 hl hr).mono ?_; rintro e w' ⟨rfl, v', hW, hF⟩))
    go_end0
    exact ⟨rfl, v', hW, hF.unalloc.unalloc⟩

end Go.Proofs.Ytcfadbogcoocoaa
