/-
  Which lists of numbers are the same (callboyref01.SameInts); a step's kind.
-/
import Derived.Test.YtanmhjnelhjejaaRgAllLaw
namespace Go.Proofs.Ytanmhjnelhjejaa
open Go.RowKit
set_option linter.unusedVariables false
set_option maxRecDepth 8192

/-- a slice whose numbers are l -/
def Sl (w : World) (v : Value) (l : List Int) : Prop := ∃ a c, v = .slice a l.length c ∧ ∀ i x, l[i]? = some x → ∃ b off, a = some ⟨b, off, none⟩ ∧ w.cell? ⟨b, off + i, none⟩ = some (.int .i64 x)

theorem Own1.sl {w : World} {lo : Nat} {v : Value} {l : List Int} (h : Own1 w lo v l) (hs : l.length ≤ 9223372036854775807) : Sl w v l := by
  obtain ⟨a, c, h1, h2⟩ := h.arr hs
  refine ⟨a, c, h1, fun i x hx => ?_⟩
  obtain ⟨b, g1, _, _, g2⟩ := h2 i x hx
  exact ⟨b, 0, g1, by rw [Nat.zero_add]; exact g2⟩

theorem Own1.fr {P : Nat → Prop} {w w' : World} {lo : Nat} {v : Value} {l : List Int} (h : Own1 w lo v l) (hf : Fr P w w') (hP : ∀ k, lo ≤ k → ¬ P k) : Own1 w' lo v l := by
  refine ⟨h.1, ?_⟩
  rcases h.2 with h2 | ⟨g, cap, cur, rfl, hb, hg, rest⟩
  · exact .inl h2
  · exact .inr ⟨g, cap, cur, rfl, hb, hf.blk hg (hP g hb), rest⟩

set_option maxHeartbeats 2000000 in
theorem same_true {w : World} {v1 v2 : Value} {l : List Int} (h1 : Sl w v1 l) (h2 : Sl w v2 l) (hl : l.length ≤ 9223372036854775806) :
    Calls Try.prog 25 #[v1, v2] w fun e w' => e = .returned (.bool true) ∧ Fr (fun _ => False) w w' := by
  obtain ⟨a1, c1, rfl, g1⟩ := h1
  obtain ⟨a2, c2, rfl, g2⟩ := h2
  obtain ⟨n, hn⟩ : ∃ n, l.length = n := ⟨_, rfl⟩
  have HN := hide hn
  rw [hn] at hl ⊢
  clear hn
  go_enter Try.func25, Try.ntmps25
  go_wp2
  go_loopw [5] (fun i wr => ∃ k : Nat, k ≤ n ∧ i = .int .i64 k ∧ Fr (fun _ => False) w wr) (fun i _ => n - (intOf i).toNat)
  case atStart => exact ⟨0, Nat.zero_le _, rfl, Fr.refl _ _⟩
  case round =>
    obtain ⟨k, hk, rfl, hF⟩ := hrel
    by_cases hlt : k < n
    · obtain ⟨x, hx⟩ : ∃ x, l[k]? = some x := ⟨l[k]'(by have := HN.out; omega), List.getElem?_eq_getElem _⟩
      obtain ⟨b1, o1, rfl, d1⟩ := g1 k x hx
      obtain ⟨b2, o2, rfl, d2⟩ := g2 k x hx
      have e1 := cell_fr hF (fun h => h) d1
      have e2 := cell_fr hF (fun h => h) d2
      have hkn : (k : Int) < (n : Int) := by omega
      clear hx d1 d2
      go_wp2
      go_quiet (fail)
      go_wp2
      go_roundw
      case rel => exact ⟨k + 1, by omega, by go_num, hF.drewN _⟩
      case measure => simp [intOf]; omega
    · obtain rfl : k = n := by omega
      go_wp2
      go_ret
      exact ⟨rfl, hF⟩

def kd (k : Int) : Int := wrap64 ((IntKind.u64.wrap k).tmod 4)

theorem kd_lt (k : Int) : kd k = 0 ∨ kd k = 1 ∨ kd k = 2 ∨ kd k = 3 := by
  unfold kd
  have h1 : 0 ≤ IntKind.u64.wrap k := by simp [IntKind.wrap, IntKind.signed, IntKind.bits]; omega
  obtain ⟨n, hn⟩ := Int.eq_ofNat_of_zero_le h1
  rw [hn]
  have e : (Int.ofNat n).tmod 4 = ((n % 4 : Nat) : Int) := rfl
  have h2 := Nat.mod_lt n (show 0 < 4 by omega)
  simp only [Int.ofNat_eq_natCast] at e ⊢
  rw [e]
  unfold wrap64
  omega

def opV (k x : Int) : Value := .agg #[.int .i64 k, .int .i64 x]

set_option maxHeartbeats 1000000 in
theorem kind_calls (k x : Int) (w : World) :
    Calls Try.prog 13 #[.agg #[.int .i64 k, .int .i64 x]] w fun e w' => e = .returned (.int .i64 (kd k)) ∧ Fr (fun _ => False) w w' := by
  go_enter Try.func13, Try.ntmps13
  go_wp2
  go_ret
  exact ⟨rfl, (Fr.refl _ w).alloc _⟩

end Go.Proofs.Ytanmhjnelhjejaa
