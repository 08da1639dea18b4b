/-
  The reader of a module's parts: magic, actor, module; Read.
-/
import Derived.Test.YthdpgachdegcgaaMoRdL
import Derived.Test.YthdpgachdegcgaaMoWrM
namespace Go.Proofs.Ythdpgachdegcgaa
open Go.RowKit
set_option linter.unusedVariables false
set_option maxRecDepth 8192

theorem MR.drew {w : World} {q b : Nat} {Tx : List UInt8} {s : RS} (h : MR w q b Tx s) : MR w.drew q b Tx s := h.q0 ((Fr.refl _ _).drew)

theorem magic_at (k : Nat) (h : k < (⟨#[67, 66, 49]⟩ : ByteArray).size) : IntKind.i64.wrap (((⟨#[67, 66, 49]⟩ : ByteArray)[k]'h).toNat : Int) = magN k := by
  have h' : k < 3 := h
  have h012 : k = 0 ∨ k = 1 ∨ k = 2 := by omega
  rcases h012 with rfl | rfl | rfl <;> rfl

set_option maxHeartbeats 2000000 in
theorem rdMagic_calls {w : World} {q b : Nat} {Tx : List UInt8} {s : RS} (h : MR w q b Tx s) :
    Calls Try.prog 32 #[.pointer (some ⟨q, 0, none⟩)] w fun e w' => e = .returned (.tuple #[]) ∧ MR w' q b Tx (rMag 3 s) ∧ Fr (QR q b) w w' := by
  have H := hide h
  clear h
  go_enter Try.func32, Try.ntmps32
  go_wp2
  go_loopw [3] (fun ix w' => ∃ (k : Nat), k ≤ 3 ∧ ix = .int .i64 k ∧ MR w' q b Tx (rMag k s) ∧ Fr (QR q b) w w') (fun ix w' => 3 - (intOf ix).toNat)
  case atStart => exact ⟨0, Nat.zero_le _, rfl, unhide H, Fr.refl _ _⟩
  case round =>
    obtain ⟨k, hk, rfl, hM, hF⟩ := hrel
    by_cases hlt : k < 3
    · have HR := hide (show rMag (k + 1) s = ⟨(rBy (rMag k s)).2.l, (rBy (rMag k s)).2.E, (rMag k s).bad || (rBy (rMag k s)).1 != magN k⟩ from rfl)
      have hbd := hide (show (rBy (rMag k s)).2.bad = (rMag k s).bad from rfl)
      have HM := hide hM.drew
      have k0 := hM.drew.c0
      have k0' := hM.c0
      have HB := hide (by_calls hM.drew)
      clear hM
      generalize rMag k s = s0 at *
      generalize rBy s0 = p at *
      obtain ⟨t, s1⟩ := p
      dsimp only at *
      have hmg := magic_at k hlt
      have hki : (k : Int) < 3 := by omega
      generalize magN k = mk at *
      rcases Classical.em (t = mk) with he | he
      · have hne : (t != mk) = false := bne_eq_false_iff_eq.2 he
        rw [hne, Bool.or_false, ← unhide hbd] at HR
        clear he
        go_wp2
        go_region_with (go_at_call 49; refine (unhide HB).mono ?_; rintro e w2 ⟨rfl, hM2, hF2⟩)
        all_goals
          go_wp2
          go_roundw
          case rel => exact ⟨k + 1, by omega, by go_num, by rw [unhide HR]; exact hM2, frQt (hF.drew) (frQ hF2)⟩
          case measure => simp [intOf]; omega
      · have hne : (t != mk) = true := bne_iff_ne.2 he
        rw [hne, Bool.or_true] at HR
        clear he
        go_wp2
        go_region_with (go_at_call 49; refine (unhide HB).mono ?_; rintro e w2 ⟨rfl, hM2, hF2⟩; have f2 := hM2.f2; have c2 := hM2.c2)
        all_goals
          go_wp2
          go_roundw
          case rel => exact ⟨k + 1, by omega, by go_num, by rw [unhide HR]; exact hM2.wrong.1, frQt (frQt (hF.drew) (frQ hF2)) hM2.wrong.2⟩
          case measure => simp [intOf]; omega
    · have hk3 : k = 3 := by omega
      subst hk3
      go_wp2
      go_end0
      exact ⟨rfl, hM, hF⟩

end Go.Proofs.Ythdpgachdegcgaa
