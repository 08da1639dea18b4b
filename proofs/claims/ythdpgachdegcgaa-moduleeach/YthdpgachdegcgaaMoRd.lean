/-
  The reader of a module's parts (it embeds reel's): magic, types, instr.
-/
import Derived.Test.YthdpgachdegcgaaMoFill
import Derived.Test.YthdpgachdegcgaaMoWr
import Derived.Deep.RegionHeld3
namespace Go.Proofs.Ythdpgachdegcgaa
open Go.RowKit
set_option linter.unusedVariables false
set_option maxRecDepth 8192

theorem rUp_le (most : Nat) (s : RS) : (rUp most s).1 ≤ most := by unfold rUp; split <;> simp; omega
theorem infoTy : (Try.prog.info? 82).map (fun i => (i.zero, i.size, i.bytes)) = some (some (.int .i64 0), 1, 8) := by kernel_rfl
theorem infoIn : (Try.prog.info? 37).map (fun i => (i.zero, i.size, i.bytes)) = some (some (insV 0 0), 2, 16) := by kernel_rfl
theorem infoCl : (Try.prog.info? 89).map (fun i => (i.zero, i.size, i.bytes)) = some (some (insV 0 0), 2, 16) := by kernel_rfl
theorem infoTb : (Try.prog.info? 87).map (fun i => (i.zero, i.size, i.bytes)) = some (some (.agg #[.slice none 0 0, .int .i64 0]), 2, 32) := by kernel_rfl
theorem infoAc : (Try.prog.info? 42).map (fun i => (i.zero, i.size, i.bytes)) = some (some (.agg #[.slice none 0 0, .slice none 0 0, .slice none 0 0, .slice none 0 0, .slice none 0 0]), 5, 120) := by kernel_rfl

theorem rep_all {α : Type} {f : RS → α × RS} {P : α → Prop} (h : ∀ s, P (f s).1) (k : Nat) (s : RS) : ∀ x ∈ (rep f k s).1, P x := by
  induction k with
  | zero => intro x hx; simp [rep] at hx
  | succ k ih =>
    intro x hx
    simp only [rep, List.mem_append, List.mem_singleton] at hx
    rcases hx with hx | rfl
    · exact ih x hx
    · exact h _

/-- what one byte does -/
theorem by_calls {w : World} {q b : Nat} {Tx : List UInt8} {s : RS} (h : MR w q b Tx s) :
    Calls Try.prog 49 #[.pointer (some ⟨b, 0, none⟩)] w fun e w' => e = .returned (.int .i64 (rBy s).1) ∧ MR w' q b Tx (rBy s).2 ∧ Fr (fun k => k = b) w w' := by
  have hl := h.left
  refine (rbyte_calls h.rd (by omega)).mono ?_
  rintro e w' ⟨rfl, hR, hF⟩
  exact ⟨rfl, h.on hR hF (rbyte_suf _ _), hF⟩

theorem rBy_in (s : RS) : 0 ≤ (rBy s).1 ∧ (rBy s).1 ≤ 255 := by
  unfold rBy; have := rbyte_le s.l s.E; exact ⟨by omega, by simp; omega⟩

set_option maxHeartbeats 2000000 in
theorem rdTypes_calls {w : World} {q b : Nat} {Tx : List UInt8} {s : RS} (h : MR w q b Tx s) (most : Nat) (hm : most ≤ 1000) :
    Calls Try.prog 51 #[.pointer (some ⟨q, 0, none⟩), .int .i64 most] w fun e w' => ∃ g n, e = .returned (.slice (some ⟨g, 0, none⟩) n n) ∧
      TyA w.heap.size w'.heap.size w' (some ⟨g, 0, none⟩) n (rTypes most s).1 ∧ MR w' q b Tx (rTypes most s).2 ∧ Fr (QR q b) w w' := by
  have hle := rUp_le most s
  have hup := upTo_calls h most hm
  have hql := h.lt
  unfold rTypes
  generalize rUp most s = p at *
  obtain ⟨N, s1⟩ := p
  dsimp only at *
  have HU := hide hup
  clear hup h
  go_enter Try.func51, Try.ntmps51
  go_wp2_with (first
    | (go_at_call 33; refine (unhide HU).mono ?_; rintro e w2 ⟨rfl, hM2, hF2⟩; have HM2 := hide hM2; clear hM2)
    | (at_make; refine wpList_make_n _ rfl _ _ 38 rfl 82 (.int .i64 0) 1 8 Try.underlying38 infoTy .i64 .i64 N rfl rfl (by omega) (by unfold maxLen; omega) ?_; intro cs hcs))
  have hsz2 := hF2.size
  have HF3 : Hid (Fill (fun _ _ => TV) 1 N w2.heap.size 82 (w2.alloc (.cells cs 82)) ([] : List Int)) := hide (Fill.start (blk_new w2 _) hcs)
  have q3 : Fr (fun _ => False) w2 (w2.alloc (.cells cs 82)) := (Fr.refl _ _).alloc _
  have HM3 := hide ((unhide HM2).q0 q3)
  have F3 := frQt hF2 (frQ0 (q := q) (b := b) q3)
  clear hcs hF2 HM2 q3
  generalize w2.alloc (.cells cs 82) = w3 at *
  generalize w2.heap.size = g at *
  go_loopw [13] (fun ix w' => ∃ (k : Nat), k ≤ N ∧ ix = .int .i64 k ∧ Fill (fun _ _ => TV) 1 N g 82 w' (rep rBy k s1).1 ∧ MR w' q b Tx (rep rBy k s1).2 ∧ Fr (QR q b) w w') (fun ix w' => N - (intOf ix).toNat)
  case atStart => exact ⟨0, Nat.zero_le _, rfl, unhide HF3, unhide HM3, F3⟩
  case round =>
    clear F3 HF3 HM3
    obtain ⟨k, hk, rfl, hFl, hM, hF⟩ := hrel
    by_cases hlt : k < N
    · have k0 := hM.c0
      have HM := hide hM
      have HFl := hide hFl
      have hbx := rBy_in (rep rBy k s1).2
      have HR := hide (show rep rBy (k + 1) s1 = ((rep rBy k s1).1 ++ [(rBy (rep rBy k s1).2).1], (rBy (rep rBy k s1).2).2) from rfl)
      have HL := hide (rep_length rBy k s1)
      have HB := hide (by_calls hM)
      clear hM hFl
      generalize (rBy (rep rBy k s1).2) = p at *
      obtain ⟨t, s2⟩ := p
      dsimp only at *
      go_wp2_with (go_at_call 49; refine (unhide HB).mono ?_; rintro e w4 ⟨rfl, hM4, hF4⟩; have HFl4 := hide (Fill.fr niceT (unhide HFl) hF4 (fun k hk => by omega)); obtain ⟨u, o1, o2⟩ := (unhide HFl4).old (p := k) (by omega); have hlt4 := (unhide HFl4).lt)
      go_roundw
      case rel =>
        have fs := Fr.set1 w4 g k (.int .i64 t)
        refine ⟨k + 1, by omega, by go_num, ?_, ?_, ?_⟩
        · rw [unhide HR]
          refine ((unhide HFl4).set niceT (p := k) (by rw [unhide HL]; omega) _).snoc (vs := [.int .i64 t]) rfl ?_ ⟨rfl, by omega⟩
          intro i v hi
          rw [unhide HL, Nat.mul_one]
          match i, hi with
          | 0, hi => simp at hi; subst hi; exact (unhide HFl4).cell (by omega) _
        · rw [unhide HR]; exact hM4.fr fs (by omega) (by omega)
        · exact (frQt hF (frQ hF4)).setAt _ _ _ (.inl (by omega))
      case measure => simp [intOf]; omega
    · have hkN : k = N := by omega
      subst hkN
      go_wp2
      go_ret
      exact ⟨g, k, rfl, hFl.arr niceT (rep_length _ _ _) (by omega) hsz2, hM, hF⟩

end Go.Proofs.Ythdpgachdegcgaa
