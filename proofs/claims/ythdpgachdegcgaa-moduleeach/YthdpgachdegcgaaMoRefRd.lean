/-
  The document's reader of a module's parts: count, a list of types.
-/
import Derived.Test.YthdpgachdegcgaaMoRefRdPure
import Derived.Test.YthdpgachdegcgaaMoRd
import Derived.Test.YthdpgachdegcgaaApp
import Derived.Test.YthdpgachdegcgaaInRefRead
namespace Go.Proofs.Ythdpgachdegcgaa
open Go.RowKit
set_option linter.unusedVariables false
set_option maxRecDepth 100000

/-- the document's reader at b -/
structure XM (w : World) (b : Nat) (s : XS) : Prop where
  rd : IsM w b s.1 s.2
  len : s.1.length ≤ 65536

theorem XM.fr {w w' : World} {b : Nat} {s : XS} (h : XM w b s) {S : Nat → Prop} (hf : Fr S w w') (hb : ¬ S b) : XM w' b s := ⟨h.rd.fr hf hb, h.len⟩
theorem XM.lt {w : World} {b : Nat} {s : XS} (h : XM w b s) : b < w.heap.size := h.rd.lt
theorem suf_len {l l' : List UInt8} (h : ∃ pre, l = pre ++ l') (hl : l.length ≤ 65536) : l'.length ≤ 65536 := by obtain ⟨p, rfl⟩ := h; simp at hl; omega
theorem xUp_le (most : Nat) (s : XS) : (xUp most s).1 ≤ most := by unfold xUp; split; simp; split; simp; rename_i h1 h2; simp at h1 h2; exact h1 h2

set_option maxHeartbeats 1000000 in
theorem xcount_calls {w : World} {b : Nat} {s : XS} (h : XM w b s) (most : Nat) (hm : most ≤ 1000) :
    Calls Try.prog 17 #[.pointer (some ⟨b, 0, none⟩), .int .i64 most] w fun e w' => e = .returned (.int .i64 (xUp most s).1) ∧ XM w' b (xUp most s).2 ∧ Fr (fun k => k = b) w w' := by
  have hlt := rnum_lt s.1 s.2
  have hl := h.len
  have H := hide h
  have hsl := hide (suf_len (rnum_suf s.1 s.2) hl)
  have hN := hide (mnum_calls h.rd (by omega))
  clear h
  unfold xUp
  obtain ⟨l, E⟩ := s
  dsimp only at *
  generalize rnum l E = p at *
  obtain ⟨v, l', E'⟩ := p
  dsimp only at *
  by_cases hE : E' = 0
  · subst hE
    by_cases hn : v > most
    · rw [if_pos ⟨rfl, hn⟩]
      go_enter Try.func17, Try.ntmps17
      go_wp2_with (go_at_call 37; refine (unhide hN).mono ?_; rintro e w2 ⟨rfl, hR, hF⟩; have c1 := hR.c1; have f1 := free_at hR 1; have HR := hide hR)
      go_ret
      exact ⟨rfl, ⟨((unhide HR).setE (E' := 4)).1, unhide hsl⟩, hF.trans ((unhide HR).setE (E' := 4)).2 (fun _ _ h => h) (fun _ _ h => h)⟩
    · rw [if_neg (by omega), if_neg (by simp)]
      go_enter Try.func17, Try.ntmps17
      go_wp2_with (go_at_call 37; refine (unhide hN).mono ?_; rintro e w2 ⟨rfl, hR, hF⟩; have c1 := hR.c1; have HR := hide hR)
      go_ret
      exact ⟨rfl, ⟨unhide HR, unhide hsl⟩, hF⟩
  · rw [if_neg (fun e => hE e.1), if_pos hE]
    have hb1 : (E' == 0) = false := beq_eq_false_iff_ne.2 hE
    have hb2 : (E' != 0) = true := bne_iff_ne.2 hE
    clear hE
    go_enter Try.func17, Try.ntmps17
    go_wp2_with (go_at_call 37; refine (unhide hN).mono ?_; rintro e w2 ⟨rfl, hR, hF⟩; have c1 := hR.c1; have HR := hide hR)
    go_ret
    exact ⟨rfl, ⟨unhide HR, unhide hsl⟩, hF⟩

theorem xby_calls {w : World} {b : Nat} {s : XS} (h : XM w b s) :
    Calls Try.prog 16 #[.pointer (some ⟨b, 0, none⟩)] w fun e w' => e = .returned (.int .i64 (xBy s).1) ∧ XM w' b (xBy s).2 ∧ Fr (fun k => k = b) w w' := by
  have hl := h.len
  refine (mbyte_calls h.rd (by omega)).mono ?_
  rintro e w' ⟨rfl, hR, hF⟩
  exact ⟨rfl, ⟨hR, suf_len (rbyte_suf s.1 s.2) hl⟩, hF⟩

theorem xBy_in (s : XS) : 0 ≤ (xBy s).1 ∧ (xBy s).1 ≤ 255 := by
  unfold xBy; have := rbyte_le s.1 s.2; exact ⟨by omega, by simp; omega⟩

end Go.Proofs.Ythdpgachdegcgaa
