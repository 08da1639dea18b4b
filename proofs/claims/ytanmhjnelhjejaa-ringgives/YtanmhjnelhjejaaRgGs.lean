/-
  RingGives: both rings side by side with the law's own boxes.
-/
import Derived.Test.YtanmhjnelhjejaaRgPs
import Derived.Test.YtanmhjnelhjejaaRgBack
namespace Go.Proofs.Ytanmhjnelhjejaa
open Go.RowKit
set_option linter.unusedVariables false
set_option maxRecDepth 8192

theorem mput_any {w : World} {b S : Nat} {l : List Int} (h : IsM w b S l) (x : Int) :
    Calls Try.prog 15 #[.pointer (some ⟨b, 0, none⟩), .int .i64 x] w fun e w' => e = .returned (.int .i64 (putC S l.length)) ∧ IsM w' b S (putL S l x) ∧ FrM b w w' := by
  unfold putC putL
  by_cases hl : l.length < S
  · rw [if_pos hl, if_pos hl]; exact mput_ok h hl x
  · rw [if_neg hl, if_neg hl]; exact mput_full h hl x

theorem mpush_any {w : World} {b S : Nat} {l : List Int} (h : IsM w b S l) (x : Int) :
    Calls Try.prog 17 #[.pointer (some ⟨b, 0, none⟩), .int .i64 x] w fun e w' => e = .returned (.int .i64 (putC S l.length)) ∧ IsM w' b S (pushL S l x) ∧ FrM b w w' := by
  unfold putC pushL
  by_cases hl : l.length < S
  · rw [if_pos hl, if_pos hl]; exact mpush_ok h hl x
  · rw [if_neg hl, if_neg hl]; exact mpush_full h hl x

/-- the law's boxes: what leaves, the answer, both rings' addresses -/
def Bxs (w0 : Nat) (G M Br : Nat) (leave : Int) (w : World) : Prop :=
  Boxed w w0 3 (.int .i64 leave) ∧ Boxed w (w0 + 1) 4 (.bool false) ∧ Boxed w Br 24 (.pointer (some ⟨G + 1, 0, none⟩)) ∧ Boxed w (Br + 1) 26 (.pointer (some ⟨M, 0, none⟩)) ∧ w0 + 2 ≤ G ∧ M < Br
def GS (w : World) (G M S Br : Nat) (leave : Int) (l l' : List Int) (V : World) : Prop := P0 w G M S l l' V ∧ Bxs w.heap.size G M Br leave V

theorem Bxs.fr {P : Nat → Prop} {w0 G M Br : Nat} {leave : Int} {w w' : World} (h : Bxs w0 G M Br leave w) (hf : Fr P w w') (h1 : ¬ P w0) (h2 : ¬ P (w0 + 1)) (h3 : ¬ P Br) (h4 : ¬ P (Br + 1)) : Bxs w0 G M Br leave w' :=
  ⟨hf.blk h.1 h1, hf.blk h.2.1 h2, hf.blk h.2.2.1 h3, hf.blk h.2.2.2.1 h4, h.2.2.2.2⟩
theorem GS.q {w : World} {G M S Br : Nat} {leave : Int} {l l' : List Int} {V V' : World} (h : GS w G M S Br leave l l' V) (hf : Fr (fun _ => False) V V') : GS w G M S Br leave l l' V' :=
  ⟨h.1.q hf, h.2.fr hf (fun h => h) (fun h => h) (fun h => h) (fun h => h)⟩
theorem GS.r {w : World} {G M S Br : Nat} {leave : Int} {l l' l2 : List Int} {V V' : World} (h : GS w G M S Br leave l l' V) (hr : Rg V' (G + 1) G S l2) (hf : FrR (G + 1) G V V') : GS w G M S Br leave l2 l' V' := by
  have a := h.2.2.2.2.2
  have b := h.1.2.2.1
  exact ⟨h.1.r hr hf, h.2.fr hf (by omega) (by omega) (by omega) (by omega)⟩
theorem GS.m {w : World} {G M S Br : Nat} {leave : Int} {l l' l2 : List Int} {V V' : World} (h : GS w G M S Br leave l l' V) (hm : IsM V' M S l2) (hf : FrM M V V') : GS w G M S Br leave l l2 V' := by
  have a := h.2.2.2.2.2
  have b := h.1.2.2.1
  refine ⟨h.1.m hm hf, h.2.fr hf ?_ ?_ ?_ ?_⟩
  · exact fun e => e.elim (fun e => by omega) (fun e => by have := e.1; omega)
  · exact fun e => e.elim (fun e => by omega) (fun e => by have := e.1; omega)
  · rintro (e | e)
    · omega
    · exact not_row h.2.2.2.1 (by decide) e
  · rintro (e | e)
    · omega
    · exact not_row h.2.2.2.2.1 (by decide) e

theorem gs_rput {w : World} {G M S Br : Nat} {leave : Int} {l l' : List Int} {V : World} (h : GS w G M S Br leave l l' V) (x : Int) :
    Calls Try.prog 14 #[.pointer (some ⟨G + 1, 0, none⟩), .int .i64 x] V fun e V' => e = .returned (.int .i64 (putC S l.length)) ∧ GS w G M S Br leave (putL S l x) l' V' :=
  (rput h.1.1 x).mono fun e V' ⟨h1, h2, h3⟩ => ⟨h1, h.r h2 h3⟩
theorem gs_rpush {w : World} {G M S Br : Nat} {leave : Int} {l l' : List Int} {V : World} (h : GS w G M S Br leave l l' V) (x : Int) :
    Calls Try.prog 16 #[.pointer (some ⟨G + 1, 0, none⟩), .int .i64 x] V fun e V' => e = .returned (.int .i64 (putC S l.length)) ∧ GS w G M S Br leave (pushL S l x) l' V' :=
  (rpush h.1.1 x).mono fun e V' ⟨h1, h2, h3⟩ => ⟨h1, h.r h2 h3⟩
theorem gs_mput {w : World} {G M S Br : Nat} {leave : Int} {l l' : List Int} {V : World} (h : GS w G M S Br leave l l' V) (x : Int) :
    Calls Try.prog 15 #[.pointer (some ⟨M, 0, none⟩), .int .i64 x] V fun e V' => e = .returned (.int .i64 (putC S l'.length)) ∧ GS w G M S Br leave l (putL S l' x) V' :=
  (mput_any h.1.2.1 x).mono fun e V' ⟨h1, h2, h3⟩ => ⟨h1, h.m h2 h3⟩
theorem gs_mpush {w : World} {G M S Br : Nat} {leave : Int} {l l' : List Int} {V : World} (h : GS w G M S Br leave l l' V) (x : Int) :
    Calls Try.prog 17 #[.pointer (some ⟨M, 0, none⟩), .int .i64 x] V fun e V' => e = .returned (.int .i64 (putC S l'.length)) ∧ GS w G M S Br leave l (pushL S l' x) V' :=
  (mpush_any h.1.2.1 x).mono fun e V' ⟨h1, h2, h3⟩ => ⟨h1, h.m h2 h3⟩

end Go.Proofs.Ytanmhjnelhjejaa
