/-
  A heap of numbers: its memory; which of two things comes out ahead.
-/
import Derived.Test.YtijiackjlgpgpaaHpOrd
import Derived.Test.YtijiackjlgpgpaaHpMap
import Derived.Test.YtijiackjlgpgpaaHpPure
import Derived.Test.YtijiackjlgpgpaaOsl
namespace Go.Proofs.Ytijiackjlgpgpaa
open Go.RowKit
set_option linter.unusedVariables false
set_option maxRecDepth 8192

def enV (e : En Int) : Value := .agg #[.int .i64 e.t, .int .i64 e.k, .int .i64 e.x]

/-- place j of the row holds e -/
def At3 (cs : Array Value) (j : Nat) (e : En Int) : Prop := cs[j * 3]? = some (.int .i64 e.t) ∧ cs[j * 3 + 1]? = some (.int .i64 e.k) ∧ cs[j * 3 + 2]? = some (.int .i64 e.x)

/-- the heap at block b, its list in block g, its places in block bm: the list L, the places as f says, n tickets so far -/
structure IsH (w : World) (b g bm cap n : Nat) (L : List (En Int)) (f : Int → Option Nat) : Prop where
  blk : w.heap[b]? = some (.cells #[.slice (some ⟨g, 0, none⟩) L.length cap, .map (some bm), .int .i64 (n : Int)] 62 (0, 0))
  row : ∃ cs : Array Value, w.heap[g]? = some (.cells cs 65 (0, 0)) ∧ cs.size = cap * 3 ∧ ∀ (i : Nat) (e : En Int), L[i]? = some e → At3 cs i e
  map : PM w bm n f
  len : L.length ≤ cap
  capm : cap ≤ maxLen
  most : n ≤ 4194304
  lenn : L.length ≤ n
  wf : ∀ (i : Nat) (e : En Int), L[i]? = some e → 1 ≤ e.k ∧ e.k ≤ (n : Int)

theorem IsH.fr {P : Nat → Prop} {w w' : World} {b g bm cap n : Nat} {L : List (En Int)} {f : Int → Option Nat} (h : IsH w b g bm cap n L f) (hf : Fr P w w') (hb : ¬ P b) (hg : ¬ P g) (hm : ¬ P bm) : IsH w' b g bm cap n L f := by
  obtain ⟨cs, h1, h2⟩ := h.row
  exact ⟨hf.blk h.blk hb, ⟨cs, hf.blk h1 hg, h2⟩, h.map.fr hf hm, h.len, h.capm, h.most, h.lenn, h.wf⟩

theorem IsH.up {w w' : World} {b g bm cap n : Nat} {L : List (En Int)} {f : Int → Option Nat} (h : IsH w b g bm cap n L f) (hf : Fr (fun _ => False) w w') : IsH w' b g bm cap n L f := h.fr hf (fun h => h) (fun h => h) (fun h => h)

theorem IsH.ne {w : World} {b g bm cap n : Nat} {L : List (En Int)} {f : Int → Option Nat} (h : IsH w b g bm cap n L f) : b ≠ g ∧ b ≠ bm ∧ g ≠ bm := by
  obtain ⟨cs, h1, h2⟩ := h.row
  obtain ⟨es, c, h3⟩ := h.map.blk
  have h0 := h.blk
  refine ⟨fun e => ?_, fun e => ?_, fun e => ?_⟩
  · rw [e, h1] at h0; simp at h0
  · rw [e, h3] at h0; simp at h0
  · rw [e, h3] at h1; simp at h1

theorem IsH.at3 {w : World} {b g bm cap n : Nat} {L : List (En Int)} {f : Int → Option Nat} (h : IsH w b g bm cap n L f) {i : Nat} {e : En Int} (he : L[i]? = some e) :
    w.cell? ⟨g, i * 3, none⟩ = some (.int .i64 e.t) ∧ w.cell? ⟨g, i * 3 + 1, none⟩ = some (.int .i64 e.k) ∧ w.cell? ⟨g, i * 3 + 2, none⟩ = some (.int .i64 e.x) := by
  obtain ⟨cs, h1, h2, h3⟩ := h.row
  rw [cell_at h1, cell_at h1, cell_at h1]
  exact h3 i e he

/-- what every world of ahead's statement has -/
structure AG (w0 : World) (b g bm cap n : Nat) (L : List (En Int)) (f : Int → Option Nat) (w : World) : Prop where
  is : IsH w b g bm cap n L f
  fr : Fr (fun _ => False) w0 w

theorem AG.step {w0 w w' : World} {b g bm cap n : Nat} {L : List (En Int)} {f : Int → Option Nat} (hf : Fr (fun _ => False) w w') (h : AG w0 b g bm cap n L f w) : AG w0 b g bm cap n L f w' :=
  ⟨h.is.up hf, h.fr.trans hf (fun _ _ h => h) (fun _ _ h => h)⟩

theorem AG.all {w0 w : World} {b g bm cap n : Nat} {L : List (En Int)} {f : Int → Option Nat} {i j : Nat} {e d : En Int} (he : L[i]? = some e) (hd : L[j]? = some d) (h : AG w0 b g bm cap n L f w) :
    w.cell? ⟨b, 0, none⟩ = some (.slice (some ⟨g, 0, none⟩) L.length cap) ∧ w.cell? ⟨g, i * 3, none⟩ = some (.int .i64 e.t) ∧ w.cell? ⟨g, i * 3 + 1, none⟩ = some (.int .i64 e.k) ∧ w.cell? ⟨g, i * 3 + 2, none⟩ = some (.int .i64 e.x) ∧
      w.cell? ⟨g, j * 3, none⟩ = some (.int .i64 d.t) ∧ w.cell? ⟨g, j * 3 + 1, none⟩ = some (.int .i64 d.k) ∧ w.cell? ⟨g, j * 3 + 2, none⟩ = some (.int .i64 d.x) ∧ AG w0 b g bm cap n L f w := by
  obtain ⟨a1, a2, a3⟩ := h.is.at3 he
  obtain ⟨b1, b2, b3⟩ := h.is.at3 hd
  exact ⟨cell_at h.is.blk 0, a1, a2, a3, b1, b2, b3, h⟩

set_option maxHeartbeats 4000000 in
theorem ahead_calls {w : World} {b g bm cap n : Nat} {L : List (En Int)} {f : Int → Option Nat} (h : IsH w b g bm cap n L f) (i j : Nat) (e d : En Int) (he : L[i]? = some e) (hd : L[j]? = some d) :
    Calls Try.prog 40 #[.pointer (some ⟨b, 0, none⟩), .int .i64 (i : Int), .int .i64 (j : Int)] w fun e' w' => e' = .returned (.bool (ahB e d)) ∧ Fr (fun _ => False) w w' := by
  have hi : (i : Int) < (L.length : Int) := by have := (List.getElem?_eq_some_iff.1 he).1; omega
  have hj : (j : Int) < (L.length : Int) := by have := (List.getElem?_eq_some_iff.1 hd).1; omega
  have hS : AG w b g bm cap n L f w := ⟨h, Fr.refl _ _⟩
  have hm := h.most
  have hl := h.lenn
  have HE := hide he
  have HD := hide hd
  have HA := hide (AG.all he hd hS)
  obtain ⟨c0, a1, a2, a3, b1, b2, b3, _⟩ := AG.all he hd hS
  clear he hd
  go_enter Try.func40, Try.ntmps40
  go_upto_region 1 with fail
  go_region_held3 (fun w' => w'.cell? ⟨b, 0, none⟩ = some (.slice (some ⟨g, 0, none⟩) L.length cap) ∧ w'.cell? ⟨g, i * 3, none⟩ = some (.int .i64 e.t) ∧ w'.cell? ⟨g, i * 3 + 1, none⟩ = some (.int .i64 e.k) ∧ w'.cell? ⟨g, i * 3 + 2, none⟩ = some (.int .i64 e.x) ∧
      w'.cell? ⟨g, j * 3, none⟩ = some (.int .i64 d.t) ∧ w'.cell? ⟨g, j * 3 + 1, none⟩ = some (.int .i64 d.k) ∧ w'.cell? ⟨g, j * 3 + 2, none⟩ = some (.int .i64 d.x) ∧ AG w b g bm cap n L f w')
    (first | exact AG.all (unhide HE) (unhide HD) (by assumption) | exact AG.all (unhide HE) (unhide HD) (AG.step ((Fr.refl _ _).drew) (by assumption)))
    (first
    | (go_at_call 48; refine (order_calls _ _ _ _ _ _ _).mono ?_; rintro e' w' ⟨rfl, hF⟩; have hS2 := AG.step hF (by first | assumption | exact AG.step ((Fr.refl _ _).drew) (by assumption))))
  all_goals
    go_wp2
    go_ret
    exact ⟨rfl, hS2.fr⟩

end Go.Proofs.Ytijiackjlgpgpaa
