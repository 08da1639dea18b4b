/-
  Two things of a heap change places.
-/
import Derived.Test.YtijiackjlgpgpaaHpInt
import Derived.BigRegion
import Derived.Deep.RegionLaw
namespace Go.Proofs.Ytijiackjlgpgpaa
open Go.RowKit
set_option linter.unusedVariables false
set_option maxRecDepth 8192

def set3 (w : World) (g j : Nat) (e : En Int) : World := ((w.setCell ⟨g, j * 3, none⟩ (.int .i64 e.t)).setCell ⟨g, j * 3 + 1, none⟩ (.int .i64 e.k)).setCell ⟨g, j * 3 + 2, none⟩ (.int .i64 e.x)
theorem set3_fr (w : World) (g j : Nat) (e : En Int) : Fr (fun k => k = g) w (set3 w g j e) := (((Fr.refl (fun k => k = g) w).setAt g _ _ (.inr rfl)).setAt g _ _ (.inr rfl)).setAt g _ _ (.inr rfl)

theorem at3_set {cs : Array Value} {i j S : Nat} (hs : cs.size = S * 3) (hj : j < S) (e : En Int) {d : En Int} (h : i = j ∧ d = e ∨ i ≠ j ∧ At3 cs i d) :
    At3 (((cs.setIfInBounds (j * 3) (.int .i64 e.t)).setIfInBounds (j * 3 + 1) (.int .i64 e.k)).setIfInBounds (j * 3 + 2) (.int .i64 e.x)) i d := by
  rcases h with ⟨rfl, rfl⟩ | ⟨hne, h1, h2, h3⟩
  · refine ⟨?_, ?_, ?_⟩
    · rw [Array.getElem?_setIfInBounds, if_neg (by omega), Array.getElem?_setIfInBounds, if_neg (by omega), Array.getElem?_setIfInBounds, if_pos rfl, if_pos (by omega)]
    · rw [Array.getElem?_setIfInBounds, if_neg (by omega), Array.getElem?_setIfInBounds, if_pos rfl, if_pos (by simp; omega)]
    · rw [Array.getElem?_setIfInBounds, if_pos rfl, if_pos (by simp; omega)]
  · refine ⟨?_, ?_, ?_⟩ <;> (rw [Array.getElem?_setIfInBounds, if_neg (by omega), Array.getElem?_setIfInBounds, if_neg (by omega), Array.getElem?_setIfInBounds, if_neg (by omega)]; assumption)

/-- the row at block g: cap places, the list L in them -/
def Rw (w : World) (g cap : Nat) (L : List (En Int)) : Prop := ∃ cs : Array Value, w.heap[g]? = some (.cells cs 65 (0, 0)) ∧ cs.size = cap * 3 ∧ ∀ (i : Nat) (e : En Int), L[i]? = some e → At3 cs i e

theorem Rw.set {w : World} {g cap : Nat} {L : List (En Int)} (h : Rw w g cap L) (j : Nat) (hj : j < cap) (e : En Int) : Rw (set3 w g j e) g cap (L.set j e) := by
  obtain ⟨cs, h1, h2, h3⟩ := h
  refine ⟨_, blk_setCell (blk_setCell (blk_setCell h1)), by simpa using h2, fun i d hd => ?_⟩
  rw [List.getElem?_set] at hd
  split at hd
  · rename_i e1
    split at hd
    · cases hd; exact at3_set h2 hj e (.inl ⟨e1.symm, rfl⟩)
    · cases hd
  · rename_i e1
    exact at3_set h2 hj e (.inr ⟨fun e => e1 e.symm, h3 i d hd⟩)

theorem Rw.fr {P : Nat → Prop} {w w' : World} {g cap : Nat} {L : List (En Int)} (h : Rw w g cap L) (hf : Fr P w w') (hg : ¬ P g) : Rw w' g cap L := by
  obtain ⟨cs, h1, h2⟩ := h
  exact ⟨cs, hf.blk h1 hg, h2⟩

theorem IsH.cells3 {w : World} {b g bm cap n : Nat} {L : List (En Int)} {f : Int → Option Nat} (h : IsH w b g bm cap n L f) {i : Nat} {e : En Int} (he : L[i]? = some e) :
    w.frozen? ⟨g, i * 3, none⟩ = false ∧ w.frozen? ⟨g, i * 3 + 1, none⟩ = false ∧ w.frozen? ⟨g, i * 3 + 2, none⟩ = false := by
  obtain ⟨cs, h1, h2, h3⟩ := h.row
  exact ⟨free_at h1 _, free_at h1 _, free_at h1 _⟩

set_option maxHeartbeats 4000000 in
theorem swap_calls {w : World} {b g bm cap n : Nat} {L : List (En Int)} {f : Int → Option Nat} (h : IsH w b g bm cap n L f) (hp : PL L f) (i j : Nat) (e d : En Int) (he : L[i]? = some e) (hd : L[j]? = some d) (hij : i ≠ j) :
    Calls Try.prog 41 #[.pointer (some ⟨b, 0, none⟩), .int .i64 (i : Int), .int .i64 (j : Int)] w fun e' w' => e' = .returned (.tuple #[]) ∧ IsH w' b g bm cap n ((L.set i d).set j e) (upd (upd f d.k (some i)) e.k (some j)) ∧ Fr (fun k => k = g ∨ k = bm) w w' := by
  have hi : (i : Int) < (L.length : Int) := by have := (List.getElem?_eq_some_iff.1 he).1; omega
  have hj : (j : Int) < (L.length : Int) := by have := (List.getElem?_eq_some_iff.1 hd).1; omega
  have hm := h.most
  have hl := h.lenn
  have c0 := cell_at h.blk 0
  have c1 := cell_at h.blk 1
  simp at c0 c1
  obtain ⟨a1, a2, a3⟩ := h.at3 he
  obtain ⟨b1, b2, b3⟩ := h.at3 hd
  obtain ⟨f1, f2, f3⟩ := h.cells3 he
  obtain ⟨g1, g2, g3⟩ := h.cells3 hd
  obtain ⟨n1, n2, n3⟩ := h.ne
  have n1' : g ≠ b := fun e => n1 e.symm
  have k1 : i * 3 ≠ j * 3 := by omega
  have k1' : j * 3 ≠ i * 3 := by omega
  have k2 : i * 3 ≠ j * 3 + 1 := by omega
  have k2' : j * 3 + 1 ≠ i * 3 := by omega
  have k3 : i * 3 ≠ j * 3 + 2 := by omega
  have k3' : j * 3 + 2 ≠ i * 3 := by omega
  have k4 : i * 3 + 1 ≠ j * 3 := by omega
  have k4' : j * 3 ≠ i * 3 + 1 := by omega
  have k5 : i * 3 + 1 ≠ j * 3 + 1 := by omega
  have k5' : j * 3 + 1 ≠ i * 3 + 1 := by omega
  have k6 : i * 3 + 1 ≠ j * 3 + 2 := by omega
  have k6' : j * 3 + 2 ≠ i * 3 + 1 := by omega
  have k7 : i * 3 + 2 ≠ j * 3 := by omega
  have k7' : j * 3 ≠ i * 3 + 2 := by omega
  have k8 : i * 3 + 2 ≠ j * 3 + 1 := by omega
  have k8' : j * 3 + 1 ≠ i * 3 + 2 := by omega
  have k9 : i * 3 + 2 ≠ j * 3 + 2 := by omega
  have k9' : j * 3 + 2 ≠ i * 3 + 2 := by omega
  have HE := hide he
  have HD := hide hd
  clear he hd
  go_enter Try.func41, Try.ntmps41
  go_wp2
  go_region
  have hF0 : Fr (fun k => k = g) w (set3 (set3 w g i d) g j e).drew := ((set3_fr w g i d).trans (set3_fr _ g j e) (fun _ _ h => h) (fun _ _ h => h)).drew
  have hR0 : Rw (set3 (set3 w g i d) g j e).drew g cap ((L.set i d).set j e) := (((show Rw w g cap L from h.row).set i (by have := h.len; omega) d).set j (by have := h.len; omega) e).fr (Fr.refl (fun _ => False) _).drew (fun h => h)
  unfold set3 at hF0 hR0
  generalize ((((((w.setCell ⟨g, i * 3, none⟩ (.int .i64 d.t)).setCell ⟨g, i * 3 + 1, none⟩ (.int .i64 d.k)).setCell ⟨g, i * 3 + 2, none⟩ (.int .i64 d.x)).setCell ⟨g, j * 3, none⟩ (.int .i64 e.t)).setCell ⟨g, j * 3 + 1, none⟩ (.int .i64 e.k)).setCell ⟨g, j * 3 + 2, none⟩ (.int .i64 e.x)).drew = wb at *
  clear c0 c1 a1 a2 a3 b1 b2 b3 f1 f2 f3 g1 g2 g3 k1 k1' k2 k2' k3 k3' k4 k4' k5 k5' k6 k6' k7 k7' k8 k8' k9 k9'
  have hB := hF0.blk h.blk (fun e => n1 e)
  have hM := h.map.fr hF0 (fun e => n3 e.symm)
  have c0 := cell_at hB 0
  have c1 := cell_at hB 1
  simp at c0 c1
  have ki := h.wf i e (unhide HE)
  have kj := h.wf j d (unhide HD)
  obtain ⟨cs, r1, r2, r3⟩ := hR0
  have t1 := (r3 i d (by rw [swap_get (unhide HE) (unhide HD)]; simp [hij])).2.1
  rw [← cell_at r1] at t1
  have t2 := (r3 j e (by rw [swap_get (unhide HE) (unhide HD)]; simp)).2.1
  rw [← cell_at r1] at t2
  obtain ⟨w1, hr1, hP1, hF1⟩ := PM.put (w := wb.drew) (hM.fr (Fr.refl (fun _ => False) _).drew (fun h => h)) (by omega) d.k (by omega) i (by omega)
  rw [if_pos (by rw [(hp d.k j).2 ⟨d, unhide HD, rfl⟩]; rfl)] at hP1
  have HR := hide r3
  clear r3
  go_wp2
  go_region
  have h1 := hF1.blk (show wb.drew.heap[b]? = _ from hB) (fun e => n2 e)
  have c0 := cell_at h1 0
  have c1 := cell_at h1 1
  simp at c0 c1
  have q1 := hF1.blk (show wb.drew.heap[g]? = _ from r1) (fun e => n3 e)
  have t2 : w1.cell? ⟨g, j * 3 + 1, none⟩ = some (.int .i64 e.k) := by rw [cell_at q1, ← cell_at r1]; exact t2
  obtain ⟨w2, hr2, hP2, hF2⟩ := PM.put (w := w1.drew) (hP1.fr (Fr.refl (fun _ => False) _).drew (fun h => h)) (by omega) e.k (by omega) j (by omega)
  rw [if_pos (by by_cases e1 : e.k = d.k; (rw [e1, upd_same]; rfl); (rw [upd_other _ _ e1, (hp e.k i).2 ⟨e, unhide HE, rfl⟩]; rfl))] at hP2
  go_wp2
  go_region
  go_wp2
  go_end0
  have hF : Fr (fun k => k = g ∨ k = bm) w w2 := ((hF0.drew.trans hF1 (T := fun k => k = g ∨ k = bm) (fun _ _ h => .inl h) (fun _ _ h => .inr h)).drew.trans hF2 (fun _ _ h => h) (fun _ _ h => .inr h)).same rfl rfl rfl rfl
  exact ⟨rfl, ⟨by have := hF2.blk (show w1.drew.heap[b]? = _ from h1) (fun e => n2 e); simpa using this, ⟨cs, hF2.blk (show w1.drew.heap[g]? = _ from q1) (fun e => n3 e), r2, unhide HR⟩, hP2, by simpa using h.len, h.capm, h.most, by simpa using h.lenn, fun k c hc => by
    rw [swap_get (unhide HE) (unhide HD)] at hc
    split at hc
    · cases hc; exact ki
    · split at hc
      · cases hc; exact kj
      · exact h.wf k c hc⟩, hF⟩

set_option maxHeartbeats 4000000 in
theorem swap_self {w : World} {b g bm cap n : Nat} {L : List (En Int)} {f : Int → Option Nat} (h : IsH w b g bm cap n L f) (hp : PL L f) (i : Nat) (e : En Int) (he : L[i]? = some e) :
    Calls Try.prog 41 #[.pointer (some ⟨b, 0, none⟩), .int .i64 (i : Int), .int .i64 (i : Int)] w fun e' w' => e' = .returned (.tuple #[]) ∧ IsH w' b g bm cap n ((L.set i e).set i e) (upd (upd f e.k (some i)) e.k (some i)) ∧ Fr (fun k => k = g ∨ k = bm) w w' := by
  have hi : (i : Int) < (L.length : Int) := by have := (List.getElem?_eq_some_iff.1 he).1; omega
  have hm := h.most
  have hl := h.lenn
  have c0 := cell_at h.blk 0
  have c1 := cell_at h.blk 1
  simp at c0 c1
  obtain ⟨a1, a2, a3⟩ := h.at3 he
  obtain ⟨f1, f2, f3⟩ := h.cells3 he
  obtain ⟨n1, n2, n3⟩ := h.ne
  have n1' : g ≠ b := fun e => n1 e.symm
  have HE := hide he
  clear he
  go_enter Try.func41, Try.ntmps41
  go_wp2
  go_region
  have hF0 : Fr (fun k => k = g) w (set3 (set3 w g i e) g i e).drew := ((set3_fr w g i e).trans (set3_fr _ g i e) (fun _ _ h => h) (fun _ _ h => h)).drew
  have hR0 : Rw (set3 (set3 w g i e) g i e).drew g cap ((L.set i e).set i e) := (((show Rw w g cap L from h.row).set i (by have := h.len; omega) e).set i (by have := h.len; omega) e).fr (Fr.refl (fun _ => False) _).drew (fun h => h)
  unfold set3 at hF0 hR0
  generalize ((((((w.setCell ⟨g, i * 3, none⟩ (.int .i64 e.t)).setCell ⟨g, i * 3 + 1, none⟩ (.int .i64 e.k)).setCell ⟨g, i * 3 + 2, none⟩ (.int .i64 e.x)).setCell ⟨g, i * 3, none⟩ (.int .i64 e.t)).setCell ⟨g, i * 3 + 1, none⟩ (.int .i64 e.k)).setCell ⟨g, i * 3 + 2, none⟩ (.int .i64 e.x)).drew = wb at *
  clear c0 c1 a1 a2 a3 f1 f2 f3
  have hB := hF0.blk h.blk (fun e => n1 e)
  have hM := h.map.fr hF0 (fun e => n3 e.symm)
  have c0 := cell_at hB 0
  have c1 := cell_at hB 1
  simp at c0 c1
  have ki := h.wf i e (unhide HE)
  obtain ⟨cs, r1, r2, r3⟩ := hR0
  have t2 := (r3 i e (by rw [swap_get (unhide HE) (unhide HE)]; simp)).2.1
  rw [← cell_at r1] at t2
  obtain ⟨w1, hr1, hP1, hF1⟩ := PM.put (w := wb.drew) (hM.fr (Fr.refl (fun _ => False) _).drew (fun h => h)) (by omega) e.k (by omega) i (by omega)
  rw [if_pos (by rw [(hp e.k i).2 ⟨e, unhide HE, rfl⟩]; rfl)] at hP1
  have HR := hide r3
  clear r3
  go_wp2
  go_region
  have h1 := hF1.blk (show wb.drew.heap[b]? = _ from hB) (fun e => n2 e)
  have c0 := cell_at h1 0
  have c1 := cell_at h1 1
  simp at c0 c1
  have q1 := hF1.blk (show wb.drew.heap[g]? = _ from r1) (fun e => n3 e)
  have t2 : w1.cell? ⟨g, i * 3 + 1, none⟩ = some (.int .i64 e.k) := by rw [cell_at q1, ← cell_at r1]; exact t2
  obtain ⟨w2, hr2, hP2, hF2⟩ := PM.put (w := w1.drew) (hP1.fr (Fr.refl (fun _ => False) _).drew (fun h => h)) (by omega) e.k (by omega) i (by omega)
  rw [if_pos (by by_cases e1 : e.k = e.k; (rw [e1, upd_same]; rfl); (rw [upd_other _ _ e1, (hp e.k i).2 ⟨e, unhide HE, rfl⟩]; rfl))] at hP2
  go_wp2
  go_region
  go_wp2
  go_end0
  have hF : Fr (fun k => k = g ∨ k = bm) w w2 := ((hF0.drew.trans hF1 (T := fun k => k = g ∨ k = bm) (fun _ _ h => .inl h) (fun _ _ h => .inr h)).drew.trans hF2 (fun _ _ h => h) (fun _ _ h => .inr h)).same rfl rfl rfl rfl
  exact ⟨rfl, ⟨by have := hF2.blk (show w1.drew.heap[b]? = _ from h1) (fun e => n2 e); simpa using this, ⟨cs, hF2.blk (show w1.drew.heap[g]? = _ from q1) (fun e => n3 e), r2, unhide HR⟩, hP2, by simpa using h.len, h.capm, h.most, by simpa using h.lenn, fun k c hc => by
    rw [swap_get (unhide HE) (unhide HE)] at hc
    split at hc
    · cases hc; exact ki
    · exact h.wf k c (by simpa using hc)⟩, hF⟩

end Go.Proofs.Ytijiackjlgpgpaa
