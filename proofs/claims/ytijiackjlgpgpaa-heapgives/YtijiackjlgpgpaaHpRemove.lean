/-
  A thing of a heap is taken out.
-/
import Derived.Test.YtijiackjlgpgpaaHpSink
import Derived.Test.YtijiackjlgpgpaaHpCut
import Derived.Laws.ResultCell
import Derived.Deep.MidRow
namespace Go.Proofs.Ytijiackjlgpgpaa
open Go.RowKit
set_option linter.unusedVariables false
set_option maxRecDepth 8192

theorem hl_swap2 {w : World} {b g bm cap n : Nat} {M L : List (En Int)} {f : Int → Option Nat} (h : HL w b g bm cap n M L f) (i j : Nat) (e d : En Int) (he : L[i]? = some e) (hd : L[j]? = some d) :
    Calls Try.prog 41 #[.pointer (some ⟨b, 0, none⟩), .int .i64 (i : Int), .int .i64 (j : Int)] w fun e' w' => e' = .returned (.tuple #[]) ∧ HL w' b g bm cap n M ((L.set i d).set j e) (upd (upd f d.k (some i)) e.k (some j)) ∧ Fr (fun k => k = g ∨ k = bm) w w' := by
  by_cases hij : i = j
  · subst hij
    rw [he] at hd
    cases hd
    exact (swap_self h.is h.pl i e he).mono fun e' w' ⟨h1, h2, h3⟩ => ⟨h1, ⟨h2, h.pl.swap he he, (swap_perm he he).trans h.pm⟩, h3⟩
  · exact hl_swap h i j e d he hd hij

/-- a thing in a block of its own -/
def EnAt (w : World) (b : Nat) (e : En Int) : Prop := w.heap[b]? = some (.cells #[.int .i64 e.t, .int .i64 e.k, .int .i64 e.x] 65 (0, 0))

theorem load_en {w : World} {b : Nat} {e : En Int} (h : EnAt w b e) : (loadVar 65 ⟨b, 0, none⟩).run Try.prog w = .ok (enV e) w := by
  refine run_loadVar_mid w b 0 65 [.int .i64 e.t, .int .i64 e.k, .int .i64 e.x] _ ?_ Try.underlying65 rfl (by kernel_rfl)
  intro i v hv
  match i, hv with
  | 0, hv => simpa using (cell_at h 0).trans hv
  | 1, hv => simpa using (cell_at h 1).trans hv
  | 2, hv => simpa using (cell_at h 2).trans hv

theorem results_en {fn : Func} {p : Tmp} (h : fn.results = #[.cell p 65]) (tmps : Array Value) (w : World) (b : Nat) (e : En Int) (hp : tmps.getD p undef = .pointer (some ⟨b, 0, none⟩))
    (hb : EnAt w b e) : (results fn tmps).run Try.prog w = .ok (enV e) w := by
  have e1 : (results fn tmps).run Try.prog w = ((asAddr (tmps.getD p undef)).run Try.prog w).andThen fun a w₁ => (loadVar 65 a).run Try.prog w₁ := by
    simp only [results, h]
    simp [Sem.run_bind, Result.andThen]
  have := load_en hb
  rw [e1, hp]
  simp only [asAddr, Sem.run_pure, Result.andThen_ok, this]

theorem EnAt.set {w : World} {b : Nat} {e : En Int} (h : EnAt w b e) (d : En Int) : EnAt (((w.setCell ⟨b, 0, none⟩ (.int .i64 d.t)).setCell ⟨b, 1, none⟩ (.int .i64 d.k)).setCell ⟨b, 2, none⟩ (.int .i64 d.x)) b d := by
  have h1 := blk_setCell (i := 0) (u := .int .i64 d.t) h
  have h2 := blk_setCell (i := 1) (u := .int .i64 d.k) h1
  have h3 := blk_setCell (i := 2) (u := .int .i64 d.x) h2
  exact h3

theorem rw_cut {w : World} {g cap : Nat} {L : List (En Int)} {m : Nat} (hm : L.length = m + 1) (z : En Int) : Rw w g cap (L.set m z) → Rw w g cap L.dropLast := by
  rintro ⟨cs, h1, h2, h3⟩
  refine ⟨cs, h1, h2, fun i e he => h3 i e ?_⟩
  rw [drop_get hm] at he
  split at he
  · rw [List.getElem?_set, if_neg (by omega)]; exact he
  · cases he

set_option maxHeartbeats 4000000 in
theorem remove_calls {w : World} {b g bm cap n : Nat} {M L : List (En Int)} {f : Int → Option Nat} (h : HL w b g bm cap n M L f) (hO : HO L) (p : Nat) (e : En Int) (he : L[p]? = some e) :
    Calls Try.prog 33 #[.pointer (some ⟨b, 0, none⟩), .int .i64 (p : Int)] w fun r w' => r = .returned (enV e) ∧ (∃ L' f', HL w' b g bm cap n (del M e.k) L' f' ∧ HO L') ∧ Fr (fun k => k = b ∨ k = g ∨ k = bm) w w' := by
  have hm := h.is.most
  have hl := h.is.lenn
  have hp := (List.getElem?_eq_some_iff.1 he).1
  obtain ⟨m, hLm⟩ : ∃ m, L.length = m + 1 := ⟨L.length - 1, by omega⟩
  obtain ⟨d, hd⟩ := get_some (L := L) (i := m) (by omega)
  have hf1 : Fr (fun _ => False) w (w.alloc (.cells #[.int .i64 0, .int .i64 0, .int .i64 0] 65)) := (Fr.refl _ w).alloc _
  have hz : EnAt (w.alloc (.cells #[.int .i64 0, .int .i64 0, .int .i64 0] 65)) w.heap.size ⟨0, 0, 0⟩ := blk_new w _
  have hH := h.up hf1
  have hbq : b < w.heap.size := lt_of_blk h.is.blk
  have hgq : g < w.heap.size := by obtain ⟨cs, h1, _⟩ := h.is.row; exact lt_of_blk h1
  have hmq : bm < w.heap.size := by obtain ⟨es, c, h1⟩ := h.is.map.blk; exact lt_of_blk h1
  have hqs : w.heap.size < (w.alloc (.cells #[.int .i64 0, .int .i64 0, .int .i64 0] 65)).heap.size := by simp
  go_enter Try.func33, Try.ntmps33
  go_upto_region 1 with fail
  generalize w.alloc (.cells #[.int .i64 0, .int .i64 0, .int .i64 0] 65) = wa at *
  generalize hq : w.heap.size = q at *
  have hB := hH.is.blk
  rw [hLm] at hB
  have c0 := cell_at hB 0
  simp at c0
  have HE := hide he
  have HD := hide hd
  have hp2 : p ≤ m := by omega
  have HSW := hide (hl_swap2 hH p m e d he hd)
  have HM := hide (fun hpm => hO.mid hLm hpm he hd)
  clear he hd hB
  go_wp2_with fail
  refine (unhide HSW).mono ?_
  rintro e' w1 ⟨rfl, hH1, hF1⟩
  have hS1 : ((L.set p d).set m e).length = m + 1 := by simp [hLm]
  have HSE : ¬ p < m → L = (L.set p d).set m e := fun hn => by
    obtain rfl : p = m := by omega
    have e1 := unhide HE
    have e2 := unhide HD
    rw [e1] at e2
    cases e2
    refine List.ext_getElem? fun i => ?_
    rw [swap_get e1 e1]
    by_cases h1 : i = p
    · rw [if_pos h1, h1, e1]
    · rw [if_neg h1, if_neg h1]
  have hSm : ((L.set p d).set m e)[m]? = some e := by rw [swap_get (unhide HE) (unhide HD), if_pos rfl]
  have HSE2 := hide HSE
  clear HSE
  generalize (L.set p d).set m e = S at *
  have hB1 := hH1.is.blk
  rw [hS1] at hB1
  clear c0
  have c0 := cell_at hB1 0
  have c1 := cell_at hB1 1
  simp at c0 c1
  have f0 := free_at hB1 0
  obtain ⟨a1, a2, a3⟩ := hH1.is.at3 hSm
  obtain ⟨g1, g2, g3⟩ := hH1.is.cells3 hSm
  have hI : (m : Int) < ((m : Int) + 1) := by omega
  have hlen1 : m + 1 ≤ cap := by have := hH1.is.len; omega
  obtain ⟨n1, n2, n3⟩ := hH1.is.ne
  have n1' : g ≠ b := fun e => n1 e.symm
  have hs1 := hF1.size
  have hb1 : b < w1.heap.size := by omega
  go_upto_region 4 with fail
  have hE2 : EnAt (w1.alloc (.cells #[.int .i64 e.t, .int .i64 e.k, .int .i64 e.x] 65)) w1.heap.size e := blk_new w1 _
  have hF2 : Fr (fun _ => False) w1 (w1.alloc (.cells #[.int .i64 e.t, .int .i64 e.k, .int .i64 e.x] 65)) := (Fr.refl _ w1).alloc _
  have hs2 : w1.heap.size < (w1.alloc (.cells #[.int .i64 e.t, .int .i64 e.k, .int .i64 e.x] 65)).heap.size := by simp
  generalize w1.alloc (.cells #[.int .i64 e.t, .int .i64 e.k, .int .i64 e.x] 65) = w2 at *
  generalize hr : w1.heap.size = r at *
  have hH2 := hH1.up hF2
  have hB2 := hH2.is.blk
  rw [hS1] at hB2
  clear c0 c1 f0 a1 a2 a3 g1 g2 g3
  have c0 := cell_at hB2 0
  have c1 := cell_at hB2 1
  simp at c0 c1
  have f0 := free_at hB2 0
  obtain ⟨a1, a2, a3⟩ := hH2.is.at3 hSm
  obtain ⟨g1, g2, g3⟩ := hH2.is.cells3 hSm
  have k1 := cell_at hE2 1
  simp at k1
  have nr1 : g ≠ r := by omega
  have nr2 : b ≠ r := by omega
  have nr3 : r ≠ g := by omega
  have nr4 : r ≠ b := by omega
  go_upto_region 6 with fail
  have hF3 : Fr (fun k => k = b ∨ k = g) w2 ((set3 w2 g m ⟨0, 0, 0⟩).setCell ⟨b, 0, none⟩ (.slice (some ⟨g, 0, none⟩) m cap)) := ((set3_fr w2 g m ⟨0, 0, 0⟩).mono (fun _ _ h => .inr h)).setAt b 0 _ (.inr (.inl rfl))
  have hR3 : Rw ((set3 w2 g m ⟨0, 0, 0⟩).setCell ⟨b, 0, none⟩ (.slice (some ⟨g, 0, none⟩) m cap)) g cap S.dropLast :=
    rw_cut hS1 ⟨0, 0, 0⟩ ((Rw.set (show Rw w2 g cap S from hH2.is.row) m (by omega) ⟨0, 0, 0⟩).fr (Fr.set1 _ b 0 _) n1')
  have hB3 : ((set3 w2 g m ⟨0, 0, 0⟩).setCell ⟨b, 0, none⟩ (.slice (some ⟨g, 0, none⟩) m cap)).heap[b]? = some (.cells #[.slice (some ⟨g, 0, none⟩) m cap, .map (some bm), .int .i64 (n : Int)] 62 (0, 0)) := by
    have := blk_setCell (i := 0) (u := .slice (some ⟨g, 0, none⟩) m cap) ((set3_fr w2 g m ⟨0, 0, 0⟩).blk hB2 n1)
    simpa using this
  unfold set3 at hF3 hR3 hB3
  dsimp only at hF3 hR3 hB3
  generalize ((((w2.setCell ⟨g, m * 3, none⟩ (.int .i64 0)).setCell ⟨g, m * 3 + 1, none⟩ (.int .i64 0)).setCell ⟨g, m * 3 + 2, none⟩ (.int .i64 0)).setCell ⟨b, 0, none⟩ (.slice (some ⟨g, 0, none⟩) m cap)) = w3 at *
  clear c0 c1 f0 a1 a2 a3 g1 g2 g3 k1
  have hE3 : EnAt w3 r e := hF3.blk hE2 (by show ¬ (r = b ∨ r = g); omega)
  have c1 := cell_at hB3 1
  have k1 := cell_at hE3 1
  simp at c1 k1
  have hwf := hH2.is.wf m e hSm
  obtain ⟨w4, hr4, hP4, hF4⟩ := PM.del (w := w3.drew) ((hH2.is.map.fr hF3 (by show ¬ (bm = b ∨ bm = g); omega)).fr (Fr.refl (fun _ => False) _).drew (fun h => h)) e.k (by omega) 0
  have hFa : Fr (fun k => k = b ∨ k = g ∨ k = bm) wa w4 := (((hF1.trans hF2 (T := fun k => k = b ∨ k = g ∨ k = bm) (fun _ _ h => .inr h) (fun _ _ h => h.elim)).trans hF3 (fun _ _ h => h) (fun _ _ h => h.elim .inl (fun h => .inr (.inl h)))).drew).trans hF4 (fun _ _ h => h) (fun _ _ h => .inr (.inr h))
  have hE4 : EnAt w4 r e := hF4.blk (show w3.drew.heap[r]? = _ from hE3) (by show ¬ r = bm; omega)
  have hH4 : HL w4 b g bm cap n (del M e.k) S.dropLast (upd (upd (upd f d.k (some p)) e.k (some m)) e.k none) :=
    ⟨⟨by have := hF4.blk (show w3.drew.heap[b]? = _ from hB3) n2; simpa [hS1] using this, hR3.fr (Fr.drew (Fr.refl (fun _ => False) w3)) (fun h => h) |>.fr hF4 n3, hP4, by simp [hS1]; omega, hH2.is.capm, hm, by simp [hS1]; omega, fun i x hx => by
      rw [drop_get hS1] at hx
      split at hx
      · exact hH2.is.wf i x hx
      · cases hx⟩, hH2.pl.cut hS1 hSm, hH2.pl.cutPerm hH2.pm hS1 hSm⟩
  go_region_law (refine step_delete rfl _ _ _ _ rfl _ _ rfl rfl hr4 ?_)
  all_goals
    clear c1 k1
    have hE0 : ∃ z, EnAt w4 q z := ⟨⟨0, 0, 0⟩, hFa.blk hz (by show ¬ (q = b ∨ q = g ∨ q = bm); omega)⟩
    have hr4' : q < r := by omega
    have hrg : ¬ (r = g ∨ r = bm) := by omega
    have hqg : ¬ (q = g ∨ q = bm) := by omega
    have hFq : Fr (fun k => k = b ∨ k = g ∨ k = bm) w w4 := hf1.trans hFa (fun _ _ h => h.elim) (fun _ _ h => h)
    clear hFa hF1 hF2 hF3 hF4 hB1 hB2 hB3 hE2 hE3 hH hH1 hH2 HSW hr4 hP4 hR3
    by_cases hpm : p < m
    · have hmid := unhide HM hpm
      have hI2 : (p : Int) < (m : Int) := by omega
      have HR := hide (rise_calls hH4 p (by simp [hS1]; omega) hmid)
      go_wp2_with fail
      refine (unhide HR).mono ?_
      rintro e' w5 ⟨rfl, ⟨L5, f5, hH5, hD5⟩, hF5⟩
      have hl5 := hH5.pm.length_eq.trans hH4.pm.length_eq.symm
      have HS := hide (sink_calls hH5 p (by rw [hl5]; simp [hS1]; omega) hD5)
      go_wp2_with fail
      refine (unhide HS).mono ?_
      rintro e' w6 ⟨rfl, ⟨L6, f6, hH6, hO6⟩, hF6⟩
      obtain ⟨z, hz⟩ := hE0
      have hz6 := hF6.blk (hF5.blk hz hqg) hqg
      have hE6 : EnAt w6 r e := hF6.blk (hF5.blk hE4 hrg) hrg
      have k0 := cell_at hE6 0
      have k1 := cell_at hE6 1
      have k2 := cell_at hE6 2
      have z0 := cell_at hz6 0
      have z1 := cell_at hz6 1
      have z2 := cell_at hz6 2
      have y0 := free_at hz6 0
      have y1 := free_at hz6 1
      have y2 := free_at hz6 2
      simp at k0 k1 k2 z0 z1 z2
      go_wp2
      have hFn := (hFq.trans hF5 (fun _ _ h => h) (fun _ _ h => .inr h)).trans hF6 (fun _ _ h => h) (fun _ _ h => .inr h)
      have hz7 : Fr (fun k => k = q) w6 _ := (((Fr.refl (fun k => k = q) w6).setAt q 0 (.int .i64 e.t) (.inr rfl)).setAt q 1 (.int .i64 e.k) (.inr rfl)).setAt q 2 (.int .i64 e.x) (.inr rfl)
      exact bodyPost_ret (results_en rfl _ _ q e rfl (EnAt.set hz6 e)) rfl ⟨rfl, ⟨L6, f6, ⟨hH6.is.fr hz7 (by omega) (by omega) (by omega), hH6.pl, hH6.pm⟩, hO6⟩, hFn.trans hz7 (fun _ _ h => h) (fun i hi h => by omega)⟩
    · have hI2 : ¬ (p : Int) < (m : Int) := by omega
      obtain rfl : p = m := by omega
      obtain ⟨z, hz⟩ := hE0
      have hSL : HO S.dropLast := by
        have := (hO.cut hLm)
        rw [unhide HSE2 hpm] at this
        exact this
      have k0 := cell_at hE4 0
      have k1 := cell_at hE4 1
      have k2 := cell_at hE4 2
      have z0 := cell_at hz 0
      have z1 := cell_at hz 1
      have z2 := cell_at hz 2
      have y0 := free_at hz 0
      have y1 := free_at hz 1
      have y2 := free_at hz 2
      simp at k0 k1 k2 z0 z1 z2
      go_wp2
      have hz7 : Fr (fun k => k = q) w4 _ := (((Fr.refl (fun k => k = q) w4).setAt q 0 (.int .i64 e.t) (.inr rfl)).setAt q 1 (.int .i64 e.k) (.inr rfl)).setAt q 2 (.int .i64 e.x) (.inr rfl)
      exact bodyPost_ret (results_en rfl _ _ q e rfl (EnAt.set hz e)) rfl ⟨rfl, ⟨_, ⟨_, ⟨hH4.is.fr hz7 (by omega) (by omega) (by omega), hH4.pl, hH4.pm⟩⟩, hSL⟩, hFq.trans hz7 (fun _ _ h => h) (fun i hi h => by omega)⟩

end Go.Proofs.Ytijiackjlgpgpaa
