/-
  The reader of a module's parts: actor, module.
-/
import Derived.Test.YthdpgachdegcgaaMoRdM
namespace Go.Proofs.Ythdpgachdegcgaa
open Go.RowKit
set_option linter.unusedVariables false
set_option maxRecDepth 8192

def mk5 (x0 x1 x2 x3 x4 : Option Addr × Nat × Nat) : Fin 5 → Option Addr × Nat × Nat
  | 0 => x0
  | 1 => x1
  | 2 => x2
  | 3 => x3
  | 4 => x4

theorem load_ac {w : World} {b : Nat} {v0 v1 v2 v3 v4 : Value} (h : w.heap[b]? = some (.cells #[v0, v1, v2, v3, v4] 42 (0, 0))) (h0 : ∃ a n c, v0 = .slice a n c) (h1 : ∃ a n c, v1 = .slice a n c) (h2 : ∃ a n c, v2 = .slice a n c) (h3 : ∃ a n c, v3 = .slice a n c) (h4 : ∃ a n c, v4 = .slice a n c) :
    (loadVar 42 ⟨b, 0, none⟩).run Try.prog w = .ok (.agg #[v0, v1, v2, v3, v4]) w := by
  obtain ⟨_, _, _, rfl⟩ := h0
  obtain ⟨_, _, _, rfl⟩ := h1
  obtain ⟨_, _, _, rfl⟩ := h2
  obtain ⟨_, _, _, rfl⟩ := h3
  obtain ⟨_, _, _, rfl⟩ := h4
  refine run_loadVar_mid w b 0 42 [_, _, _, _, _] _ ?_ Try.underlying42 rfl (by kernel_rfl)
  intro j v hv
  rw [Nat.zero_add, cell_at h]
  simpa using hv

theorem results_ac1 {fn : Func} {p : Tmp} (h : fn.results = #[.cell p 42]) (tmps : Array Value) (w : World) (b : Nat) {v : Value} (hp : tmps.getD p undef = .pointer (some ⟨b, 0, none⟩))
    (hb : (loadVar 42 ⟨b, 0, none⟩).run Try.prog w = .ok v w) : (results fn tmps).run Try.prog w = .ok v w := by
  have hp' : tmps[p]?.getD undef = .pointer (some ⟨b, 0, none⟩) := by simpa using hp
  simp only [results, h]
  simp [hp', asAddr, hb]

set_option maxHeartbeats 1000000 in
theorem rdActor_calls {w : World} {q b : Nat} {Tx : List UInt8} {s : RS} (h : MR w q b Tx s) :
    Calls Try.prog 34 #[.pointer (some ⟨q, 0, none⟩)] w fun e w' => ∃ sl, e = .returned (acV sl) ∧ AcS w.heap.size w'.heap.size w' sl (rActor s).1 ∧ MR w' q b Tx (rActor s).2 ∧ Fr (QR q b) w w' := by
  have hql := h.lt
  have q0 : Fr (fun _ => False) w ((w.alloc (.cells #[.slice none 0 0, .slice none 0 0, .slice none 0 0, .slice none 0 0, .slice none 0 0] 42)).alloc (.cells #[.slice none 0 0, .slice none 0 0, .slice none 0 0, .slice none 0 0, .slice none 0 0] 42)) := ((Fr.refl _ w).alloc _).alloc _
  have r0 : ((w.alloc (.cells #[.slice none 0 0, .slice none 0 0, .slice none 0 0, .slice none 0 0, .slice none 0 0] 42)).alloc (.cells #[.slice none 0 0, .slice none 0 0, .slice none 0 0, .slice none 0 0, .slice none 0 0] 42)).heap[w.heap.size]? = some (.cells #[.slice none 0 0, .slice none 0 0, .slice none 0 0, .slice none 0 0, .slice none 0 0] 42 (0, 0)) := blk_alloc (blk_new w _)
  have l0 : ((w.alloc (.cells #[.slice none 0 0, .slice none 0 0, .slice none 0 0, .slice none 0 0, .slice none 0 0] 42)).alloc (.cells #[.slice none 0 0, .slice none 0 0, .slice none 0 0, .slice none 0 0, .slice none 0 0] 42)).heap[w.heap.size + 1]? = some (.cells #[.slice none 0 0, .slice none 0 0, .slice none 0 0, .slice none 0 0, .slice none 0 0] 42 (0, 0)) := by
    have := blk_new (w.alloc (.cells #[.slice none 0 0, .slice none 0 0, .slice none 0 0, .slice none 0 0, .slice none 0 0] 42)) (.cells #[.slice none 0 0, .slice none 0 0, .slice none 0 0, .slice none 0 0, .slice none 0 0] 42)
    simpa using this
  have HM0 := hide (h.q0 q0)
  have R0 := hide r0
  have L0 := hide l0
  have F0 : Fr (QR q b) w ((w.alloc (.cells #[.slice none 0 0, .slice none 0 0, .slice none 0 0, .slice none 0 0, .slice none 0 0] 42)).alloc (.cells #[.slice none 0 0, .slice none 0 0, .slice none 0 0, .slice none 0 0, .slice none 0 0] 42)) := frQ0 q0
  have z0 : w.heap.size + 2 ≤ ((w.alloc (.cells #[.slice none 0 0, .slice none 0 0, .slice none 0 0, .slice none 0 0, .slice none 0 0] 42)).alloc (.cells #[.slice none 0 0, .slice none 0 0, .slice none 0 0, .slice none 0 0, .slice none 0 0] 42)).heap.size := by simp
  have HE := hide (show rActor s = (⟨(rTypes 4 s).1, (rTypes 16 (rTypes 4 s).2).1, (rTypes 8 (rTypes 16 (rTypes 4 s).2).2).1, (rCode (rTypes 8 (rTypes 16 (rTypes 4 s).2).2).2).1, (rTables (rCode (rTypes 8 (rTypes 16 (rTypes 4 s).2).2).2).2).1⟩, (rTables (rCode (rTypes 8 (rTypes 16 (rTypes 4 s).2).2).2).2).2) from rfl)
  have HC0 := hide (fun (w' : World) (h : MR w' q b Tx s) => rdTypes_calls h 4 (by omega))
  have HC1 := hide (fun (w' : World) (h : MR w' q b Tx (rTypes 4 s).2) => rdTypes_calls h 16 (by omega))
  have HC2 := hide (fun (w' : World) (h : MR w' q b Tx (rTypes 16 (rTypes 4 s).2).2) => rdTypes_calls h 8 (by omega))
  have HC3 := hide (fun (w' : World) (h : MR w' q b Tx (rTypes 8 (rTypes 16 (rTypes 4 s).2).2).2) => rdCode_calls h)
  have HC4 := hide (fun (w' : World) (h : MR w' q b Tx (rCode (rTypes 8 (rTypes 16 (rTypes 4 s).2).2).2).2) => rdTables_calls h)
  generalize rTypes 4 s = p1 at *
  obtain ⟨k0, s1⟩ := p1
  dsimp only at *
  generalize rTypes 16 s1 = p2 at *
  obtain ⟨k1, s2⟩ := p2
  dsimp only at *
  generalize rTypes 8 s2 = p3 at *
  obtain ⟨k2, s3⟩ := p3
  dsimp only at *
  generalize rCode s3 = p4 at *
  obtain ⟨k3, s4⟩ := p4
  dsimp only at *
  generalize rTables s4 = p5 at *
  obtain ⟨k4, s5⟩ := p5
  dsimp only at *
  rw [unhide HE]
  clear h q0 r0 l0
  go_enter Try.func34, Try.ntmps34
  go_wp2_with fail
  refine ((unhide HC0) _ (unhide HM0)).mono ?_
  rintro e w1 ⟨g0, n0, rfl, hA0, hM1, hF1⟩
  generalize ((w.alloc (.cells #[.slice none 0 0, .slice none 0 0, .slice none 0 0, .slice none 0 0, .slice none 0 0] 42)).alloc (.cells #[.slice none 0 0, .slice none 0 0, .slice none 0 0, .slice none 0 0, .slice none 0 0] 42)) = x0 at *
  have z1' := hF1.size
  have B1 := hide (hF1.blk (unhide L0) (by show ¬ (w.heap.size + 1 = q ∨ w.heap.size + 1 = b); omega))
  have R1' := hide (hF1.blk (unhide R0) (by show ¬ (w.heap.size = q ∨ w.heap.size = b); omega))
  have f1 := free_at (unhide B1) 0
  have c1 := cell_at (unhide B1) 0
  simp at c1
  have fs1 := Fr.set1 w1 (w.heap.size + 1) 0 (.slice (some ⟨g0, 0, none⟩) n0 n0)
  have L1 := hide (show (w1.setCell ⟨w.heap.size + 1, 0, none⟩ (.slice (some ⟨g0, 0, none⟩) n0 n0)).heap[w.heap.size + 1]? = some (.cells #[.slice (some ⟨g0, 0, none⟩) n0 n0, .slice none 0 0, .slice none 0 0, .slice none 0 0, .slice none 0 0] 42 (0, 0)) from blk_setCell (unhide B1))
  have R1 := hide (fs1.blk (unhide R1') (by omega))
  have HM1 := hide (hM1.fr fs1 (by omega) (by omega))
  have F1 : Fr (QR q b) w (w1.setCell ⟨w.heap.size + 1, 0, none⟩ (.slice (some ⟨g0, 0, none⟩) n0 n0)) := (frQt F0 hF1).setAt _ _ _ (.inl (by omega))
  have z1 : w.heap.size + 2 ≤ (w1.setCell ⟨w.heap.size + 1, 0, none⟩ (.slice (some ⟨g0, 0, none⟩) n0 n0)).heap.size := Nat.le_trans (Nat.le_trans z0 z1') fs1.size
  have HA0_1 := hide (TyA.fr hA0 fs1 (fun k hk => by omega))
  have zz0_1 := fs1.size
  clear hM1 hF1 hA0 fs1 F0 B1 R1'
  go_wp2_with fail
  refine ((unhide HC1) _ (unhide HM1)).mono ?_
  rintro e w2 ⟨g1, n1, rfl, hA1, hM2, hF2⟩
  generalize w1.setCell ⟨w.heap.size + 1, 0, none⟩ (.slice (some ⟨g0, 0, none⟩) n0 n0) = x1 at *
  have z2' := hF2.size
  have B2 := hide (hF2.blk (unhide L1) (by show ¬ (w.heap.size + 1 = q ∨ w.heap.size + 1 = b); omega))
  have R2' := hide (hF2.blk (unhide R1) (by show ¬ (w.heap.size = q ∨ w.heap.size = b); omega))
  have f2 := free_at (unhide B2) 1
  have c2 := cell_at (unhide B2) 1
  simp at c2
  have fs2 := Fr.set1 w2 (w.heap.size + 1) 1 (.slice (some ⟨g1, 0, none⟩) n1 n1)
  have L2 := hide (show (w2.setCell ⟨w.heap.size + 1, 1, none⟩ (.slice (some ⟨g1, 0, none⟩) n1 n1)).heap[w.heap.size + 1]? = some (.cells #[.slice (some ⟨g0, 0, none⟩) n0 n0, .slice (some ⟨g1, 0, none⟩) n1 n1, .slice none 0 0, .slice none 0 0, .slice none 0 0] 42 (0, 0)) from blk_setCell (unhide B2))
  have R2 := hide (fs2.blk (unhide R2') (by omega))
  have HM2 := hide (hM2.fr fs2 (by omega) (by omega))
  have F2 : Fr (QR q b) w (w2.setCell ⟨w.heap.size + 1, 1, none⟩ (.slice (some ⟨g1, 0, none⟩) n1 n1)) := (frQt F1 hF2).setAt _ _ _ (.inl (by omega))
  have z2 : w.heap.size + 2 ≤ (w2.setCell ⟨w.heap.size + 1, 1, none⟩ (.slice (some ⟨g1, 0, none⟩) n1 n1)).heap.size := Nat.le_trans (Nat.le_trans z1 z2') fs2.size
  have HA1_2 := hide (TyA.fr hA1 fs2 (fun k hk => by omega))
  have HA0_2 := hide (TyA.fr (TyA.fr (unhide HA0_1) hF2 (fun k hk => by rcases hk with e | e <;> omega)) fs2 (fun k hk => by omega))
  have zz0_2 := Nat.le_trans zz0_1 (Nat.le_trans z2' fs2.size)
  have zz1_2 := fs2.size
  clear hM2 hF2 hA1 fs2 F1 B2 R2'
  go_wp2_with fail
  refine ((unhide HC2) _ (unhide HM2)).mono ?_
  rintro e w3 ⟨g2, n2, rfl, hA2, hM3, hF3⟩
  generalize w2.setCell ⟨w.heap.size + 1, 1, none⟩ (.slice (some ⟨g1, 0, none⟩) n1 n1) = x2 at *
  have z3' := hF3.size
  have B3 := hide (hF3.blk (unhide L2) (by show ¬ (w.heap.size + 1 = q ∨ w.heap.size + 1 = b); omega))
  have R3' := hide (hF3.blk (unhide R2) (by show ¬ (w.heap.size = q ∨ w.heap.size = b); omega))
  have f3 := free_at (unhide B3) 2
  have c3 := cell_at (unhide B3) 2
  simp at c3
  have fs3 := Fr.set1 w3 (w.heap.size + 1) 2 (.slice (some ⟨g2, 0, none⟩) n2 n2)
  have L3 := hide (show (w3.setCell ⟨w.heap.size + 1, 2, none⟩ (.slice (some ⟨g2, 0, none⟩) n2 n2)).heap[w.heap.size + 1]? = some (.cells #[.slice (some ⟨g0, 0, none⟩) n0 n0, .slice (some ⟨g1, 0, none⟩) n1 n1, .slice (some ⟨g2, 0, none⟩) n2 n2, .slice none 0 0, .slice none 0 0] 42 (0, 0)) from blk_setCell (unhide B3))
  have R3 := hide (fs3.blk (unhide R3') (by omega))
  have HM3 := hide (hM3.fr fs3 (by omega) (by omega))
  have F3 : Fr (QR q b) w (w3.setCell ⟨w.heap.size + 1, 2, none⟩ (.slice (some ⟨g2, 0, none⟩) n2 n2)) := (frQt F2 hF3).setAt _ _ _ (.inl (by omega))
  have z3 : w.heap.size + 2 ≤ (w3.setCell ⟨w.heap.size + 1, 2, none⟩ (.slice (some ⟨g2, 0, none⟩) n2 n2)).heap.size := Nat.le_trans (Nat.le_trans z2 z3') fs3.size
  have HA2_3 := hide (TyA.fr hA2 fs3 (fun k hk => by omega))
  have HA0_3 := hide (TyA.fr (TyA.fr (unhide HA0_2) hF3 (fun k hk => by rcases hk with e | e <;> omega)) fs3 (fun k hk => by omega))
  have zz0_3 := Nat.le_trans zz0_2 (Nat.le_trans z3' fs3.size)
  have HA1_3 := hide (TyA.fr (TyA.fr (unhide HA1_2) hF3 (fun k hk => by rcases hk with e | e <;> omega)) fs3 (fun k hk => by omega))
  have zz1_3 := Nat.le_trans zz1_2 (Nat.le_trans z3' fs3.size)
  have zz2_3 := fs3.size
  clear hM3 hF3 hA2 fs3 F2 B3 R3'
  go_wp2_with fail
  refine ((unhide HC3) _ (unhide HM3)).mono ?_
  rintro e w4 ⟨g3, n3, rfl, hA3, hM4, hF4⟩
  generalize w3.setCell ⟨w.heap.size + 1, 2, none⟩ (.slice (some ⟨g2, 0, none⟩) n2 n2) = x3 at *
  have z4' := hF4.size
  have B4 := hide (hF4.blk (unhide L3) (by show ¬ (w.heap.size + 1 = q ∨ w.heap.size + 1 = b); omega))
  have R4' := hide (hF4.blk (unhide R3) (by show ¬ (w.heap.size = q ∨ w.heap.size = b); omega))
  have f4 := free_at (unhide B4) 3
  have c4 := cell_at (unhide B4) 3
  simp at c4
  have fs4 := Fr.set1 w4 (w.heap.size + 1) 3 (.slice (some ⟨g3, 0, none⟩) n3 n3)
  have L4 := hide (show (w4.setCell ⟨w.heap.size + 1, 3, none⟩ (.slice (some ⟨g3, 0, none⟩) n3 n3)).heap[w.heap.size + 1]? = some (.cells #[.slice (some ⟨g0, 0, none⟩) n0 n0, .slice (some ⟨g1, 0, none⟩) n1 n1, .slice (some ⟨g2, 0, none⟩) n2 n2, .slice (some ⟨g3, 0, none⟩) n3 n3, .slice none 0 0] 42 (0, 0)) from blk_setCell (unhide B4))
  have R4 := hide (fs4.blk (unhide R4') (by omega))
  have HM4 := hide (hM4.fr fs4 (by omega) (by omega))
  have F4 : Fr (QR q b) w (w4.setCell ⟨w.heap.size + 1, 3, none⟩ (.slice (some ⟨g3, 0, none⟩) n3 n3)) := (frQt F3 hF4).setAt _ _ _ (.inl (by omega))
  have z4 : w.heap.size + 2 ≤ (w4.setCell ⟨w.heap.size + 1, 3, none⟩ (.slice (some ⟨g3, 0, none⟩) n3 n3)).heap.size := Nat.le_trans (Nat.le_trans z3 z4') fs4.size
  have HA3_4 := hide (PrA.fr hA3 fs4 (fun k hk => by omega))
  have HA0_4 := hide (TyA.fr (TyA.fr (unhide HA0_3) hF4 (fun k hk => by rcases hk with e | e <;> omega)) fs4 (fun k hk => by omega))
  have zz0_4 := Nat.le_trans zz0_3 (Nat.le_trans z4' fs4.size)
  have HA1_4 := hide (TyA.fr (TyA.fr (unhide HA1_3) hF4 (fun k hk => by rcases hk with e | e <;> omega)) fs4 (fun k hk => by omega))
  have zz1_4 := Nat.le_trans zz1_3 (Nat.le_trans z4' fs4.size)
  have HA2_4 := hide (TyA.fr (TyA.fr (unhide HA2_3) hF4 (fun k hk => by rcases hk with e | e <;> omega)) fs4 (fun k hk => by omega))
  have zz2_4 := Nat.le_trans zz2_3 (Nat.le_trans z4' fs4.size)
  have zz3_4 := fs4.size
  clear hM4 hF4 hA3 fs4 F3 B4 R4'
  go_wp2_with fail
  refine ((unhide HC4) _ (unhide HM4)).mono ?_
  rintro e w5 ⟨g4, n4, rfl, hA4, hM5, hF5⟩
  generalize w4.setCell ⟨w.heap.size + 1, 3, none⟩ (.slice (some ⟨g3, 0, none⟩) n3 n3) = x4 at *
  have z5' := hF5.size
  have B5 := hide (hF5.blk (unhide L4) (by show ¬ (w.heap.size + 1 = q ∨ w.heap.size + 1 = b); omega))
  have R5' := hide (hF5.blk (unhide R4) (by show ¬ (w.heap.size = q ∨ w.heap.size = b); omega))
  have f5 := free_at (unhide B5) 4
  have c5 := cell_at (unhide B5) 4
  simp at c5
  have fs5 := Fr.set1 w5 (w.heap.size + 1) 4 (.slice (some ⟨g4, 0, none⟩) n4 n4)
  have L5 := hide (show (w5.setCell ⟨w.heap.size + 1, 4, none⟩ (.slice (some ⟨g4, 0, none⟩) n4 n4)).heap[w.heap.size + 1]? = some (.cells #[.slice (some ⟨g0, 0, none⟩) n0 n0, .slice (some ⟨g1, 0, none⟩) n1 n1, .slice (some ⟨g2, 0, none⟩) n2 n2, .slice (some ⟨g3, 0, none⟩) n3 n3, .slice (some ⟨g4, 0, none⟩) n4 n4] 42 (0, 0)) from blk_setCell (unhide B5))
  have R5 := hide (fs5.blk (unhide R5') (by omega))
  have e0 := cell_at (unhide B5) 0
  have e1 := cell_at (unhide B5) 1
  have e2 := cell_at (unhide B5) 2
  have e3 := cell_at (unhide B5) 3
  have y0 := cell_at (unhide R5') 0
  have y1 := cell_at (unhide R5') 1
  have y2 := cell_at (unhide R5') 2
  have y3 := cell_at (unhide R5') 3
  have y4 := cell_at (unhide R5') 4
  have v0 := free_at (unhide R5') 0
  have v1 := free_at (unhide R5') 1
  have v2 := free_at (unhide R5') 2
  have v3 := free_at (unhide R5') 3
  have v4 := free_at (unhide R5') 4
  simp at e0 e1 e2 e3 y0 y1 y2 y3 y4
  have HM5 := hide (hM5.fr fs5 (by omega) (by omega))
  have F5 : Fr (QR q b) w (w5.setCell ⟨w.heap.size + 1, 4, none⟩ (.slice (some ⟨g4, 0, none⟩) n4 n4)) := (frQt F4 hF5).setAt _ _ _ (.inl (by omega))
  have z5 : w.heap.size + 2 ≤ (w5.setCell ⟨w.heap.size + 1, 4, none⟩ (.slice (some ⟨g4, 0, none⟩) n4 n4)).heap.size := Nat.le_trans (Nat.le_trans z4 z5') fs5.size
  have HA4_5 := hide (TbA.fr hA4 fs5 (fun k hk => by omega))
  have HA0_5 := hide (TyA.fr (TyA.fr (unhide HA0_4) hF5 (fun k hk => by rcases hk with e | e <;> omega)) fs5 (fun k hk => by omega))
  have zz0_5 := Nat.le_trans zz0_4 (Nat.le_trans z5' fs5.size)
  have HA1_5 := hide (TyA.fr (TyA.fr (unhide HA1_4) hF5 (fun k hk => by rcases hk with e | e <;> omega)) fs5 (fun k hk => by omega))
  have zz1_5 := Nat.le_trans zz1_4 (Nat.le_trans z5' fs5.size)
  have HA2_5 := hide (TyA.fr (TyA.fr (unhide HA2_4) hF5 (fun k hk => by rcases hk with e | e <;> omega)) fs5 (fun k hk => by omega))
  have zz2_5 := Nat.le_trans zz2_4 (Nat.le_trans z5' fs5.size)
  have HA3_5 := hide (PrA.fr (PrA.fr (unhide HA3_4) hF5 (fun k hk => by rcases hk with e | e <;> omega)) fs5 (fun k hk => by omega))
  have zz3_5 := Nat.le_trans zz3_4 (Nat.le_trans z5' fs5.size)
  have zz4_5 := fs5.size
  clear hM5 hF5 hA4 fs5 F4 B5 R5'
  go_wp2
  generalize w5.setCell ⟨w.heap.size + 1, 4, none⟩ (.slice (some ⟨g4, 0, none⟩) n4 n4) = x5 at *
  have fr : Fr (fun k => k = w.heap.size) x5 ((((((x5).setCell ⟨w.heap.size, 0, none⟩ (.slice (some ⟨g0, 0, none⟩) n0 n0)).setCell ⟨w.heap.size, 1, none⟩ (.slice (some ⟨g1, 0, none⟩) n1 n1)).setCell ⟨w.heap.size, 2, none⟩ (.slice (some ⟨g2, 0, none⟩) n2 n2)).setCell ⟨w.heap.size, 3, none⟩ (.slice (some ⟨g3, 0, none⟩) n3 n3)).setCell ⟨w.heap.size, 4, none⟩ (.slice (some ⟨g4, 0, none⟩) n4 n4)) := (((((Fr.refl (fun k => k = w.heap.size) x5).setAt _ _ _ (.inr rfl)).setAt _ _ _ (.inr rfl)).setAt _ _ _ (.inr rfl)).setAt _ _ _ (.inr rfl)).setAt _ _ _ (.inr rfl)
  have hb : ((((((x5).setCell ⟨w.heap.size, 0, none⟩ (.slice (some ⟨g0, 0, none⟩) n0 n0)).setCell ⟨w.heap.size, 1, none⟩ (.slice (some ⟨g1, 0, none⟩) n1 n1)).setCell ⟨w.heap.size, 2, none⟩ (.slice (some ⟨g2, 0, none⟩) n2 n2)).setCell ⟨w.heap.size, 3, none⟩ (.slice (some ⟨g3, 0, none⟩) n3 n3)).setCell ⟨w.heap.size, 4, none⟩ (.slice (some ⟨g4, 0, none⟩) n4 n4)).heap[w.heap.size]? = some (.cells #[.slice (some ⟨g0, 0, none⟩) n0 n0, .slice (some ⟨g1, 0, none⟩) n1 n1, .slice (some ⟨g2, 0, none⟩) n2 n2, .slice (some ⟨g3, 0, none⟩) n3 n3, .slice (some ⟨g4, 0, none⟩) n4 n4] 42 (0, 0)) := blk_setCell (blk_setCell (blk_setCell (blk_setCell (blk_setCell (unhide R5)))))
  have hz := fr.size
  refine bodyPost_ret (results_ac1 rfl _ _ _ rfl (load_ac hb ⟨_, _, _, rfl⟩ ⟨_, _, _, rfl⟩ ⟨_, _, _, rfl⟩ ⟨_, _, _, rfl⟩ ⟨_, _, _, rfl⟩)) rfl ⟨mk5 (some ⟨g0, 0, none⟩, n0, n0) (some ⟨g1, 0, none⟩, n1, n1) (some ⟨g2, 0, none⟩, n2, n2) (some ⟨g3, 0, none⟩, n3, n3) (some ⟨g4, 0, none⟩, n4, n4), rfl, ⟨?_, ?_, ?_, ?_, ?_, ?_⟩, ?_, ?_⟩
  · exact TyA.wide (TyA.fr (unhide HA0_5) fr (fun k hk => by omega)) (by omega) (by omega)
  · exact TyA.wide (TyA.fr (unhide HA1_5) fr (fun k hk => by omega)) (by omega) (by omega)
  · exact TyA.wide (TyA.fr (unhide HA2_5) fr (fun k hk => by omega)) (by omega) (by omega)
  · exact PrA.wide (PrA.fr (unhide HA3_5) fr (fun k hk => by omega)) (by omega) (by omega)
  · exact TbA.wide (TbA.fr (unhide HA4_5) fr (fun k hk => by omega)) (by omega) (by omega)
  · exact ⟨Nat.le_refl _, (unhide HA1_5).small⟩
  · exact (unhide HM5).fr fr (by omega) (by omega)
  · exact F5.trans fr (fun _ _ h => h) (fun i hi e => by omega)

end Go.Proofs.Ythdpgachdegcgaa
