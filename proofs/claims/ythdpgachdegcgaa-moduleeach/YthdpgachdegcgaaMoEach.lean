/-
  module.Each: a function over copies of all code.
-/
import Derived.Test.YthdpgachdegcgaaMoClone
import Derived.Test.YthdpgachdegcgaaMoRefRdB
import Derived.Deep.RegionHeld3
namespace Go.Proofs.Ythdpgachdegcgaa
open Go.RowKit
set_option linter.unusedVariables false
set_option maxRecDepth 100000

/-- a list of instructions, as a cell holds it -/
def CdV (lo hi : Nat) (w : World) (vs : List Value) (l : List (Int × Int)) : Prop := ∃ a n c, vs = [.slice a n c] ∧ PrA lo hi w a n l
theorem niceCd : Nice CdV := ⟨fun ⟨a, n, c, h1, h2⟩ hf hS => ⟨a, n, c, h1, PrA.fr h2 hf hS⟩, fun ⟨a, n, c, h1, h2⟩ hl hh => ⟨a, n, c, h1, PrA.wide h2 hl hh⟩⟩

theorem infoCd : (Try.prog.info? 39).map (fun i => (i.zero, i.size, i.bytes)) = some (some (.slice none 0 0), 1, 24) := by kernel_rfl

theorem PrA.bounds {lo hi : Nat} {w : World} {a : Option Addr} {n : Nat} {l : List (Int × Int)} (h : PrA lo hi w a n l) : ∀ p ∈ l, (-9223372036854775808 ≤ p.1 ∧ p.1 ≤ 9223372036854775807) ∧ (-9223372036854775808 ≤ p.2 ∧ p.2 ≤ 9223372036854775807) := by
  intro p hp
  obtain ⟨i, hi, rfl⟩ := List.getElem_of_mem hp
  obtain ⟨b, off, x, vs, _, _, _, h4, _, _, h6⟩ := Arr.at h (i := i) (by rw [← h.len]; exact hi)
  rw [List.getElem?_eq_getElem hi] at h4
  simp only [Option.some.injEq] at h4
  rw [h4]; exact h6

/-- two blocks that a statement only reads -/
structure EG (B tb : Nat) (vB : Value) (s : Fin 5 → Option Addr × Nat × Nat) (w : World) : Prop where
  hB : w.heap[B]? = some (.cells #[vB] 63 (0, 0))
  ht : w.heap[tb]? = some (.cells #[slV (s 0), slV (s 1), slV (s 2), slV (s 3), slV (s 4)] 42 (0, 0))
theorem EG.all {B tb : Nat} {vB : Value} {s : Fin 5 → Option Addr × Nat × Nat} {w : World} (h : EG B tb vB s w) : w.cell? ⟨B, 0, none⟩ = some vB ∧ w.cell? ⟨tb, 3, none⟩ = some (.slice (s 3).1 (s 3).2.1 (s 3).2.2) ∧ EG B tb vB s w :=
  ⟨by rw [cell_at h.hB]; rfl, by rw [cell_at h.ht]; rfl, h⟩
theorem EG.fr {B tb : Nat} {vB : Value} {s : Fin 5 → Option Addr × Nat × Nat} {w w' : World} (h : EG B tb vB s w) {S : Nat → Prop} (hf : Fr S w w') (h1 : ¬ S B) (h2 : ¬ S tb) : EG B tb vB s w' := ⟨hf.blk h.hB h1, hf.blk h.ht h2⟩

set_option maxHeartbeats 4000000 in
theorem each_calls {lo hi : Nat} {w : World} {a : Option Addr} {n : Nat} {m : List Ac} (h : AcA lo hi w a n m) (hh : hi ≤ w.heap.size) (c : Nat) (hb : n ≤ 5864062014805) (hc : ∀ x ∈ m, x.cs.length ≤ 8796093022208) :
    Calls Try.prog 9 #[moV a n c] w fun e w' => ∃ B g, e = .returned (.func (.func 26) #[] #[.pointer (some ⟨B, 0, none⟩)]) ∧ w.heap.size ≤ B ∧ w'.heap[B]? = some (.cells #[.slice (some ⟨g, 0, none⟩) n n] 63 (0, 0)) ∧
      Arr (CdV w.heap.size w'.heap.size) 1 w.heap.size w'.heap.size w' (some ⟨g, 0, none⟩) n (m.map Ac.cs) ∧ Q0 w w' := by
  have hs := h.small
  have hml := h.len
  have HA := hide h
  have HC := hide hc
  clear h hc
  go_enter Try.func9, Try.ntmps9
  go_wp2_with (at_make; refine wpList_make_n _ rfl _ _ 63 rfl 39 (.slice none 0 0) 1 24 Try.underlying63 infoCd .i64 .i64 n rfl rfl (by omega) (by unfold maxLen; omega) ?_; intro cs hcs)
  have q2 : Q0 w (((w.alloc (.cells #[.slice a n c] 25)).alloc (.cells cs 39)).alloc (.cells #[.slice (some ⟨w.heap.size + 1, 0, none⟩) n n] 63)) := (((Fr.refl _ w).alloc _).alloc _).alloc _
  have F2 : Fill CdV 1 n (w.heap.size + 1) 39 (((w.alloc (.cells #[.slice a n c] 25)).alloc (.cells cs 39)).alloc (.cells #[.slice (some ⟨w.heap.size + 1, 0, none⟩) n n] 63)) [] :=
    Fill.start (cs := cs) (blk_alloc (by have := blk_new (w.alloc (.cells #[.slice a n c] 25)) (.cells cs 39); simpa using this)) (by omega)
  have B2 : (((w.alloc (.cells #[.slice a n c] 25)).alloc (.cells cs 39)).alloc (.cells #[.slice (some ⟨w.heap.size + 1, 0, none⟩) n n] 63)).heap[w.heap.size + 1 + 1]? = some (.cells #[.slice (some ⟨w.heap.size + 1, 0, none⟩) n n] 63 (0, 0)) := by
    have := blk_new ((w.alloc (.cells #[.slice a n c] 25)).alloc (.cells cs 39)) (.cells #[.slice (some ⟨w.heap.size + 1, 0, none⟩) n n] 63)
    simpa using this
  have z2 := q2.size
  have HA2 := hide (AcA.fr (unhide HA) q2 q0_no)
  generalize ((w.alloc (.cells #[.slice a n c] 25)).alloc (.cells cs 39)).alloc (.cells #[.slice (some ⟨w.heap.size + 1, 0, none⟩) n n] 63) = w2 at *
  have zz : w.heap.size + 1 + 1 < w2.heap.size := lt_of_blk B2
  go_loopw [13] (fun ix w' => ∃ k : Nat, k ≤ n ∧ ix = .int .i64 k ∧ Fill CdV 1 n (w.heap.size + 1) 39 w' ((m.take k).map Ac.cs) ∧ Fr (fun i => i = w.heap.size + 1) w2 w') (fun ix w' => n - (intOf ix).toNat)
  case atStart => exact ⟨0, Nat.zero_le _, rfl, by simpa using F2, Fr.refl _ _⟩
  case round =>
    obtain ⟨k, hk, rfl, hF, hfr⟩ := hrel
    have zr := hfr.size
    have hBr := hfr.blk B2 (by omega)
    by_cases hlt : k < n
    · have hAr : AcA lo hi wr a n m := AcA.fr (unhide HA2) hfr (fun i hi' => .inr (by omega))
      obtain ⟨b, off, s, x, rfl, hlb, hbh, hx, hS, c0, c1, c2, c3, c4⟩ := AcA.get hAr hlt
      have hkn : (k : Int) < (n : Int) := by omega
      have hk2 : (k : Int) < 9223372036854775807 := by omega
      have HX := hide hx
      have qa : Q0 wr (wr.alloc (.cells #[slV (s 0), slV (s 1), slV (s 2), slV (s 3), slV (s 4)] 42)) := (Fr.refl _ wr).alloc _
      have hE : EG (w.heap.size + 1 + 1) wr.heap.size (.slice (some ⟨w.heap.size + 1, 0, none⟩) n n) s (wr.alloc (.cells #[slV (s 0), slV (s 1), slV (s 2), slV (s 3), slV (s 4)] 42)) := ⟨qa.blk hBr (fun h => h), blk_new _ _⟩
      have HCl := hide (fun (w' : World) (hq : Q0 (wr.alloc (.cells #[slV (s 0), slV (s 1), slV (s 2), slV (s 3), slV (s 4)] 42)) w') => cloneI_calls (PrA.fr (PrA.fr hS.cs qa q0_no) hq q0_no) (s 3).2.2 (by rw [← hS.cs.len]; exact unhide HC x (List.mem_of_getElem? hx)))
      have HLn := hide hS.cs.len
      have HSm := hide hS.cs.small
      have HIn := hide (PrA.bounds hS.cs)
      have HF := hide (hF.fr niceCd qa (fun _ h => h.elim))
      have HE := hide hE
      have e0 := (EG.all hE).1
      have e1 := (EG.all hE).2.1
      have za : (wr.alloc (.cells #[slV (s 0), slV (s 1), slV (s 2), slV (s 3), slV (s 4)] 42)).heap.size = wr.heap.size + 1 := by simp
      clear hx hS hAr hF hE HA2 F2 hBr
      have O1 := (unhide HF).old (p := k) (by omega)
      go_wp2_with fail
      go_region_held3 (fun w' => w'.cell? ⟨w.heap.size + 1 + 1, 0, none⟩ = some (.slice (some ⟨w.heap.size + 1, 0, none⟩) n n) ∧ w'.cell? ⟨wr.heap.size, 3, none⟩ = some (.slice (s 3).1 (s 3).2.1 (s 3).2.2) ∧ EG (w.heap.size + 1 + 1) wr.heap.size (.slice (some ⟨w.heap.size + 1, 0, none⟩) n n) s w')
        (first | exact EG.all (by assumption) | exact EG.all ((unhide HE).fr (Fr.drew (Fr.refl (fun _ => False) _)) (fun h => h) (fun h => h)) | exact EG.all (EG.fr (by assumption) (Fr.set1 _ (w.heap.size + 1) _ _) (by omega) (by omega)))
        ((go_at_call 25; refine (unhide HCl _ (Fr.drew (Fr.refl (fun _ => False) _))).mono ?_; rintro e w5 ⟨v5, rfl, hO5, hL5, hF5⟩; obtain ⟨a5, c5, rfl⟩ := slice_of hO5; have HO5 := hide hO5; have HL5 := hide hL5; have HF5 := hide hF5; have hE5 := (EG.fr (unhide HE) (Fr.drew (Fr.refl (fun _ => False) _)) (fun h => h) (fun h => h)).fr hF5 (fun h => h) (fun h => h); have HF6 := hide (((unhide HF).fr niceCd (Fr.drew (Fr.refl (fun _ => False) _)) (fun _ h => h.elim)).fr niceCd hF5 (fun _ h => h.elim)); obtain ⟨u6, o6, o7⟩ := (unhide HF6).old (p := k) (by omega); clear hO5 hL5 hF5))
      go_wp2
      go_roundw
      case rel =>
        have F6 := unhide HF6
        have hlen : ((m.take k).map Ac.cs).length = k := by rw [List.length_map, List.length_take]; omega
        have fs := Fr.set1 w5 (w.heap.size + 1) k (.slice a5 (s 3).2.1 c5)
        have f5 : Q0 (wr.alloc (.cells #[slV (s 0), slV (s 1), slV (s 2), slV (s 3), slV (s 4)] 42)) w5 := ⟨(unhide HF5).os, (unhide HF5).tape, (unhide HF5).output, (unhide HF5).size, (unhide HF5).block⟩
        have z5 := f5.size
        have zs := fs.size
        obtain ⟨a', c', e, hP⟩ := owns_arr (PV := PrV) (lo := wr.heap.size + 1) (l := x.cs) (unhide HO5) (unhide HLn) (fun i y hy => ⟨[.int .i64 y.1, .int .i64 y.2], pairV_at x.cs i y hy, rfl, unhide HIn y (List.mem_of_getElem? hy)⟩) (fun g hg => by have := unhide HL5 g hg; simpa using this) (unhide HSm)
        simp only [Value.slice.injEq, true_and] at e
        obtain ⟨rfl, rfl⟩ := e
        have G := F6.set niceCd (p := k) (by rw [hlen]; omega) (.slice a5 (s 3).2.1 c5)
        have G2 := G.snoc (vs := [.slice a5 (s 3).2.1 c5]) (x := x.cs) rfl (fun i v hi => by
          match i, hi with
          | 0, hi => simp at hi; subst hi; rw [hlen, Nat.mul_one, Nat.add_zero]; exact F6.cell (by omega) _) ⟨_, _, _, rfl, PrA.wide (PrA.fr hP fs (fun i e => by omega)) (by omega) zs⟩
        refine ⟨k + 1, by omega, by go_num, ?_, ?_⟩
        · rw [List.take_succ_eq_append_getElem (by omega), List.map_append]
          have : m[k]'(by omega) = x := by have := unhide HX; rw [List.getElem?_eq_getElem (by omega)] at this; simpa using this
          rw [this]; exact G2
        · exact ((hfr.trans qa (fun _ _ h => h) (fun _ _ h => h.elim)).trans f5 (fun _ _ h => h) (fun _ _ h => h.elim)).trans fs (fun _ _ h => h) (fun _ _ h => h)
      case measure => simp [intOf]; omega
    · have hkn : k = n := by omega
      subst hkn
      have HR := hide (hF.arr niceCd (by rw [List.length_map, List.length_take]; omega) hs (lo := w.heap.size) (by omega))
      clear hF
      go_wp2
      go_ret
      have e := unhide HR
      rw [List.take_of_length_le (by omega)] at e
      exact ⟨_, _, rfl, by omega, hBr, e, q2.trans hfr (fun _ _ h => h) (fun i hi e => by omega)⟩

end Go.Proofs.Ythdpgachdegcgaa
