/-
  The document's reader of a module's parts: a list that is appended to as a list in memory; readTypes.
-/
import Derived.Test.YthdpgachdegcgaaMoRefRd
namespace Go.Proofs.Ythdpgachdegcgaa
open Go.RowKit
set_option linter.unusedVariables false
set_option maxRecDepth 100000

theorem owns_arr {α : Type} {PV : World → List Value → α → Prop} {sz lo : Nat} {w : World} {e : TypeId} {v : Value} {n : Nat} {cells : List Value} {l : List α} (h : w.ownsRow 0 e sz v n cells) (hl : l.length = n)
    (ch : ∀ (i : Nat) x, l[i]? = some x → ∃ vs : List Value, (∀ (j : Nat) u, vs[j]? = some u → cells[i * sz + j]? = some u) ∧ PV w vs x) (hlo : ∀ k, v.ownBlock = some k → lo ≤ k) (hs : n ≤ 9223372036854775807) :
    ∃ a c, v = .slice a n c ∧ Arr PV sz lo w.heap.size w a n l := by
  rcases h.2 with ⟨rfl, h0⟩ | ⟨g, cap, cur, rfl, hb, hg, rest⟩
  · subst h0
    obtain rfl : l = [] := List.length_eq_zero_iff.1 hl
    exact ⟨none, 0, rfl, Arr.nil _ _ _ _ _ _⟩
  · refine ⟨some ⟨g, 0, none⟩, cap, rfl, hl, hs, .inr ⟨g, 0, rfl, hlo g rfl, lt_of_blk hg, fun i x hx => ?_⟩⟩
    obtain ⟨vs, h1, h2⟩ := ch i x hx
    refine ⟨vs, fun j u hu => ?_, h2⟩
    have := h.cells (g := g) rfl (i * sz + j) u (h1 j u hu)
    have ea : (⟨g, 0, none⟩ : Addr).add (i * sz + j) = ⟨g, 0 + i * sz + j, none⟩ := by unfold Addr.add; split <;> simp_all
    rw [ea] at this
    exact this

theorem owns_cap {w : World} {e : TypeId} {size : Nat} {a : Option Addr} {n m c : Nat} {xs : List Value} (h : w.ownsRow 0 e size (.slice a m c) n xs) : n ≤ c ∧ c ≤ 9223372036854775807 := by
  rcases h.2 with ⟨e, h0⟩ | ⟨g, cap, cur, e, _, _, h1, h2, _⟩
  · simp only [Value.slice.injEq] at e; omega
  · simp only [Value.slice.injEq] at e; unfold maxLen at h2; omega

theorem one_cellT (wr : World) (x : Int) (t : TypeId) : ∀ u ∈ [Value.int .i64 x], u.oneCell' = true := one_c2 x .i64

set_option maxHeartbeats 2000000 in
theorem xtypes_calls {w : World} {b : Nat} {s : XS} (h : XM w b s) (most : Nat) (hm : most ≤ 1000) :
    Calls Try.prog 18 #[.pointer (some ⟨b, 0, none⟩), .int .i64 most] w fun e w' => ∃ a n c, e = .returned (.slice a n c) ∧ (n ≤ c ∧ c ≤ 9223372036854775807) ∧ TyA w.heap.size w'.heap.size w' a n (xTypes most s).1 ∧ XM w' b (xTypes most s).2 ∧ Fr (fun k => k = b) w w' := by
  have hle := xUp_le most s
  have hup := xcount_calls h most hm
  have hbl := h.lt
  unfold xTypes
  generalize xUp most s = p at *
  obtain ⟨N, s1⟩ := p
  dsimp only at *
  have HU := hide hup
  clear hup h
  go_enter Try.func18, Try.ntmps18
  go_wp2_with (go_at_call 17; refine (unhide HU).mono ?_; rintro e w2 ⟨rfl, hM2, hF2⟩; have HM2 := hide hM2; clear hM2)
  go_loopw [5, 6] (fun lv nv w' => ∃ (k : Nat) (pre : List Int) (cur : XS), pre.length + k = N ∧ nv = .int .i64 k ∧ w'.ownsRow 0 82 1 lv pre.length (pre.map (Value.int .i64)) ∧ (∀ g, lv.ownBlock = some g → w.heap.size ≤ g) ∧ (∀ t ∈ pre, 0 ≤ t ∧ t ≤ 255) ∧
      XM w' b cur ∧ pre ++ (xR xBy k cur).1 = (xR xBy N s1).1 ∧ (xR xBy k cur).2 = (xR xBy N s1).2 ∧ Fr (fun k => k = b) w w') (fun lv nv w' => (intOf nv).toNat)
  case atStart => exact ⟨N, [], s1, by simp, rfl, World.ownsRow_nil _ _ _ _, fun g hg => by simp [Value.ownBlock] at hg, fun t ht => by simp at ht, unhide HM2, rfl, rfl, hF2⟩
  case round =>
    clear hF2
    obtain ⟨k, pre, cur, hk, rfl, hown, hlo, hin, hM, e1, e2, hF⟩ := hrel
    by_cases hpos : k = 0
    · subst hpos
      have E1 := hide e1
      have E2 := hide e2
      have HO := hide hown
      have HM := hide hM
      have HL := hide hlo
      have HI := hide hin
      clear e1 e2 hown hM hlo hin
      go_wp2
      go_ret
      obtain ⟨a, c, rfl, hA⟩ := owns_arr (PV := TV) (lo := w.heap.size) (l := pre) (unhide HO) rfl (fun i x hx => ⟨[.int .i64 x], fun j u hu => by
        match j, hu with
        | 0, hu => simp at hu; subst hu; rw [Nat.mul_one, Nat.add_zero, List.getElem?_map, hx]; rfl, rfl, by have := unhide HI x (List.mem_of_getElem? hx); omega⟩) (unhide HL) (by omega)
      refine ⟨a, pre.length, c, rfl, owns_cap (unhide HO), ?_, ?_, hF⟩
      · rw [← unhide E1]; simpa [xR] using hA
      · rw [← unhide E2]; exact unhide HM
    · obtain ⟨j, rfl⟩ : ∃ j, k = j + 1 := ⟨k - 1, by omega⟩
      have hgt : ((j + 1 : Nat) : Int) > 0 := by omega
      have hin2 := xBy_in cur
      have HB := hide (xby_calls hM)
      simp only [xR] at e1 e2
      have E1 := hide e1
      have E2 := hide e2
      have HO := hide hown
      have HL := hide hlo
      have HI := hide hin
      have hlv : ∃ a c, u5 = .slice a pre.length c := by
        rcases hown.2 with ⟨rfl, h0⟩ | ⟨g, cap, cur, rfl, _⟩
        · exact ⟨none, 0, by rw [h0]⟩
        · exact ⟨_, _, rfl⟩
      clear e1 e2 hown hM hlo hin hpos
      obtain ⟨av, cv, rfl⟩ := hlv
      generalize xBy cur = q at *
      obtain ⟨t, s2⟩ := q
      dsimp only at *
      go_wp2_with fail
      refine (unhide HB).mono ?_
      rintro e w3 ⟨rfl, hM3, hF3⟩
      have HO3 := hide (owns_fr (unhide HO) hF3 (fun g hg e => by have := unhide HL g hg; omega))
      have HM3 := hide hM3
      clear hM3
      go_wp2_with (at_builtin; refine wpList_append_info _ rfl _ _ 38 rfl 82 (.int .i64 0) 1 8 Try.underlying38 infoTy rfl (by decide) _ _ _ rfl ((unhide HO3).alloc _) ⟨w3.heap.size, 0, none⟩ 1 1 [.int .i64 t] rfl rfl (one_c1 _ _ _) (one_c2 _ _) ?c3 ?c4 ?_)
      case c3 => unfold maxLen; omega
      case c4 => omega
      intro v' w' ho hgr ha
      go_wp2
      go_roundw
      case rel =>
        have hf4 : Fr (fun k => k = b) w w' := (((hF.trans hF3 (fun _ _ h => h) (fun _ _ h => h)).alloc _).grown hgr (fun g hg => .inl (unhide HL g hg)))
        refine ⟨j, pre ++ [t], s2, by simp; omega, by go_num, by simpa using ho, ?_, ?_, ?_, by rw [List.append_assoc]; exact unhide E1, unhide E2, hf4⟩
        · intro g hg
          rcases ha with e | e
          · rw [e] at hg; exact unhide HL g hg
          · rw [e] at hg; cases hg
            have := hF.size
            have := hF3.size
            simp; omega
        · intro y hy
          simp only [List.mem_append, List.mem_singleton] at hy
          rcases hy with hy | rfl
          · exact unhide HI y hy
          · exact hin2
        · refine (unhide HM3).fr (S := fun k => some k = (Value.slice av pre.length cv).ownBlock) ⟨hgr.os, hgr.tape, hgr.output, Nat.le_trans (by simp) hgr.size, fun k hk hn => ?_⟩ ?_
          · rw [hgr.block k (by simp; omega) hn]; exact Below.heap_alloc _ _ _ hk
          · intro e; have := unhide HL b e.symm; omega
      case measure => simp [intOf]

end Go.Proofs.Ythdpgachdegcgaa
