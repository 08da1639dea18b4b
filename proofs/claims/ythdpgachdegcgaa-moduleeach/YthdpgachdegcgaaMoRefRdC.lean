/-
  The document's reader of a module's parts: readCode.
-/
import Derived.Test.YthdpgachdegcgaaMoRefRdT
namespace Go.Proofs.Ythdpgachdegcgaa
open Go.RowKit
set_option linter.unusedVariables false
set_option maxRecDepth 100000

theorem two_c1 (wr : World) (x y : Value) (t : TypeId) : ∀ (j : Nat) (u : Value), [x, y][j]? = some u → (wr.alloc (Obj.cells #[x, y] t)).cell? ((⟨wr.heap.size, 0, none⟩ : Addr).add j) = some u := by
  intro j u h
  have ea : (⟨wr.heap.size, 0, none⟩ : Addr).add j = ⟨wr.heap.size, j, none⟩ := by unfold Addr.add; split <;> simp_all
  rw [ea, cell_at (blk_new wr _)]
  simpa using h
theorem two_c2 (x y : Int) : ∀ (u : Value), u ∈ [Value.int .i64 x, Value.int .i64 y] → u.oneCell' = true := by
  intro u h
  simp only [List.mem_cons, List.not_mem_nil, or_false] at h
  rcases h with rfl | rfl <;> rfl

theorem readX_ba (l : List UInt8) (hl : l.length ≤ 65536) (w : World) :
    Calls Try.prog 38 #[.string (ba l)] w fun e w' => e = .returned (.tuple #[insV (readN l).1 (readN l).2.1, .int .i64 (readN l).2.2.1, .int .i64 (readN l).2.2.2]) ∧ Fr (fun _ => False) w w' := by
  have := xread_calls (ba l) w (by rw [ba_size]; omega)
  rwa [ba_list] at this

theorem xW_stop {α : Type} (f : XS → α × XS) (k : Nat) (s : XS) (h : k = 0 ∨ s.2 ≠ 0) : xW f k s = ([], s) := by
  cases k with
  | zero => rfl
  | succ k => rcases h with h | h; omega; unfold xW; rw [if_pos h]

theorem xW_step {α : Type} (f : XS → α × XS) (k : Nat) (s : XS) (h : s.2 = 0) : xW f (k + 1) s = ((f s).1 :: (xW f k (f s).2).1, (xW f k (f s).2).2) := by
  show xW f (k + 1) s = _
  conv => lhs; unfold xW
  rw [if_neg (by simp [h])]

def pairV (l : List (Int × Int)) : List Value := l.flatMap (fun p => [.int .i64 p.1, .int .i64 p.2])
theorem pairV_len (l : List (Int × Int)) : (pairV l).length = l.length * 2 := by
  induction l with
  | nil => rfl
  | cons a r ih => simp [pairV, List.flatMap_cons] at ih ⊢; omega
theorem pairV_at (l : List (Int × Int)) : ∀ (i : Nat) (x : Int × Int), l[i]? = some x → ∀ (j : Nat) (u : Value), [Value.int .i64 x.1, .int .i64 x.2][j]? = some u → (pairV l)[i * 2 + j]? = some u := by
  induction l with
  | nil => intro i x h; simp at h
  | cons a r ih =>
    intro i x h j u hu
    cases i with
    | zero =>
      simp at h; subst h
      match j, hu with
      | 0, hu => simpa [pairV, List.flatMap_cons] using hu
      | 1, hu => simpa [pairV, List.flatMap_cons] using hu
    | succ i =>
      have := ih i x (by simpa using h) j u hu
      rw [show (i + 1) * 2 + j = (i * 2 + j) + 2 by omega]
      simpa [pairV, List.flatMap_cons] using this

set_option maxHeartbeats 2000000 in
theorem xcode_calls {w : World} {b : Nat} {s : XS} (h : XM w b s) :
    Calls Try.prog 19 #[.pointer (some ⟨b, 0, none⟩)] w fun e w' => ∃ a n c, e = .returned (.slice a n c) ∧ PrA w.heap.size w'.heap.size w' a n (xCode s).1 ∧ XM w' b (xCode s).2 ∧ Fr (fun k => k = b) w w' := by
  have hle := xUp_le 200 s
  have hup := xcount_calls h 200 (by omega)
  have hbl := h.lt
  unfold xCode
  generalize xUp 200 s = p at *
  obtain ⟨N, s1⟩ := p
  dsimp only at *
  have HU := hide hup
  clear hup h
  go_enter Try.func19, Try.ntmps19
  go_wp2_with (go_at_call 17; refine (unhide HU).mono ?_; rintro e w2 ⟨rfl, hM2, hF2⟩; have HM2 := hide hM2; clear hM2)
  go_loopw [3, 4] (fun lv nv w' => ∃ (k : Nat) (pre : List (Int × Int)) (cur : XS), pre.length + k ≤ N ∧ nv = .int .i64 k ∧ w'.ownsRow 0 37 2 lv pre.length (pairV pre) ∧ (∀ g, lv.ownBlock = some g → w.heap.size ≤ g) ∧ (∀ p ∈ pre, (-9223372036854775808 ≤ p.1 ∧ p.1 ≤ 9223372036854775807) ∧ (-9223372036854775808 ≤ p.2 ∧ p.2 ≤ 9223372036854775807)) ∧
      XM w' b cur ∧ pre ++ (xW xIns k cur).1 = (xW xIns N s1).1 ∧ (xW xIns k cur).2 = (xW xIns N s1).2 ∧ Fr (fun k => k = b) w w') (fun lv nv w' => (intOf nv).toNat)
  case atStart => exact ⟨N, [], s1, by simp, rfl, World.ownsRow_nil _ _ _ _, fun g hg => by simp [Value.ownBlock] at hg, fun t ht => by simp at ht, unhide HM2, rfl, rfl, hF2⟩
  case round =>
    clear hF2
    obtain ⟨k, pre, cur, hk, rfl, hown, hlo, hin, hM, e1, e2, hF⟩ := hrel
    have HO := hide hown
    have HM := hide hM
    have HL := hide hlo
    have HI := hide hin
    have r1 := hM.rd.c1
    have r0 := hM.rd.c0
    have hlv : ∃ a c, u3 = .slice a pre.length c := by
      rcases hown.2 with ⟨rfl, h0⟩ | ⟨g, cap, cur, rfl, _⟩
      · exact ⟨none, 0, by rw [h0]⟩
      · exact ⟨_, _, rfl⟩
    by_cases hend : k = 0 ∨ cur.2 ≠ 0
    · rw [xW_stop _ _ _ hend] at e1 e2
      have E1 := hide e1
      have E2 := hide e2
      have fin : ∃ a c, u3 = .slice a pre.length c ∧ PrA w.heap.size wr.heap.size wr a pre.length pre := owns_arr (PV := PrV) (lo := w.heap.size) (l := pre) hown rfl (fun i x hx => ⟨[.int .i64 x.1, .int .i64 x.2], pairV_at pre i x hx, rfl, hin x (List.mem_of_getElem? hx)⟩) hlo (by omega)
      have FIN := hide fin
      clear e1 e2 hown hM hlo hin hlv fin
      rcases hend with rfl | hne
      · go_wp2
        go_ret
        obtain ⟨a, c, rfl, hA⟩ := unhide FIN
        refine ⟨a, pre.length, ⟨c, rfl⟩, ?_, ?_, hF⟩
        · rw [← unhide E1]; simpa using hA
        · rw [← unhide E2]; exact unhide HM
      · have hb : (cur.2 == 0) = false := beq_eq_false_iff_ne.2 hne
        by_cases hk0 : (k : Int) > 0
        · go_wp2
          go_ret
          obtain ⟨a, c, rfl, hA⟩ := unhide FIN
          refine ⟨a, pre.length, ⟨c, rfl⟩, ?_, ?_, hF⟩
          · rw [← unhide E1]; simpa using hA
          · rw [← unhide E2]; exact unhide HM
        · go_wp2
          go_ret
          obtain ⟨a, c, rfl, hA⟩ := unhide FIN
          refine ⟨a, pre.length, ⟨c, rfl⟩, ?_, ?_, hF⟩
          · rw [← unhide E1]; simpa using hA
          · rw [← unhide E2]; exact unhide HM
    · have hE0 : cur.2 = 0 := by
        rcases Classical.em (cur.2 = 0) with h | h
        · exact h
        · exact absurd (.inr h) hend
      obtain ⟨j, rfl⟩ : ∃ j, k = j + 1 := ⟨k - 1, by omega⟩
      have hgt : ((j + 1 : Nat) : Int) > 0 := by omega
      obtain ⟨l, E⟩ := cur
      dsimp only at hE0 r0 r1
      subst hE0
      rw [xW_step _ _ _ rfl] at e1 e2
      have hl6 := hM.len
      dsimp only at hl6
      have HR := hide (readX_ba l hl6)
      have hback := readN_back l
      have hsz : (readN l).2.2.1 ≤ l.length := by rcases hback with ⟨_, _, _, e⟩ | ⟨_, _, e, _⟩ <;> omega
      have hbd : (-9223372036854775808 ≤ (readN l).1 ∧ (readN l).1 ≤ 9223372036854775807) ∧ (-9223372036854775808 ≤ (readN l).2.1 ∧ (readN l).2.1 ≤ 9223372036854775807) := by
        rcases hback with ⟨_, h1, h2, _⟩ | ⟨_, h, _⟩
        · rw [h1, h2]; omega
        · have h1 := right_fits h
          have h2 := (isOpB_iff _).1 (right_isOp h)
          omega
      have E1 := hide e1
      have E2 := hide e2
      simp only [xIns] at E1 E2
      have HX := hide (ba_drop l (readN l).2.2.1)
      have hbs := ba_size l
      obtain ⟨av, cv, rfl⟩ := hlv
      clear e1 e2 hown hM hlo hin hend hback
      generalize readN l = q at *
      obtain ⟨op, a, sz, er⟩ := q
      dsimp only at *
      have hs1 : (0 : Int) ≤ (sz : Int) := by omega
      have hs2 : (sz : Int) ≤ ((ba l).size : Int) := by omega
      have hbl3 := (unhide HM).lt
      go_wp2_with fail
      refine (unhide HR _).mono ?_
      rintro e w3 ⟨rfl, hF3⟩
      have HM3 := hide ((unhide HM).fr hF3 (fun h => h))
      have s0 := (unhide HM3).rd.c0
      have s1' := (unhide HM3).rd.c1
      have g0 := free_at (unhide HM3).rd 0
      have g1 := free_at (unhide HM3).rd 1
      have hb3 := (unhide HM3).lt
      have HX2 := hide (show (ba l).extract sz l.length = ba (l.drop sz) by rw [← hbs]; exact unhide HX)
      have fs : Fr (fun k => k = b) w3 ((w3.setCell ⟨b, 1, none⟩ (.int .i64 er)).setCell ⟨b, 0, none⟩ (.string ((ba l).extract sz l.length))) := ((Fr.refl (fun k => k = b) w3).setAt _ _ _ (.inr rfl)).setAt _ _ _ (.inr rfl)
      have HM4 : Hid (XM ((w3.setCell ⟨b, 1, none⟩ (.int .i64 er)).setCell ⟨b, 0, none⟩ (.string ((ba l).extract sz l.length))) b (l.drop sz, er)) := hide ⟨by
        have := (unhide HM3).rd.set (l' := l.drop sz) (E' := er)
        rw [unhide HX2]; exact this.1, by show (l.drop sz).length ≤ 65536; rw [List.length_drop]; omega⟩
      have HO4 := hide ((owns_fr (owns_fr (unhide HO) hF3 (fun g hg e => e)) fs (fun g hg e => by have := unhide HL g hg; omega)).alloc (.cells #[.int .i64 op, .int .i64 a] 37))
      have hzs : ((w3.setCell ⟨b, 1, none⟩ (.int .i64 er)).setCell ⟨b, 0, none⟩ (.string ((ba l).extract sz l.length))).heap.size = w3.heap.size := by simp [World.setCell]
      go_wp2_with (at_builtin; refine wpList_append_info _ rfl _ _ 39 rfl 37 (insV 0 0) 2 16 Try.underlying39 infoIn rfl (by decide) _ _ _ rfl ((unhide HO4).alloc _) ⟨w3.heap.size + 1, 0, none⟩ 1 1 [.int .i64 op, .int .i64 a] rfl rfl ?c1 (two_c2 _ _) ?c3 ?c4 ?_)
      case c1 =>
        have := two_c1 (((w3.setCell ⟨b, 1, none⟩ (.int .i64 er)).setCell ⟨b, 0, none⟩ (.string ((ba l).extract sz l.length))).alloc (.cells #[.int .i64 op, .int .i64 a] 37)) (.int .i64 op) (.int .i64 a) 37
        simpa [hzs] using this
      case c3 => unfold maxLen; omega
      case c4 => omega
      intro v' w' ho hgr ha
      go_wp2
      go_roundw
      case rel =>
        have hfa : Fr (fun k => k = b) w ((((w3.setCell ⟨b, 1, none⟩ (.int .i64 er)).setCell ⟨b, 0, none⟩ (.string ((ba l).extract sz l.length))).alloc (.cells #[.int .i64 op, .int .i64 a] 37)).alloc (.cells #[.int .i64 op, .int .i64 a] 37)) :=
          ((((hF.trans hF3 (fun _ _ h => h) (fun _ _ h => h.elim)).trans fs (fun _ _ h => h) (fun _ _ h => h)).alloc _).alloc _)
        have hf4 : Fr (fun k => k = b) w w' := hfa.grown hgr (fun g hg => .inl (unhide HL g hg))
        refine ⟨j, pre ++ [(op, a)], (l.drop sz, er), by simp; omega, by go_num, ?_, ?_, ?_, ?_, by simpa using unhide E1, unhide E2, hf4⟩
        · have e : pairV (pre ++ [(op, a)]) = pairV pre ++ [.int .i64 op, .int .i64 a] := by simp [pairV, List.flatMap_append]
          rw [e]; simpa using ho
        · intro g hg
          rcases ha with e | e
          · rw [e] at hg; exact unhide HL g hg
          · rw [e] at hg; cases hg
            have q1 := hF.size
            have q2 := hF3.size
            simp only [World.alloc, World.setCell] at *
            first | omega | (simp at *; omega)
        · intro y hy
          simp only [List.mem_append, List.mem_singleton] at hy
          rcases hy with hy | rfl
          · exact unhide HI y hy
          · exact hbd
        · have q2 : Fr (fun _ => False) ((w3.setCell ⟨b, 1, none⟩ (.int .i64 er)).setCell ⟨b, 0, none⟩ (.string ((ba l).extract sz l.length))) ((((w3.setCell ⟨b, 1, none⟩ (.int .i64 er)).setCell ⟨b, 0, none⟩ (.string ((ba l).extract sz l.length))).alloc (.cells #[.int .i64 op, .int .i64 a] 37)).alloc (.cells #[.int .i64 op, .int .i64 a] 37)) := ((Fr.refl _ _).alloc _).alloc _
          have hM5 := (unhide HM4).fr q2 (fun h => h)
          refine hM5.fr (S := fun k => some k = (Value.slice av pre.length cv).ownBlock) ⟨hgr.os, hgr.tape, hgr.output, hgr.size, fun k hk hn => hgr.block k hk hn⟩ ?_
          intro e; have := unhide HL b e.symm; omega
      case measure => simp [intOf]

end Go.Proofs.Ythdpgachdegcgaa
