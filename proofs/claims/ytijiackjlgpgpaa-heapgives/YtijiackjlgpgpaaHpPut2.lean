/-
  A thing is laid into a heap: Put walked.
-/
import Derived.Test.YtijiackjlgpgpaaHpPut
import Derived.Deep.DeepCutAuto
namespace Go.Proofs.Ytijiackjlgpgpaa
open Go.RowKit
set_option linter.unusedVariables false
set_option maxRecDepth 8192

theorem pre_map {w : World} {b g bm cap n : Nat} {M L : List (En Int)} {f : Int → Option Nat} (h : HL w b g bm cap n M L f) (hO : HO L) : ∃ vs, Pre w b bm n M L f (.slice (some ⟨g, 0, none⟩) L.length cap) vs := by
  obtain ⟨vs, h1, h2, h3⟩ := says_owns (show Rw w g cap L from h.is.row) h.is.len h.is.capm
  exact ⟨vs, h.is.blk, h1, h2, h3, h.is.map, h.pl, hO, h.pm, h.is.lenn, h.is.wf⟩

theorem pre_new {w : World} {b : Nat} (h : w.heap[b]? = some (.cells #[.slice none 0 0, .map none, .int .i64 0] 62 (0, 0))) :
    Pre ((w.setCell ⟨b, 1, none⟩ (.map (some w.heap.size))).alloc (.map #[] 0)) b w.heap.size 0 [] [] (fun _ => none) (.slice none 0 0) [] := by
  have hq := blk_alloc (u := .map #[] 0) (blk_setCell (i := 1) (u := .map (some w.heap.size)) h)
  have hm := PM.made (w.setCell ⟨b, 1, none⟩ (.map (some w.heap.size)))
  have hs : (w.setCell ⟨b, 1, none⟩ (.map (some w.heap.size))).heap.size = w.heap.size := by simp
  rw [hs] at hm
  exact ⟨hq, ⟨rfl, .inl ⟨rfl, rfl⟩⟩, fun i e he => (by cases he), rfl, hm, fun t i => ⟨fun h => (by cases h), fun ⟨e, he, _⟩ => (by cases he)⟩, fun i hi e d he => (by cases he), List.Perm.nil, Nat.le_refl _, fun i e he => (by cases he)⟩

theorem mapEqSome (bm : Nat) (w : World) : (binOp .eql 60 (.map (some bm)) (.map none)).run Try.prog w = .ok (.bool false) w := by kernel_rfl

theorem mapEqNil (w : World) : (binOp .eql 60 (.map none) (.map none)).run Try.prog w = .ok (.bool true) w := by kernel_rfl

/-- what Put has to do once the places are there -/
def PutPost (w0 : World) (b g bm n : Nat) (M : List (En Int)) (t x : Int) (e : Ending) (w' : World) : Prop :=
  e = .returned (.int .i64 ((n : Int) + 1)) ∧ (∃ g' bm', IsHp w' b g' bm' (n + 1) (M ++ [⟨t, (n : Int) + 1, x⟩]) ∧ (g' = g ∨ w0.heap.size ≤ g') ∧ (bm' = bm ∨ w0.heap.size ≤ bm')) ∧ Fr (fun k => k = b ∨ k = g ∨ k = bm) w0 w'

theorem en_one (t k x : Int) : ∀ (u : Value), u ∈ [Value.int .i64 t, .int .i64 k, .int .i64 x] → u.oneCell' = true := by
  intro u h
  simp only [List.mem_cons, List.not_mem_nil, or_false] at h
  rcases h with rfl | rfl | rfl <;> rfl

theorem en_cells (w : World) (t k x : Int) (T : TypeId) : ∀ (j : Nat) (u : Value), [Value.int .i64 t, .int .i64 k, .int .i64 x][j]? = some u → (w.alloc (.cells #[.int .i64 t, .int .i64 k, .int .i64 x] T)).drew.cell? ((⟨w.heap.size, 0, none⟩ : Addr).add j) = some u := by
  intro j u h
  have hb := blk_new w (.cells #[.int .i64 t, .int .i64 k, .int .i64 x] T)
  rw [Addr.add_lit]
  have h2 := cell_at (w := (w.alloc (.cells #[.int .i64 t, .int .i64 k, .int .i64 x] T)).drew) hb (0 + j)
  rw [h2]
  simpa using h

theorem slice_own {w : World} {e : TypeId} {v : Value} {n : Nat} {vs : List Value} (h : w.ownsRow 0 e 3 v n vs) : ∃ a c, v = .slice a n c := by
  rcases h.2 with ⟨rfl, rfl⟩ | ⟨g, cap, cur, rfl, _⟩
  · exact ⟨none, 0, rfl⟩
  · exact ⟨_, _, rfl⟩

theorem own_drew {w : World} {e : TypeId} {v : Value} {n : Nat} {vs : List Value} (h : w.ownsRow 0 e 3 v n vs) : w.drew.ownsRow 0 e 3 v n vs := h

theorem own_ne {w : World} {b bm n : Nat} {M L : List (En Int)} {f : Int → Option Nat} {v : Value} {vs : List Value} (h : Pre w b bm n M L f v vs) : ∀ k, v.ownBlock = some k → ¬ k = b := by
  intro k hk e
  rcases h.own.2 with ⟨rfl, _⟩ | ⟨g, cap, cur, rfl, hb, hg, _⟩
  · cases hk
  · cases hk
    have := h.blk
    rw [← e, hg] at this
    simp at this

theorem own_nm {w : World} {b bm n : Nat} {M L : List (En Int)} {f : Int → Option Nat} {v : Value} {vs : List Value} (h : Pre w b bm n M L f v vs) : ∀ k, v.ownBlock = some k → ¬ k = bm := by
  intro k hk e
  obtain ⟨es, c, h3⟩ := h.map.blk
  rcases h.own.2 with ⟨rfl, _⟩ | ⟨g, cap, cur, rfl, hb, hg, _⟩
  · cases hk
  · cases hk
    rw [← e, hg] at h3
    simp at h3

theorem pre_ne {w : World} {b bm n : Nat} {M L : List (En Int)} {f : Int → Option Nat} {v : Value} {vs : List Value} (h : Pre w b bm n M L f v vs) : ¬ bm = b := by
  intro e
  obtain ⟨es, c, h3⟩ := h.map.blk
  have := h.blk
  rw [← e, h3] at this
  simp at this

theorem mapEq (mo : Option Nat) (w : World) : (binOp .eql 60 (.map mo) (.map none)).run Try.prog w = .ok (.bool mo.isNone) w := by
  cases mo
  · exact mapEqNil w
  · exact mapEqSome _ w

/-- where Put stands once the places are there -/
def PutMid (w0 : World) (b g bm n : Nat) (M : List (En Int)) (w : World) : Prop :=
  ∃ bm' L f v vs, Pre w b bm' n M L f v vs ∧ (∀ k, v.ownBlock = some k → k = g) ∧ (bm' = bm ∨ w0.heap.size ≤ bm') ∧ Fr (fun k => k = b ∨ k = g ∨ k = bm) w0 w

/-- where Put stands once the thing lies at the list's end -/
def PutEnd (w0 : World) (b g bm n : Nat) (M : List (En Int)) (e : En Int) (l : Nat) (w : World) : Prop :=
  ∃ g' bm' cap L f, l = L.length ∧ w.heap[b]? = some (.cells #[.slice (some ⟨g', 0, none⟩) (L.length + 1) cap, .map (some bm'), .int .i64 ((n : Int) + 1)] 62 (0, 0)) ∧
    Rw w g' cap (L ++ [e]) ∧ L.length + 1 ≤ cap ∧ cap ≤ maxLen ∧ PM w bm' n f ∧ PL L f ∧ HO L ∧ L.Perm M ∧ L.length ≤ n ∧ (∀ (i : Nat) (e : En Int), L[i]? = some e → 1 ≤ e.k ∧ e.k ≤ (n : Int)) ∧ bm' ≠ b ∧ bm' ≠ g' ∧
    (g' = g ∨ w0.heap.size ≤ g') ∧ (bm' = bm ∨ w0.heap.size ≤ bm') ∧ Fr (fun k => k = b ∨ k = g ∨ k = bm) w0 w

theorem put_end {w wc wb w2 : World} {b g bm bm' n : Nat} {M L : List (En Int)} {f : Int → Option Nat} {v : Value} {vs : List Value} {t x : Int} {a2 : Option Addr} {cp2 : Nat}
    (hP : Pre wc b bm' n M L f v vs) (hvb : ∀ k, v.ownBlock = some k → k = g) (hbm2 : bm' = bm ∨ w.heap.size ≤ bm') (hF : Fr (fun k => k = b ∨ k = g ∨ k = bm) w wb) (hmap : PM wb bm' n f) (hbl : b < wb.heap.size)
    (hnb : ∀ k, v.ownBlock = some k → ¬ k = b) (hnm : ∀ k, v.ownBlock = some k → ¬ k = bm') (hbm3 : ¬ bm' = b)
    (ho : w2.ownsRow 0 65 3 (.slice a2 (L.length + 1) cp2) (L.length + 1) (vs ++ [.int .i64 t, .int .i64 ((n : Int) + 1), .int .i64 x]))
    (hgr : ((wb.alloc (.cells #[.int .i64 t, .int .i64 ((n : Int) + 1), .int .i64 x] 65)).drew).grownBy w2 v.ownBlock)
    (ha : (Value.slice a2 (L.length + 1) cp2).ownBlock = v.ownBlock ∨ (Value.slice a2 (L.length + 1) cp2).ownBlock = some ((wb.alloc (.cells #[.int .i64 t, .int .i64 ((n : Int) + 1), .int .i64 x] 65)).drew).heap.size)
    (hT : w2.heap[b]? = some (.cells #[v, .map (some bm'), .int .i64 ((n : Int) + 1)] 62 (0, 0))) :
    PutEnd w b g bm n M ⟨t, (n : Int) + 1, x⟩ L.length (w2.setCell ⟨b, 0, none⟩ (.slice a2 (L.length + 1) cp2)) := by
  have hsz := hF.size
  have hlen : (L ++ [(⟨t, (n : Int) + 1, x⟩ : En Int)]).length = L.length + 1 := by simp
  obtain ⟨g2, cap2, e1, hR, hc1, hc2, hob⟩ := owns_says (L := L ++ [⟨t, (n : Int) + 1, x⟩]) (v := .slice a2 (L.length + 1) cp2) (by rw [hlen]; exact ho) (hP.says.snoc hP.len ⟨t, (n : Int) + 1, x⟩) (by omega)
  rw [hlen] at e1 hc1
  injection e1 with e1 _ e3
  subst e1 e3
  rw [hob] at ha
  obtain ⟨es, c, hmb⟩ := hmap.blk
  have hml := lt_of_blk hmb
  have hal : ((wb.alloc (.cells #[.int .i64 t, .int .i64 ((n : Int) + 1), .int .i64 x] 65)).drew).heap.size = wb.heap.size + 1 := by simp
  rw [hal] at ha
  have hg : (g2 = g ∧ g2 ≠ b ∧ bm' ≠ g2) ∨ (w.heap.size ≤ g2 ∧ g2 ≠ b ∧ bm' ≠ g2) := by
    rcases ha with ha | ha
    · exact .inl ⟨hvb _ ha.symm, hnb _ ha.symm, fun e => hnm _ ha.symm e.symm⟩
    · injection ha with ha
      exact .inr ⟨by omega, by omega, by omega⟩
  have hF2 : Fr (fun k => k = b ∨ k = g ∨ k = bm) w w2 := ((hF.alloc _).drew).grown hgr (fun k hk => .inr (.inr (.inl (hvb k hk))))
  have hF2' : Fr (fun k => some k = v.ownBlock) wb w2 := (((Fr.refl _ wb).alloc _).drew).grown hgr (fun k hk => .inr hk.symm)
  have hF3 := Fr.set1 w2 b 0 (.slice (some ⟨g2, 0, none⟩) (L.length + 1) cp2)
  refine ⟨g2, bm', cp2, L, f, rfl, by have := blk_setCell (i := 0) (u := .slice (some ⟨g2, 0, none⟩) (L.length + 1) cp2) hT; simpa using this, hR.fr hF3 (by omega), hc1, hc2, (hmap.fr hF2' (fun e => hnm _ e.symm rfl)).fr hF3 hbm3, hP.pl, hP.ho, hP.pm, hP.lenn, hP.wf, hbm3, by omega, by omega, hbm2, hF2.trans hF3 (fun _ _ h => h) (fun _ _ h => .inl h)⟩

set_option maxHeartbeats 8000000 in
theorem hput_calls {w : World} {b g bm n : Nat} {M : List (En Int)} (h : IsHp w b g bm n M) (hn : n < 4194304) (t x : Int) :
    Calls Try.prog 14 #[.pointer (some ⟨b, 0, none⟩), .int .i64 t, .int .i64 x] w (PutPost w b g bm n M t x) := by
  obtain ⟨mo, v0, hB, hor⟩ : ∃ mo v0, w.heap[b]? = some (.cells #[v0, .map mo, .int .i64 (n : Int)] 62 (0, 0)) ∧
      Hid ((mo = none ∧ M = [] ∧ n = 0 ∧ g = b ∧ bm = b ∧ w.heap[b]? = some (.cells #[.slice none 0 0, .map none, .int .i64 0] 62 (0, 0))) ∨ (∃ bm', mo = some bm' ∧ PutMid w b g bm n M w)) := by
    rcases h with ⟨rfl, rfl, rfl, rfl, h⟩ | ⟨cap, L, f, h, hO⟩
    · exact ⟨none, _, h, hide (.inl ⟨rfl, rfl, rfl, rfl, rfl, h⟩)⟩
    · obtain ⟨vs, hP⟩ := pre_map h hO
      exact ⟨some bm, _, h.is.blk, hide (.inr ⟨bm, rfl, bm, L, f, _, vs, hP, fun k hk => (by cases hk; rfl), .inl rfl, Fr.refl _ w⟩)⟩
  have c1 := cell_at hB 1
  have f1 := free_at hB 1
  simp at c1
  have hmm := @run_makeMap Try.prog
  have hme := mapEq mo
  clear h
  go_enter Try.func14, Try.ntmps14
  go_upto_if 14 with fail
  go_cut [] (fun w' => PutMid w b g bm n M w')
  case first =>
    rcases unhide hor with ⟨rfl, hM0, hn0, hgb, hbmb, h⟩ | ⟨bm', rfl, hMid⟩
    · have hP := pre_new h
      have hb := lt_of_blk h
      have hF0 : Fr (fun k => k = b ∨ k = g ∨ k = bm) w ((w.setCell ⟨b, 1, none⟩ (.map (some w.heap.size))).alloc (.map #[] 0)) := (((Fr.refl _ w).setAt b 1 _ (.inr (.inl rfl)))).alloc _
      go_wp2
      go_meet
      case rel => exact ⟨w.heap.size, [], _, _, [], by rw [hM0, hn0]; exact hP, fun k hk => (by cases hk), .inr (Nat.le_refl _), hF0⟩
    · go_wp2
      go_meet
      case rel => exact hMid
  case rest =>
    obtain ⟨bm', L, f, v, vs, hP, hvb, hbm2, hF0⟩ := hcut
    clear hmm hme c1 f1 hor hB
    have hl := hP.lenn
    have c0 := cell_at hP.blk 0
    have c1 := cell_at hP.blk 1
    have c2 := cell_at hP.blk 2
    have f2 := free_at hP.blk 2
    simp at c0 c1 c2
    obtain ⟨a', cap', rfl⟩ := slice_own hP.own
    go_upto_region 7 with fail
    have hB1 := blk_setCell (i := 2) (u := .int .i64 ((n : Int) + 1)) hP.blk
    have hF1 := Fr.set1 wc b 2 (.int .i64 ((n : Int) + 1))
    have hbl := lt_of_blk hP.blk
    have hnb := own_ne hP
    have hnm := own_nm hP
    have hbm3 := pre_ne hP
    have hown1 := owns_fr hP.own hF1 (fun k hk => hnb k hk)
    have hmap1 := hP.map.fr hF1 (fun e => hbm3 e)
    have hF1' : Fr (fun k => k = b ∨ k = g ∨ k = bm) w (wc.setCell ⟨b, 2, none⟩ (.int .i64 ((n : Int) + 1))) := hF0.trans hF1 (fun _ _ h => h) (fun _ _ h => .inl h)
    have hbl1 : b < (wc.setCell ⟨b, 2, none⟩ (.int .i64 ((n : Int) + 1))).heap.size := by simpa using hbl
    generalize wc.setCell ⟨b, 2, none⟩ (.int .i64 ((n : Int) + 1)) = wb at *
    clear c0 c1 c2 f2
    have c0 := cell_at hB1 0
    have c1 := cell_at hB1 1
    have c2 := cell_at hB1 2
    have f0 := free_at hB1 0
    simp at c0 c1 c2
    have hbl2 : b ≠ wb.heap.size := by omega
    have HO := hide (own_drew (hown1.alloc (.cells #[.int .i64 t, .int .i64 ((n : Int) + 1), .int .i64 x] 65)))
    have HB := hide (blk_alloc (u := .cells #[.int .i64 t, .int .i64 ((n : Int) + 1), .int .i64 x] 65) hB1)
    go_cut [] (fun w' => PutEnd w b g bm n M ⟨t, (n : Int) + 1, x⟩ L.length w')
    case first =>
      go_region_law (refine step_append_info rfl _ _ 59 rfl 65 (enV ⟨0, 0, 0⟩) 3 24 Try.underlying59 infoEn rfl (by decide) (.slice a' L.length cap') _ _ rfl (unhide HO) ⟨wb.heap.size, 0, none⟩ 1 1 [.int .i64 t, .int .i64 ((n : Int) + 1), .int .i64 x] rfl rfl (en_cells wb _ _ _ _) (en_one _ _ _) (by unfold maxLen; omega) (by omega) ?_; intro v' w2 ho hgr ha; obtain ⟨a2, cp2, rfl⟩ := slice_own ho; have HT := hide (hgr.block b (by simp; omega) (fun e => hnb _ e.symm rfl)); have HT2 := hide ((unhide HT).trans (unhide HB)); have t0 := cell_at (unhide HT2) 0; simp at t0; have g0 := free_at (unhide HT2) 0)
      all_goals
        go_wp2_with fail
        go_meet
        exact put_end hP hvb hbm2 hF1' hmap1 hbl1 hnb hnm hbm3 ho hgr ha (unhide HT2)
    case rest =>
      clear c0 c1 c2 f0 hbl2 HO HB hB1 hP hown1 hmap1 hF1 hF1' hF0 hvb hbm2 hbl1 hbl hnb hnm hbm3
      obtain ⟨g3, bm3, cap3, L3, f3, hl3, hB3, hR3, hc3, hc3m, hM3, hPL3, hHO3, hPM3, hln3, hwf3, hn1, hn2, hg3, hbm3, hF3⟩ := hcut
      have HL3 := hide hl3
      clear hl3
      have c1 := cell_at hB3 1
      have c2 := cell_at hB3 2
      simp at c1 c2
      obtain ⟨w4, hr4, hP4, hF4⟩ := PM.put (w := wc.drew) (hM3.fr (Fr.refl (fun _ => False) _).drew (fun h => h)) (by omega) ((n : Int) + 1) (by omega) L.length (by omega)
      go_wp2_with fail
      go_region
      have hH4 : HL w4 b g3 bm3 cap3 (n + 1) (M ++ [⟨t, (n : Int) + 1, x⟩]) (L3 ++ [⟨t, (n : Int) + 1, x⟩]) (upd f3 ((n : Int) + 1) (some L3.length)) := by
        have hlen : (L3 ++ [(⟨t, (n : Int) + 1, x⟩ : En Int)]).length = L3.length + 1 := by simp
        have hno : ∀ (i : Nat) (y : En Int), L3[i]? = some y → y.k ≠ (⟨t, (n : Int) + 1, x⟩ : En Int).k := fun i y hy => by have := (hwf3 i y hy).2; show y.k ≠ (n : Int) + 1; omega
        have hf0 : f3 ((n : Int) + 1) = none := by
          cases hq : f3 ((n : Int) + 1)
          · rfl
          · obtain ⟨y, hy, hk⟩ := (hPL3 _ _).1 hq
            exact absurd hk (hno _ y hy)
        rw [hf0, unhide HL3] at hP4
        refine ⟨⟨by rw [hlen]; exact hF4.blk (show wc.drew.heap[b]? = _ from hB3) (fun e => hn1 e.symm), (hR3.fr (Fr.drew (Fr.refl (fun _ => False) wc)) (fun h => h)).fr hF4 (fun e => hn2 e.symm), hP4, by rw [hlen]; exact hc3, hc3m, by omega, by rw [hlen]; omega, fun i y hy => ?_⟩, hPL3.snoc (e := ⟨t, (n : Int) + 1, x⟩) hno, hPM3.append_right _⟩
        rw [List.getElem?_append] at hy
        split at hy
        · have := hwf3 i y hy; omega
        · rw [List.getElem?_singleton] at hy
          split at hy
          · cases hy; show (1 : Int) ≤ (n : Int) + 1 ∧ (n : Int) + 1 ≤ ((n + 1 : Nat) : Int); omega
          · cases hy
      have hmid := hHO3.snoc (⟨t, (n : Int) + 1, x⟩ : En Int)
      have HRI := hide (rise_calls hH4 L3.length (by simp) hmid)
      rw [← unhide HL3] at HRI
      have hF5 : Fr (fun k => k = b ∨ k = g ∨ k = bm) w w4 := (hF3.drew).trans hF4 (fun _ _ h => h) (fun i hi h => by subst h; rcases hbm3 with h | h; exact .inr (.inr h); omega)
      clear hB3 hR3 hM3 hF3 hF4 hP4 hr4 c1 c2
      go_wp2_with fail
      refine (unhide HRI).mono ?_
      rintro e' w5 ⟨rfl, ⟨L5, f5, hH5, hD5⟩, hF6⟩
      have hO5 := hD5.last (by rw [hH5.pm.length_eq]; simp [hPM3.length_eq, unhide HL3])
      have hF7 : Fr (fun k => k = b ∨ k = g ∨ k = bm) w w5 := hF5.trans hF6 (fun _ _ h => h) (fun i hi h => by
        rcases h with h | h
        · rcases hg3 with h2 | h2
          · exact .inr (.inl (h.trans h2))
          · omega
        · rcases hbm3 with h2 | h2
          · exact .inr (.inr (h.trans h2))
          · omega)
      have c2 := cell_at hH5.is.blk 2
      simp at c2
      go_wp2
      go_ret
      exact ⟨rfl, ⟨g3, bm3, .inr ⟨cap3, L5, f5, hH5, hO5⟩, hg3, hbm3⟩, hF7⟩

end Go.Proofs.Ytijiackjlgpgpaa
