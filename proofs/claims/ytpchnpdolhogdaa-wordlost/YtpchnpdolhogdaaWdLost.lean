/-
  WordLost: no wake is lost.
-/
import Derived.Test.YtpchnpdolhogdaaWdOnce
import Derived.Test.YtpchnpdolhogdaaMakeRep
namespace Go.Proofs.Ytpchnpdolhogdaa
open Go.RowKit
set_option linter.unusedVariables false
set_option maxRecDepth 8192

theorem Try.infoInt : (Try.prog.info? 3).map (fun i => (i.zero, i.size, i.bytes)) = some (some (.int .i64 0), 1, 8) := by kernel_rfl

/-- a wake that is over leaves the word Queued, Awake or Dead -/
theorem wake_over {d : Wd} (h : Ow d) {k : Nat} (hk : 0 < k) (hp : 0 < d.pc k) (hx : (wstp d k).2 ≠ -1) : (wstp d k).1.now = 1 ∨ (wstp d k).1.now = 3 ∨ (wstp d k).1.now = 4 := by
  have e2 : (wstp d k).2 = (acc d.now d.held (d.pc k)).came := rfl
  have e1 : (wstp d k).1.now = (acc d.now d.held (d.pc k)).now := rfl
  rw [e2] at hx
  rw [e1]
  have h3 := h.more k hk
  have hn := h.now
  have : d.pc k = 1 ∨ d.pc k = 2 ∨ d.pc k = 3 := by omega
  rcases this with q | q | q <;> rw [q] at hx ⊢ <;> simp only [acc] at hx ⊢
  · by_cases h0 : d.now = 0
    · rw [if_pos h0] at hx; exact absurd rfl hx
    · rw [if_neg h0] at hx ⊢
      by_cases h2 : d.now = 2
      · rw [if_pos h2] at hx; exact absurd rfl hx
      · rw [if_neg h2]; show d.now = 1 ∨ d.now = 3 ∨ d.now = 4; omega
  · by_cases h0 : d.now = 0
    · rw [if_pos h0]; exact .inl rfl
    · rw [if_neg h0] at hx; exact absurd rfl hx
  · by_cases h0 : d.now = 2
    · rw [if_pos h0]; exact .inr (.inl rfl)
    · rw [if_neg h0] at hx; exact absurd rfl hx

/-- a block of eight numbers -/
def N8 (w : World) (g : Nat) : Prop := ∃ cs : Array Value, w.heap[g]? = some (.cells cs 3 (0, 0)) ∧ cs.size = 8 ∧ ∀ i, i < 8 → ∃ x : Int, cs[i]? = some (.int .i64 x)

theorem N8.fr {P : Nat → Prop} {w w' : World} {g : Nat} (h : N8 w g) (hf : Fr P w w') (hg : ¬ P g) : N8 w' g := by
  obtain ⟨cs, h1, h2⟩ := h; exact ⟨cs, hf.blk h1 hg, h2⟩
theorem N8.lt {w : World} {g : Nat} (h : N8 w g) : g < w.heap.size := by obtain ⟨cs, h1, _⟩ := h; exact lt_of_blk h1
theorem N8.c {w : World} {g : Nat} (h : N8 w g) {i : Nat} (hi : i < 8) : ∃ x : Int, w.cell? ⟨g, i, none⟩ = some (.int .i64 x) := by
  obtain ⟨cs, h1, h2, h3⟩ := h
  obtain ⟨x, hx⟩ := h3 i hi
  exact ⟨x, by rw [cell_at h1]; exact hx⟩
theorem N8.free {w : World} {g : Nat} (h : N8 w g) (i : Nat) : w.frozen? ⟨g, i, none⟩ = false := by
  obtain ⟨cs, h1, _⟩ := h; exact free_at h1 i
theorem N8.set {w : World} {g : Nat} (h : N8 w g) {i : Nat} (hi : i < 8) (x : Int) : N8 (w.setCell ⟨g, i, none⟩ (.int .i64 x)) g := by
  obtain ⟨cs, h1, h2, h3⟩ := h
  refine ⟨_, blk_setCell h1, by simpa using h2, fun j hj => ?_⟩
  rw [Array.getElem?_setIfInBounds]
  by_cases e : i = j
  · subst e; exact ⟨x, by rw [if_pos rfl, if_pos (by omega)]⟩
  · rw [if_neg e]; exact h3 j hj
theorem N8.new {w : World} {cs : Array Value} (h : cs.toList = List.replicate 8 (.int .i64 0)) : N8 (w.alloc (.cells cs 3)) w.heap.size := by
  refine ⟨cs, blk_new _ _, ?_, fun i hi => ⟨0, ?_⟩⟩
  · have := congrArg List.length h; simpa using this
  · rw [← Array.getElem?_toList, h, List.getElem?_replicate, if_pos hi]
/-- it holds no single number -/
theorem N8.nb {w : World} {g : Nat} (h : N8 w g) {k : Nat} (hk : IB w k) : ¬ k = g := by
  rintro rfl
  obtain ⟨cs, h1, h2, _⟩ := h
  obtain ⟨v, h3⟩ := hk
  unfold Bx at h3
  rw [h1] at h3
  cases h3
  simp at h2

theorem N8.free8 {w : World} {g : Nat} (h : N8 w g) {i : Nat} (_ : i < 8) : w.frozen? ⟨g, i, none⟩ = false := h.free i
theorem N8.wo {w : World} {g G : Nat} {d : Wd} (h : N8 w g) (hD : Wo w G d) {i : Nat} (_ : i < 8) (x : Int) (hne : ¬ G = g) : Wo (w.setCell ⟨g, i, none⟩ (.int .i64 x)) G d :=
  hD.fr (Fr.set1 w g i (.int .i64 x)) hne (fun _ hi => h.nb hi)

set_option maxHeartbeats 8000000 in
theorem lost_calls {w : World} {a1 : Option Addr} {n1 k1 : Nat} {rows : List Rw} (A1 : RwA w.heap.size w a1 n1 rows) (hn1 : n1 * 16 ≤ 140737488351232) :
    Calls Try.prog 6 #[.slice a1 n1 k1] w fun e w' => e = .returned (.bool true) ∧ Fr (fun _ => False) w w' := by
  go_enter Try.func6, Try.ntmps6
  go_wp2_with (first
    | (go_at_call 9; refine (lives_calls _).mono ?_; rintro e w1 ⟨rfl, hF0⟩)
    | (go_at_call 10; refine (onew2 _).mono ?_; rintro e w2 ⟨G, hG0, rfl, hD, hF⟩)
    | (at_make; refine wpList_make_rep _ rfl _ _ 47 rfl 3 (.int .i64 0) 8 Try.underlying47 Try.infoInt rfl _ _ 8 _ _ rfl rfl (by omega) (by omega) (by omega) (by unfold maxLen; omega) ?_; intro cs hcs))
  have hG : w.heap.size ≤ G := by rw [← hG0.out]; exact hF0.size
  have hFr := (hF0.trans hF (T := fun _ => False) (fun _ _ h => h) (fun _ _ h => h)).alloc (.cells cs 3)
  have hN := N8.new (w := w2) hcs
  have hD2 := hD.al (.cells cs 3)
  obtain ⟨g, hg⟩ : ∃ g, w2.heap.size = g := ⟨_, rfl⟩
  have hGg : G < g := by rw [← hg]; exact hD.is.lt
  rw [hg] at hN
  have hst : ∃ W, W = w2.alloc (.cells cs 3) := ⟨_, rfl⟩
  simp only [hg]
  clear hG0 hF0 hF hg hD hst
  generalize w2.alloc (.cells cs 3) = w5 at *
  go_loopw [4, 6] (fun l i wr => ∃ (j T : Nat) (d : Wd), j ≤ n1 ∧ i = .int .i64 j ∧ l = .int .i64 T ∧ Wo wr G d ∧ T ≤ j ∧ N8 wr g ∧ Fr (fun _ => False) w wr) (fun _ i _ => n1 - (intOf i).toNat)
  case atStart => exact ⟨0, 0, Wd.new, by omega, rfl, rfl, hD2, by omega, hN, hFr⟩
  case round =>
    clear hD2 hFr hN
    obtain ⟨j, T, d, hj, rfl, rfl, hD, hT, hN, hF⟩ := hrel
    by_cases hlt : j < n1
    · obtain ⟨ba, off, ⟨t, o⟩, vs, rfl, hba, hx, hc, rfl, _⟩ := (A1.fr hF (fun _ h => h.elim)).at hlt
      have c0 : wr.cell? ⟨ba, off + j * 2, none⟩ = some (.int .i64 t) := by simpa using hc 0 _ rfl
      have c1 : wr.cell? ⟨ba, off + j * 2 + 1, none⟩ = some (.int .i64 o) := by simpa using hc 1 _ rfl
      have hlt' : (j : Int) < (n1 : Int) := by omega
      clear hx hc
      obtain ⟨k, hk8, hk⟩ := thI_lt t
      have o1 := lbg_ow hD.ow k o
      have hp := lbg_pos (d := d) hk8 o
      have hh := (lbg_same (d := d) hk8 o).2
      have hov : 0 < k → (wstp (lbg d k o) k).2 ≠ -1 → _ := fun h0 => wake_over o1 h0 hp
      have HB := hide (fun (w1 : World) (h : Wo w1 G d) => lbegin h hk hk8 o)
      have HBY := hide (fun (w1 : World) (h : Wo w1 G d) => busy_calls h.is (k : Int))
      generalize lbg d k o = d1 at *
      have HST := hide (fun (w1 : World) (h : Wo w1 G d1) => ostep h hk8 hp)
      have HH := hide (fun (w1 : World) (h : Wo w1 G d1) => holds_calls h.is)
      rw [hh] at HH
      generalize wstp d1 k = dx at *
      obtain ⟨d2, x⟩ := dx
      dsimp only at HST hov
      have HN := hide (fun (w1 : World) (h : Wo w1 G d2) => now_calls h.is)
      generalize d2.now = n2 at *
      have hTi : (0 : Int) ≤ (T : Int) := by omega
      have hTn : (T : Int) < 9223372036854775800 := by omega
      have hltG := hD.is.lt
      have hltN := hN.lt
      have hszF := hF.size
      have key : ∀ (T' : Nat) (w3 : World), T' ≤ j + 1 → Wo w3 G d2 → N8 w3 g → Fr (fun _ => False) w w3 → ∃ (j' T'' : Nat) (d : Wd), j' ≤ n1 ∧ Value.int .i64 ((j : Int) + 1) = .int .i64 j' ∧ Value.int .i64 (T' : Int) = .int .i64 T'' ∧ Wo w3 G d ∧ T'' ≤ j' ∧ N8 w3 g ∧ Fr (fun _ => False) w w3 :=
        fun T' w3 h0 h1 h2 h3 => ⟨j + 1, T', d2, by omega, by go_num, rfl, h1, h0, h2, h3⟩
      have hcase : ((k = 0 ∧ ((d.held = true ∧ (x == 2) = false) ∨ (d.held = false ∧ (x == 0) = false ∧ (x == 2) = false))) ∨ (((k : Int) == 0) = false ∧ 0 < k ∧ ((x != -1) = false ∨ ((x != -1) = true ∧ (n2 = 1 ∨ n2 = 3 ∨ n2 = 4))))) ∨
          (k = 0 ∧ ((d.held = true ∧ x = 2) ∨ (d.held = false ∧ x = 0) ∨ (d.held = false ∧ x = 2))) := by
        by_cases hz : k = 0
        · cases hd : d.held
          · by_cases h0 : x = 0
            · exact .inr ⟨hz, .inr (.inl ⟨rfl, h0⟩)⟩
            · by_cases h3 : x = 2
              · exact .inr ⟨hz, .inr (.inr ⟨rfl, h3⟩)⟩
              · exact .inl (.inl ⟨hz, .inr ⟨rfl, by simpa using h0, by simpa using h3⟩⟩)
          · by_cases h3 : x = 2
            · exact .inr ⟨hz, .inl ⟨rfl, h3⟩⟩
            · exact .inl (.inl ⟨hz, .inl ⟨rfl, by simpa using h3⟩⟩)
        · refine .inl (.inr ⟨by simp; omega, by omega, ?_⟩)
          by_cases hm : x = -1
          · exact .inl (by simp [hm])
          · exact .inr ⟨by simpa using hm, hov (by omega) hm⟩
      have hbz : (busyB d (k : Int) = true) ∨ (busyB d (k : Int) = false) := by cases busyB d (k : Int) <;> simp
      clear hov o1 hp hh
      rcases hcase with hcase | hcase
      · have KEY := hide (fun w3 => key T w3 (by omega))
        clear key
        rcases hbz with hbz | hbz
        · rw [hbz] at HBY
          have HZ := HBY
          clear hbz HBY
          rcases hcase with ⟨rfl, ⟨hd, hx2⟩ | ⟨hd, hx0, hx2⟩⟩ | ⟨hbk, hkn, hxm | ⟨hxm, rfl | rfl | rfl⟩⟩ <;> (try rw [hd] at HH) <;> (try clear hd)
          all_goals
            try have hkp : (0 : Int) < (k : Int) := by omega
            go_wp2_with (first
              | (go_at_call 19; refine (thread_calls hk _ _).mono ?_; rintro e w1 ⟨rfl, hF1⟩; have hD1 := hD.up hF1; have hN1 := hN.fr hF1 (fun h => h); have e0 := cell_fr hF1 (fun h => h) c0; have e1 := cell_fr hF1 (fun h => h) c1)
              | (go_at_call 18; refine (unhide HZ _ hD1).mono ?_; rintro e w' ⟨rfl, rfl⟩)
              | (go_at_call 20; refine (unhide HB _ hD1).mono ?_; rintro e w2 ⟨rfl, hD2, hF2⟩; have hN2 := hN1.fr hF2 (show ¬ g = G by omega))
              | (go_at_call 17; refine (unhide HH _ hD2).mono ?_; rintro e w' ⟨rfl, rfl⟩)
              | (go_at_call 14; refine (unhide HST _ hD2).mono ?_; rintro e w3 ⟨rfl, hD3, hF3⟩)
              | (go_at_call 16; refine (unhide HN _ hD3).mono ?_; rintro e w' ⟨rfl, rfl⟩))
            go_roundw
            case rel => exact unhide KEY _ hD3 (hN2.fr hF3 (by omega)) (((hF.trans hF1 (fun _ _ h => h) (fun _ _ h => h)).wrd hF2 hG).wrd hF3 hG)
            case measure => simp [intOf]; omega
        · rw [hbz] at HBY
          have HZ := HBY
          clear hbz HBY
          rcases hcase with ⟨rfl, ⟨hd, hx2⟩ | ⟨hd, hx0, hx2⟩⟩ | ⟨hbk, hkn, hxm | ⟨hxm, rfl | rfl | rfl⟩⟩ <;> (try rw [hd] at HH) <;> (try clear hd)
          all_goals
            try have hkp : (0 : Int) < (k : Int) := by omega
            go_wp2_with (first
              | (go_at_call 19; refine (thread_calls hk _ _).mono ?_; rintro e w1 ⟨rfl, hF1⟩; have hD1 := hD.up hF1; have hN1 := hN.fr hF1 (fun h => h); have e0 := cell_fr hF1 (fun h => h) c0; have e1 := cell_fr hF1 (fun h => h) c1)
              | (go_at_call 18; refine (unhide HZ _ hD1).mono ?_; rintro e w' ⟨rfl, rfl⟩)
              | (go_at_call 20; refine (unhide HB _ hD1).mono ?_; rintro e w2 ⟨rfl, hD2, hF2⟩; have hN2 := hN1.fr hF2 (show ¬ g = G by omega); have z2 := hN2.free8 hk8; obtain ⟨y2, cy2⟩ := hN2.c hk8; have hlt2 := hN2.lt; have hN4 := hN2.set hk8 (T : Int); have hD4 := hN2.wo hD2 hk8 (T : Int) (show ¬ G = g by omega))
              | (go_at_call 17; refine (unhide HH _ hD4).mono ?_; rintro e w' ⟨rfl, rfl⟩)
              | (go_at_call 14; refine (unhide HST _ hD4).mono ?_; rintro e w3 ⟨rfl, hD3, hF3⟩)
              | (go_at_call 16; refine (unhide HN _ hD3).mono ?_; rintro e w' ⟨rfl, rfl⟩))
            go_roundw
            case rel => exact unhide KEY _ hD3 (hN4.fr hF3 (by omega)) ((((hF.trans hF1 (fun _ _ h => h) (fun _ _ h => h)).wrd hF2 hG).setAt g _ _ (.inl (by omega))).wrd hF3 hG)
            case measure => simp [intOf]; omega
      · have KEY := hide (fun w3 => key (T + 1) w3 (by omega))
        clear key
        obtain ⟨rfl, hcase⟩ := hcase
        rcases hbz with hbz | hbz
        · rw [hbz] at HBY
          have HZ := HBY
          clear hbz HBY
          rcases hcase with ⟨hd, rfl⟩ | ⟨hd, rfl⟩ | ⟨hd, rfl⟩ <;> rw [hd] at HH <;> clear hd
          all_goals
            try have hkp : (0 : Int) < (k : Int) := by omega
            go_wp2_with (first
              | (go_at_call 19; refine (thread_calls hk _ _).mono ?_; rintro e w1 ⟨rfl, hF1⟩; have hD1 := hD.up hF1; have hN1 := hN.fr hF1 (fun h => h); have e0 := cell_fr hF1 (fun h => h) c0; have e1 := cell_fr hF1 (fun h => h) c1)
              | (go_at_call 18; refine (unhide HZ _ hD1).mono ?_; rintro e w' ⟨rfl, rfl⟩)
              | (go_at_call 20; refine (unhide HB _ hD1).mono ?_; rintro e w2 ⟨rfl, hD2, hF2⟩; have hN2 := hN1.fr hF2 (show ¬ g = G by omega))
              | (go_at_call 17; refine (unhide HH _ hD2).mono ?_; rintro e w' ⟨rfl, rfl⟩)
              | (go_at_call 14; refine (unhide HST _ hD2).mono ?_; rintro e w3 ⟨rfl, hD3, hF3⟩)
              | (go_at_call 16; refine (unhide HN _ hD3).mono ?_; rintro e w' ⟨rfl, rfl⟩))
            go_roundw
            case rel => exact unhide KEY _ hD3 (hN2.fr hF3 (by omega)) (((hF.trans hF1 (fun _ _ h => h) (fun _ _ h => h)).wrd hF2 hG).wrd hF3 hG)
            case measure => simp [intOf]; omega
        · rw [hbz] at HBY
          have HZ := HBY
          clear hbz HBY
          rcases hcase with ⟨hd, rfl⟩ | ⟨hd, rfl⟩ | ⟨hd, rfl⟩ <;> rw [hd] at HH <;> clear hd
          all_goals
            try have hkp : (0 : Int) < (k : Int) := by omega
            go_wp2_with (first
              | (go_at_call 19; refine (thread_calls hk _ _).mono ?_; rintro e w1 ⟨rfl, hF1⟩; have hD1 := hD.up hF1; have hN1 := hN.fr hF1 (fun h => h); have e0 := cell_fr hF1 (fun h => h) c0; have e1 := cell_fr hF1 (fun h => h) c1)
              | (go_at_call 18; refine (unhide HZ _ hD1).mono ?_; rintro e w' ⟨rfl, rfl⟩)
              | (go_at_call 20; refine (unhide HB _ hD1).mono ?_; rintro e w2 ⟨rfl, hD2, hF2⟩; have hN2 := hN1.fr hF2 (show ¬ g = G by omega); have z2 := hN2.free8 hk8; obtain ⟨y2, cy2⟩ := hN2.c hk8; have hlt2 := hN2.lt; have hN4 := hN2.set hk8 (T : Int); have hD4 := hN2.wo hD2 hk8 (T : Int) (show ¬ G = g by omega))
              | (go_at_call 17; refine (unhide HH _ hD4).mono ?_; rintro e w' ⟨rfl, rfl⟩)
              | (go_at_call 14; refine (unhide HST _ hD4).mono ?_; rintro e w3 ⟨rfl, hD3, hF3⟩)
              | (go_at_call 16; refine (unhide HN _ hD3).mono ?_; rintro e w' ⟨rfl, rfl⟩))
            go_roundw
            case rel => exact unhide KEY _ hD3 (hN4.fr hF3 (by omega)) ((((hF.trans hF1 (fun _ _ h => h) (fun _ _ h => h)).wrd hF2 hG).setAt g _ _ (.inl (by omega))).wrd hF3 hG)
            case measure => simp [intOf]; omega
    · obtain rfl : j = n1 := by omega
      go_wp2
      go_ret
      exact ⟨rfl, hF⟩

end Go.Proofs.Ytpchnpdolhogdaa
