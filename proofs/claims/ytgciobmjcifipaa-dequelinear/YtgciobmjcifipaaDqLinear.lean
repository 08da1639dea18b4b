/-
  DequeLinear: whatever the interleaving, all is as if each operation had been done at once.
-/
import Derived.Test.YtgciobmjcifipaaDqGoes
namespace Go.Proofs.Ytgciobmjcifipaa
open Go.RowKit
set_option linter.unusedVariables false
set_option maxRecDepth 8192

theorem goes_calls {w : World} {G bo S : Nat} {d d2 : Dq} {pop : Bool} {md : Nat} {L K L2 K2 : List Int} {y : Dn} {tv : Value} {la : Option Addr} {lc : Nat} (hD : IsD w (G + 1) G S d) (hs : Sd d 0) (h2 : (stp S d 0).1 = d2) (hy : (stp S d 0).2 = y) (hG : G + 1 < bo)
    (hB : OB w bo pop md tv) (hT : SK w (bo + 1) tv K) (hO : LS w (bo + 1) (.slice la L.length lc) L) (hmd : md ≤ 5) (hlen : L.length ≤ 64) (h9 : y.over = true → (d2.th 0).pc = 0) (hw : Ow S d d2 pop md L K L2 K2 y) :
    Calls Try.prog 25 #[.pointer (some ⟨bo, 0, none⟩), .pointer (some ⟨G + 1, 0, none⟩), .slice la L.length lc] w (GP w G bo S d2 pop md L2 K2) := by
  obtain ⟨ta, tc, rfl, hTc⟩ := hT
  have hT : SK w (bo + 1) (.slice ta K.length tc) K := ⟨ta, tc, rfl, hTc⟩
  clear hTc
  cases hw with
  | push1 => exact g_push1 hD hs h2 hy hG hB hT hO hmd hlen rfl
  | pop1 _ _ _ m1 m2 => exact g_pop1 hD hs h2 hy hG hB hT hO hmd hlen rfl m1 m2
  | pop3n _ h1 h3 h4 => exact g_pop3n hD hs h2 hy hG hB hT hO hmd hlen rfl rfl h1 h3 h4
  | pop3y _ x h1 h3 h4 => exact g_pop3y hD hs h2 hy hG hB hT hO hmd hlen rfl rfl rfl h1 h3 h4
  | pop5n _ h4 => exact g_pop5n hD hs h2 hy hG hB hT hO hmd hlen rfl rfl h4
  | pop5y x h4 => exact g_pop5y hD hs h2 hy hG hB hT hO hmd hlen rfl rfl rfl h4
  | pushed _ _ v => exact g_pushed hD hs h2 hy hG hB hT hO hmd hlen rfl rfl (h9 rfl)
  | full _ _ v h1 => exact g_full hD hs h2 hy hG hB hT hO hmd hlen rfl h1
  | popped _ _ v m1 m2 => exact g_popped hD hs h2 hy hG hB hT hO hmd hlen rfl rfl m1 m2 (h9 rfl)
  | empty _ m1 m2 => exact g_empty hD hs h2 hy hG hB hT hO hmd hlen rfl rfl rfl m1 m2

theorem law_over {S : Nat} {d : Dq} {L K : List Int} (I : Inv S d L K) (hp : 0 < (d.th 0).pc) : (stp S d 0).2.over = true → ((stp S d 0).1.th 0).pc = 0 := fun ho => by
  have hO := I.own
  have h10 : (d.th 0).pc ≤ 10 := by unfold OwnI at hO; omega
  rcases stp_pc0 S d hp h10 with ⟨h1, _⟩ | ⟨h1, _⟩
  · exact h1
  · rw [h1] at ho; simp [Dn.none] at ho

theorem OB.reset {w : World} {bo md : Nat} {pop : Bool} {tv : Value} (h : OB w bo pop md tv) (q : Bool) : OB (((w.setCell ⟨bo, 0, none⟩ (.bool q)).setCell ⟨bo, 1, none⟩ (.int .i64 0)).setCell ⟨bo, 2, none⟩ (.slice none 0 0)) bo q 0 (.slice none 0 0) := by
  have h1 := blk_setCell (i := 0) (u := .bool q) h
  have h2 := blk_setCell (i := 1) (u := .int .i64 0) h1
  have h3 := blk_setCell (i := 2) (u := .slice none 0 0) h2
  unfold OB
  rw [h3]
  simp

theorem fr_reset (w : World) (bo : Nat) (q : Bool) : Fr (fun k => k = bo) w (((w.setCell ⟨bo, 0, none⟩ (.bool q)).setCell ⟨bo, 1, none⟩ (.int .i64 0)).setCell ⟨bo, 2, none⟩ (.slice none 0 0)) :=
  (((Fr.refl (fun k => k = bo) w).setAt _ _ _ (.inr rfl)).setAt _ _ _ (.inr rfl)).setAt _ _ _ (.inr rfl)

/-- where the law stands -/
def LnS (w0 : World) (G bo S : Nat) (j : Nat) (m : Int) (lv : Value) (w : World) : Prop :=
  ∃ (d : Dq) (L K : List Int) (pop : Bool) (md : Nat) (tv : Value), IsD w (G + 1) G S d ∧ Inv S d L K ∧ LS w (bo + 1) lv L ∧ OB w bo pop md tv ∧
    (0 < (d.th 0).pc → pop = decide (5 ≤ (d.th 0).pc) ∧ mdOk (d.th 0).pc md ∧ SK w (bo + 1) tv K) ∧ 0 ≤ m ∧ m ≤ j ∧ d.top ≤ j ∧ Fr (fun _ => False) w0 w

set_option maxHeartbeats 8000000 in
theorem linear_calls {w : World} (size : Int) {a1 : Option Addr} {n1 k1 : Nat} {rows : List Rw} (A1 : RwA w.heap.size w a1 n1 rows) (hn1 : n1 * 16 ≤ 140737488351232) :
    Calls Try.prog 5 #[.int .i64 size, .slice a1 n1 k1] w fun e w' => e = .returned (.bool true) ∧ Fr (fun _ => False) w w' := by
  have hn48 : n1 ≤ 8796093022208 := by omega
  clear hn1
  go_enter Try.func5, Try.ntmps5
  go_wp2_with (first
    | (go_at_call 9; refine (lives_calls _).mono ?_; rintro e w1 ⟨rfl, hF0⟩)
    | (go_at_call 10; refine (dnew2 _ _).mono ?_; rintro e w2 ⟨G, S, hG0, hS0, rfl, hD, hF⟩))
  have hS1 := clamp_pos size
  have hS2 := clamp_most size
  rw [hS0.out] at hS1 hS2
  have hG : w.heap.size ≤ G := by rw [← hG0.out]; exact hF0.size
  have hFr := hF0.trans hF (T := fun _ => False) (fun _ _ h => h) (fun _ _ h => h)
  have hGb := hD.lt
  obtain ⟨bo, hbo⟩ : ∃ bo, w2.heap.size = bo := ⟨_, rfl⟩
  have hob : OB (w2.alloc (.cells #[.bool false, .int .i64 0, .slice none 0 0] 57)) w2.heap.size false 0 (.slice none 0 0) := blk_new w2 _
  rw [hbo] at hob hGb
  simp only [hbo]
  have hst : LnS w G bo S 0 0 (.slice none 0 0) (w2.alloc (.cells #[.bool false, .int .i64 0, .slice none 0 0] 57)) :=
    ⟨Dq.new, [], [], false, 0, _, hD.al _, inv_new hS1, OS.nil _ _ _ _, hob, fun h => by simp [Dq.new, Rn.zero] at h, by omega, by omega, by simp [Dq.new], hFr.alloc _⟩
  clear hG0 hS0 hF0 hF hD hFr hob hbo
  go_loopw [6, 7, 9] (fun n l i wr => ∃ (j : Nat) (m : Int), j ≤ n1 ∧ i = .int .i64 j ∧ n = .int .i64 m ∧ LnS w G bo S j m l wr) (fun _ _ i _ => n1 - (intOf i).toNat)
  case atStart => exact ⟨0, 0, by omega, rfl, rfl, hst⟩
  case round =>
    clear hst
    obtain ⟨j, m, hj, rfl, rfl, d, L, K, pop, md, tv, hD, I, hO, hB, hP, hm0, hmj, htop, hF⟩ := hrel
    obtain ⟨la, lc, rfl, _⟩ := hO.cell
    by_cases hlt : j < n1
    · obtain ⟨ba, off, ⟨t, p⟩, vs, rfl, hba, hx, hc, rfl, _⟩ := A1.at hlt
      have c0w : w.cell? ⟨ba, off + j * 2, none⟩ = some (.int .i64 t) := by simpa using hc 0 _ rfl
      have c1w : w.cell? ⟨ba, off + j * 2 + 1, none⟩ = some (.bool p) := by simpa using hc 1 _ rfl
      have c0 := cell_fr hF (fun h => h) c0w
      have c1 := cell_fr hF (fun h => h) c1w
      have hlt' : (j : Int) < (n1 : Int) := by omega
      clear hx hc
      obtain ⟨k, hk8, hk⟩ := thI_lt t
      obtain ⟨⟨b0, b1, b2⟩, f1, f2⟩ := hB.cs
      have f0 := free_at hB 0
      have hlen := I.len
      have hltB := lt_of_blk hB
      by_cases hk0 : k = 0
      · subst hk0
        by_cases hp0 : 0 < (d.th 0).pc
        · obtain ⟨hpop, hm1, hSK⟩ := hP hp0
          subst hpop
          have I1 := I
          have hp1 := hp0
          obtain ⟨L2, K2, I2, hOw, hmd2, hmd5⟩ := ow_step I1 hp1 hm1
          have hs := I1.sd hS2 (by show d.top ≤ _; omega) (k := 0) (by omega) hp1
          have htp := stp_top S (d) hs.pc.1 hs.pc.2
          have h9 : (stp S (d) 0).2.over = true → ((stp S (d) 0).1.th 0).pc = 0 := (law_over I1 hp1)
          have hlen2 : L.length ≤ 64 := by have := I1.len; omega
          have HGO := hide (fun (w1 : World) (tv : Value) (h1 : IsD w1 (G + 1) G S (d)) (hb : OB w1 bo (decide (5 ≤ ((d).th 0).pc)) md tv) (ht : SK w1 (bo + 1) tv K) (ho : LS w1 (bo + 1) (.slice la L.length lc) L) => goes_calls h1 hs rfl rfl hGb hb ht ho hmd5 hlen2 h9 hOw)
          generalize (stp S d 0).1 = d2 at *
          generalize (stp S d 0).2 = y at *
          clear hOw hs h9
          go_wp2_with (first
            | (go_at_call 24; refine (thread_calls hk _ _).mono ?_; rintro e w2 ⟨rfl, hF2⟩; have hD2 := hD.fr hF2 (fun h => h) (fun h => h); have e0 := cell_fr hF2 (fun h => h) c0; have e1 := cell_fr hF2 (fun h => h) c1; have hO2 := hO.fr hF2 (fun _ _ h => h); have hB2 := hB.fr hF2 (fun h => h); have hT2 := hSK.fr hF2 (fun _ _ h => h))
            | (go_at_call 19; refine (busy_yes hD2 (k := 0) (by omega) hp0).mono ?_; rintro e w' ⟨rfl, rfl⟩)
            | (go_at_call 23; refine (next_busy hD2 hk (by omega) p m hp0).mono ?_; rintro e w3 ⟨rfl, hD3, hF3⟩; have hB3 := hB2.fr hF3 (show ¬ (bo = G + 1 ∨ bo = G) by omega); have hT3 := hT2.fr hF3 (fun k hk => by omega); have hO3 := hO2.fr hF3 (fun k hk => by have := hk.1; omega))
            | (go_at_call 25; refine (unhide HGO _ _ hD3 hB3 hT3 hO3).mono ?_; rintro e w5 ⟨lv5, tv5, rfl, hD5, hB5, hT5, hO5, hF5⟩; obtain ⟨la5, lc5, rfl, _⟩ := hO5.cell))
          go_roundw
          case rel =>
            exact ⟨j + 1, m, by omega, by go_num, rfl, d2, L2, K2, _, md + 1, tv5, hD5, I2, hO5, hB5, fun h => ⟨decide_eq_decide.2 (hmd2 h).2.symm, (hmd2 h).1, hT5 h⟩, hm0, by omega, by omega, (((((hF.trans hF2 (fun _ _ h => h) (fun _ _ h => h))).deq hF3 (by omega) hG)).trans hF5 (fun _ _ h => h) (fun i hi h => by rcases h with h | h | h | h <;> first | omega | (have := h.1; omega)))⟩
          case measure => simp [intOf]; omega
        · have hidle : (d.th 0).pc = 0 := by omega
          obtain ⟨hbt, rfl⟩ := own_idle I hidle
          clear hbt
          cases p with
          | true =>
            have I1 : Inv S (d.set 0 ⟨1, m + 1, 0, 0, false⟩) L [] := inv_begin I (by omega) hidle 1 (m + 1) (.inl ⟨rfl, .inl rfl⟩)
            have hp1 : 0 < ((d.set 0 ⟨1, m + 1, 0, 0, false⟩).th 0).pc := by simp [set_th]
            have hm1 : mdOk ((d.set 0 ⟨1, m + 1, 0, 0, false⟩).th 0).pc 0 := by simp [set_th, mdOk]
            obtain ⟨L2, K2, I2, hOw, hmd2, hmd5⟩ := ow_step I1 hp1 hm1
            have hs := I1.sd hS2 (by show d.top ≤ _; omega) (k := 0) (by omega) hp1
            have htp := stp_top S (d.set 0 ⟨1, m + 1, 0, 0, false⟩) hs.pc.1 hs.pc.2
            have h9 : (stp S (d.set 0 ⟨1, m + 1, 0, 0, false⟩) 0).2.over = true → ((stp S (d.set 0 ⟨1, m + 1, 0, 0, false⟩) 0).1.th 0).pc = 0 := (law_over I1 hp1)
            have hlen2 : L.length ≤ 64 := by have := I1.len; omega
            have HGO := hide (fun (w1 : World) (tv : Value) (h1 : IsD w1 (G + 1) G S (d.set 0 ⟨1, m + 1, 0, 0, false⟩)) (hb : OB w1 bo (decide (5 ≤ ((d.set 0 ⟨1, m + 1, 0, 0, false⟩).th 0).pc)) 0 tv) (ht : SK w1 (bo + 1) tv []) (ho : LS w1 (bo + 1) (.slice la L.length lc) L) => goes_calls h1 hs rfl rfl hGb hb ht ho hmd5 hlen2 h9 hOw)
            have hpop : decide (5 ≤ ((d.set 0 ⟨1, m + 1, 0, 0, false⟩).th 0).pc) = false := by simp [set_th]
            rw [hpop] at HGO
            have HP5 := hide hpop
            have htd : (d.set 0 ⟨1, m + 1, 0, 0, false⟩).top = d.top := rfl
            rw [htd] at htp
            generalize hd1 : d.set 0 ⟨1, m + 1, 0, 0, false⟩ = d1 at *
            generalize (stp S d1 0).1 = d2 at *
            generalize (stp S d1 0).2 = y at *
            have HD1 := hide hd1
            clear hOw hs h9 hpop hd1 htd
            go_wp2_with (first
              | (go_at_call 24; refine (thread_calls hk _ _).mono ?_; rintro e w2 ⟨rfl, hF2⟩; have hD2 := hD.fr hF2 (fun h => h) (fun h => h); have e0 := cell_fr hF2 (fun h => h) c0; have e1 := cell_fr hF2 (fun h => h) c1; have hO2 := hO.fr hF2 (fun _ _ h => h); have hB2 := hB.fr hF2 (fun h => h); obtain ⟨⟨u0, u1, u2⟩, q1, q2⟩ := hB2.cs; have q0 := free_at hB2 0; have hlt2 := lt_of_blk hB2)
              | (go_at_call 19; refine (busy_no hD2 (k := 0) (by omega) hidle).mono ?_; rintro e w' ⟨rfl, rfl⟩)
              | (go_at_call 23; refine (next_push (hD2.fr (fr_reset w2 bo false) (show ¬ G + 1 = bo by omega) (show ¬ G = bo by omega)) hk m ⟨hm0, by omega⟩ hidle).mono ?_; rintro e w3 ⟨rfl, hD3, hF3⟩; rw [HD1.out] at hD3; have hB3 := (hB2.reset false).fr hF3 (show ¬ (bo = G + 1 ∨ bo = G) by omega); have hO3 := (hO2.fr (fr_reset w2 bo false) (fun k hk e => by have := hk.1; omega)).fr hF3 (fun k hk => by have := hk.1; omega))
              | (go_at_call 25; refine (unhide HGO _ _ hD3 hB3 (SK.nil _ _ _ _) hO3).mono ?_; rintro e w5 ⟨lv5, tv5, rfl, hD5, hB5, hT5, hO5, hF5⟩; obtain ⟨la5, lc5, rfl, _⟩ := hO5.cell))
            go_roundw
            case rel =>
              exact ⟨j + 1, m + 1, by omega, by go_num, rfl, d2, L2, K2, _, 0 + 1, tv5, hD5, I2, hO5, hB5, fun h => ⟨by rw [← HP5.out]; exact decide_eq_decide.2 (hmd2 h).2.symm, (hmd2 h).1, hT5 h⟩, by omega, by omega, by omega, (((((hF.trans hF2 (fun _ _ h => h) (fun _ _ h => h)).trans (fr_reset w2 bo false) (fun _ _ h => h) (fun i hi e => by omega)).deq hF3 (by omega) hG)).trans hF5 (fun _ _ h => h) (fun i hi h => by rcases h with h | h | h | h <;> first | omega | (have := h.1; omega)))⟩
            case measure => simp [intOf]; omega
          | false =>
            have I1 : Inv S (d.set 0 ⟨5, m + 1, 0, 0, false⟩) L [] := inv_begin I (by omega) hidle 5 (m + 1) (.inl ⟨rfl, .inr rfl⟩)
            have hp1 : 0 < ((d.set 0 ⟨5, m + 1, 0, 0, false⟩).th 0).pc := by simp [set_th]
            have hm1 : mdOk ((d.set 0 ⟨5, m + 1, 0, 0, false⟩).th 0).pc 0 := by simp [set_th, mdOk]
            obtain ⟨L2, K2, I2, hOw, hmd2, hmd5⟩ := ow_step I1 hp1 hm1
            have hs := I1.sd hS2 (by show d.top ≤ _; omega) (k := 0) (by omega) hp1
            have htp := stp_top S (d.set 0 ⟨5, m + 1, 0, 0, false⟩) hs.pc.1 hs.pc.2
            have h9 : (stp S (d.set 0 ⟨5, m + 1, 0, 0, false⟩) 0).2.over = true → ((stp S (d.set 0 ⟨5, m + 1, 0, 0, false⟩) 0).1.th 0).pc = 0 := (law_over I1 hp1)
            have hlen2 : L.length ≤ 64 := by have := I1.len; omega
            have HGO := hide (fun (w1 : World) (tv : Value) (h1 : IsD w1 (G + 1) G S (d.set 0 ⟨5, m + 1, 0, 0, false⟩)) (hb : OB w1 bo (decide (5 ≤ ((d.set 0 ⟨5, m + 1, 0, 0, false⟩).th 0).pc)) 0 tv) (ht : SK w1 (bo + 1) tv []) (ho : LS w1 (bo + 1) (.slice la L.length lc) L) => goes_calls h1 hs rfl rfl hGb hb ht ho hmd5 hlen2 h9 hOw)
            have hpop : decide (5 ≤ ((d.set 0 ⟨5, m + 1, 0, 0, false⟩).th 0).pc) = true := by simp [set_th]
            rw [hpop] at HGO
            have HP5 := hide hpop
            have htd : (d.set 0 ⟨5, m + 1, 0, 0, false⟩).top = d.top := rfl
            rw [htd] at htp
            generalize hd1 : d.set 0 ⟨5, m + 1, 0, 0, false⟩ = d1 at *
            generalize (stp S d1 0).1 = d2 at *
            generalize (stp S d1 0).2 = y at *
            have HD1 := hide hd1
            clear hOw hs h9 hpop hd1 htd
            go_wp2_with (first
              | (go_at_call 24; refine (thread_calls hk _ _).mono ?_; rintro e w2 ⟨rfl, hF2⟩; have hD2 := hD.fr hF2 (fun h => h) (fun h => h); have e0 := cell_fr hF2 (fun h => h) c0; have e1 := cell_fr hF2 (fun h => h) c1; have hO2 := hO.fr hF2 (fun _ _ h => h); have hB2 := hB.fr hF2 (fun h => h); obtain ⟨⟨u0, u1, u2⟩, q1, q2⟩ := hB2.cs; have q0 := free_at hB2 0; have hlt2 := lt_of_blk hB2)
              | (go_at_call 19; refine (busy_no hD2 (k := 0) (by omega) hidle).mono ?_; rintro e w' ⟨rfl, rfl⟩)
              | (go_at_call 23; refine (next_pop (hD2.fr (fr_reset w2 bo true) (show ¬ G + 1 = bo by omega) (show ¬ G = bo by omega)) hk m ⟨hm0, by omega⟩ hidle).mono ?_; rintro e w3 ⟨rfl, hD3, hF3⟩; rw [HD1.out] at hD3; have hB3 := (hB2.reset true).fr hF3 (show ¬ (bo = G + 1 ∨ bo = G) by omega); have hO3 := (hO2.fr (fr_reset w2 bo true) (fun k hk e => by have := hk.1; omega)).fr hF3 (fun k hk => by have := hk.1; omega))
              | (go_at_call 25; refine (unhide HGO _ _ hD3 hB3 (SK.nil _ _ _ _) hO3).mono ?_; rintro e w5 ⟨lv5, tv5, rfl, hD5, hB5, hT5, hO5, hF5⟩; obtain ⟨la5, lc5, rfl, _⟩ := hO5.cell))
            go_roundw
            case rel =>
              exact ⟨j + 1, m, by omega, by go_num, rfl, d2, L2, K2, _, 0 + 1, tv5, hD5, I2, hO5, hB5, fun h => ⟨by rw [← HP5.out]; exact decide_eq_decide.2 (hmd2 h).2.symm, (hmd2 h).1, hT5 h⟩, by omega, by omega, by omega, (((((hF.trans hF2 (fun _ _ h => h) (fun _ _ h => h)).trans (fr_reset w2 bo true) (fun _ _ h => h) (fun i hi e => by omega)).deq hF3 (by omega) hG)).trans hF5 (fun _ _ h => h) (fun i hi h => by rcases h with h | h | h | h <;> first | omega | (have := h.1; omega)))⟩
            case measure => simp [intOf]; omega
      · have hbk : ((k : Int) == 0) = false := by simp; omega
        obtain ⟨I1, hp1, ht1, ho1⟩ := nxt_inv I hk8 p m
        have hth := ho1 0 (by omega)
        have HN := hide (fun (w1 : World) (h1 : IsD w1 (G + 1) G S d) => next_calls h1 hk hk8 p m ⟨hm0, by omega⟩)
        obtain ⟨hm10, hm11⟩ := nxt_n (d := d) (k := k) (p := p) hm0 hmj
        generalize (nxt d k p m).1 = d1 at *
        generalize (nxt d k p m).2 = m1 at *
        obtain ⟨L2, K2, I2, hE⟩ := inv_step I1 hk8 hp1
        have hs := I1.sd hS2 (by omega) hk8 hp1
        have htp := stp_top S d1 hs.pc.1 hs.pc.2
        have hth2 := stp_th0 S d1 hk0 hs.pc.1 hs.pc.2
        rw [hth] at hth2
        have HST := hide (fun (w1 : World) (h1 : IsD w1 (G + 1) G S d1) => step_busy h1 hk8 hs)
        generalize (stp S d1 k).1 = d2 at *
        generalize (stp S d1 k).2 = y at *
        have HT0 := hide hth2
        clear hs ho1 hth hth2 I1
        cases hE with
        | pushed _ _ h => exact absurd h hk0
        | full _ _ h => exact absurd h hk0
        | took _ _ h => exact absurd h hk0
        | popped _ _ h => exact absurd h hk0
        | empty h => exact absurd h hk0
        | quiet =>
          go_wp2_with (first
          | (go_at_call 24; refine (thread_calls hk _ _).mono ?_; rintro e w2 ⟨rfl, hF2⟩; have hD2 := hD.fr hF2 (fun h => h) (fun h => h); have e0 := cell_fr hF2 (fun h => h) c0; have e1 := cell_fr hF2 (fun h => h) c1; have hO2 := hO.fr hF2 (fun _ _ h => h); have hB2 := hB.fr hF2 (fun h => h); have hW2 : (0 < (d.th 0).pc → SK w2 (bo + 1) tv K) := fun h => (hP h).2.2.fr hF2 (fun _ _ h => h))
          | (go_at_call 23; refine (unhide HN _ hD2).mono ?_; rintro e w3 ⟨rfl, hD3, hF3⟩)
          | (go_at_call 15; refine (unhide HST _ hD3).mono ?_; rintro e w5 ⟨rfl, hD5, hF5⟩; unfold dnV; (try unfold Dn.none); dsimp only; have hB5 := (hB2.fr hF3 (show ¬ (bo = G + 1 ∨ bo = G) by omega)).fr hF5 (show ¬ (bo = G + 1 ∨ bo = G) by omega); have hO5 := (hO2.fr hF3 (fun k hk => by have := hk.1; omega)).fr hF5 (fun k hk => by have := hk.1; omega); have hT5 : (0 < (d.th 0).pc → SK w5 (bo + 1) tv K) := fun h => ((hW2 h).fr hF3 (fun k hk => by omega)).fr hF5 (fun k hk => by omega)))
          go_roundw
          case rel => exact ⟨j + 1, m1, by omega, by go_num, rfl, d2, _, K, pop, md, tv, hD5.al _, I2, hO5.fr ((Fr.refl (fun _ => False) _).alloc _) (fun _ _ h => h), hB5.fr ((Fr.refl (fun _ => False) _).alloc _) (fun h => h), fun h => by rw [HT0.out] at h ⊢; exact ⟨(hP h).1, (hP h).2.1, (hT5 h).fr ((Fr.refl (fun _ => False) _).alloc _) (fun _ _ h => h)⟩, hm10, by omega, by omega, ((((hF.trans hF2 (fun _ _ h => h) (fun _ _ h => h)).deq hF3 (by omega) hG)).deq hF5 (by omega) hG).alloc _⟩
          case measure => simp [intOf]; omega
        | missed _ _ e h he =>
          clear h
          rcases he with rfl | rfl
          · go_wp2_with (first
            | (go_at_call 24; refine (thread_calls hk _ _).mono ?_; rintro e w2 ⟨rfl, hF2⟩; have hD2 := hD.fr hF2 (fun h => h) (fun h => h); have e0 := cell_fr hF2 (fun h => h) c0; have e1 := cell_fr hF2 (fun h => h) c1; have hO2 := hO.fr hF2 (fun _ _ h => h); have hB2 := hB.fr hF2 (fun h => h); have hW2 : (0 < (d.th 0).pc → SK w2 (bo + 1) tv K) := fun h => (hP h).2.2.fr hF2 (fun _ _ h => h))
            | (go_at_call 23; refine (unhide HN _ hD2).mono ?_; rintro e w3 ⟨rfl, hD3, hF3⟩)
            | (go_at_call 15; refine (unhide HST _ hD3).mono ?_; rintro e w5 ⟨rfl, hD5, hF5⟩; unfold dnV; (try unfold Dn.none); dsimp only; have hB5 := (hB2.fr hF3 (show ¬ (bo = G + 1 ∨ bo = G) by omega)).fr hF5 (show ¬ (bo = G + 1 ∨ bo = G) by omega); have hO5 := (hO2.fr hF3 (fun k hk => by have := hk.1; omega)).fr hF5 (fun k hk => by have := hk.1; omega); have hT5 : (0 < (d.th 0).pc → SK w5 (bo + 1) tv K) := fun h => ((hW2 h).fr hF3 (fun k hk => by omega)).fr hF5 (fun k hk => by omega)))
            go_roundw
            case rel => exact ⟨j + 1, m1, by omega, by go_num, rfl, d2, _, K, pop, md, tv, hD5.al _, I2, hO5.fr ((Fr.refl (fun _ => False) _).alloc _) (fun _ _ h => h), hB5.fr ((Fr.refl (fun _ => False) _).alloc _) (fun h => h), fun h => by rw [HT0.out] at h ⊢; exact ⟨(hP h).1, (hP h).2.1, (hT5 h).fr ((Fr.refl (fun _ => False) _).alloc _) (fun _ _ h => h)⟩, hm10, by omega, by omega, ((((hF.trans hF2 (fun _ _ h => h) (fun _ _ h => h)).deq hF3 (by omega) hG)).deq hF5 (by omega) hG).alloc _⟩
            case measure => simp [intOf]; omega
          · go_wp2_with (first
            | (go_at_call 24; refine (thread_calls hk _ _).mono ?_; rintro e w2 ⟨rfl, hF2⟩; have hD2 := hD.fr hF2 (fun h => h) (fun h => h); have e0 := cell_fr hF2 (fun h => h) c0; have e1 := cell_fr hF2 (fun h => h) c1; have hO2 := hO.fr hF2 (fun _ _ h => h); have hB2 := hB.fr hF2 (fun h => h); have hW2 : (0 < (d.th 0).pc → SK w2 (bo + 1) tv K) := fun h => (hP h).2.2.fr hF2 (fun _ _ h => h))
            | (go_at_call 23; refine (unhide HN _ hD2).mono ?_; rintro e w3 ⟨rfl, hD3, hF3⟩)
            | (go_at_call 15; refine (unhide HST _ hD3).mono ?_; rintro e w5 ⟨rfl, hD5, hF5⟩; unfold dnV; (try unfold Dn.none); dsimp only; have hB5 := (hB2.fr hF3 (show ¬ (bo = G + 1 ∨ bo = G) by omega)).fr hF5 (show ¬ (bo = G + 1 ∨ bo = G) by omega); have hO5 := (hO2.fr hF3 (fun k hk => by have := hk.1; omega)).fr hF5 (fun k hk => by have := hk.1; omega); have hT5 : (0 < (d.th 0).pc → SK w5 (bo + 1) tv K) := fun h => ((hW2 h).fr hF3 (fun k hk => by omega)).fr hF5 (fun k hk => by omega)))
            go_roundw
            case rel => exact ⟨j + 1, m1, by omega, by go_num, rfl, d2, _, K, pop, md, tv, hD5.al _, I2, hO5.fr ((Fr.refl (fun _ => False) _).alloc _) (fun _ _ h => h), hB5.fr ((Fr.refl (fun _ => False) _).alloc _) (fun h => h), fun h => by rw [HT0.out] at h ⊢; exact ⟨(hP h).1, (hP h).2.1, (hT5 h).fr ((Fr.refl (fun _ => False) _).alloc _) (fun _ _ h => h)⟩, hm10, by omega, by omega, ((((hF.trans hF2 (fun _ _ h => h) (fun _ _ h => h)).deq hF3 (by omega) hG)).deq hF5 (by omega) hG).alloc _⟩
            case measure => simp [intOf]; omega
        | stole v _ _ h =>
          clear h
          obtain ⟨a8, c8, e8, hDr⟩ := hO.drop 1 (by simp)
          simp at e8
          obtain ⟨rfl, rfl⟩ := e8
          obtain ⟨a9, c9, e9, hcap, hmax, hcel⟩ := hO.cell
          simp at e9
          obtain ⟨rfl, rfl⟩ := e9
          simp only [List.length_cons] at hcap
          obtain ⟨gl, ol, rfl, hbl, _, hvs⟩ := hcel (by omega)
          have hx0 := hvs 0 (.int .i64 v) rfl
          have hlI : ((v :: L2).length : Int) = (L2.length : Int) + 1 := by simp
          have HDR := hide hDr
          clear hcel hvs hDr
          go_wp2_with (first
            | (go_at_call 24; refine (thread_calls hk _ _).mono ?_; rintro e w2 ⟨rfl, hF2⟩; have hD2 := hD.fr hF2 (fun h => h) (fun h => h); have e0 := cell_fr hF2 (fun h => h) c0; have e1 := cell_fr hF2 (fun h => h) c1; have hO2 := hO.fr hF2 (fun _ _ h => h); have hB2 := hB.fr hF2 (fun h => h); have hW2 : (0 < (d.th 0).pc → SK w2 (bo + 1) tv K) := fun h => (hP h).2.2.fr hF2 (fun _ _ h => h))
            | (go_at_call 23; refine (unhide HN _ hD2).mono ?_; rintro e w3 ⟨rfl, hD3, hF3⟩)
            | (go_at_call 15; refine (unhide HST _ hD3).mono ?_; rintro e w5 ⟨rfl, hD5, hF5⟩; unfold dnV; (try unfold Dn.none); dsimp only; have hB5 := (hB2.fr hF3 (show ¬ (bo = G + 1 ∨ bo = G) by omega)).fr hF5 (show ¬ (bo = G + 1 ∨ bo = G) by omega); have hO5 := (hO2.fr hF3 (fun k hk => by have := hk.1; omega)).fr hF5 (fun k hk => by have := hk.1; omega); have hx5 := cell_fr hF5 (show ¬ (gl = G + 1 ∨ gl = G) by omega) (cell_fr hF3 (show ¬ (gl = G + 1 ∨ gl = G) by omega) (cell_fr hF2 (fun h => h) hx0)); rw [Nat.add_zero] at hx5; have hgl5 : gl < w5.heap.size := World.block_lt_of_cell? w5 ⟨gl, ol, none⟩ hx5; have hT5 : (0 < (d.th 0).pc → SK w5 (bo + 1) tv K) := fun h => ((hW2 h).fr hF3 (fun k hk => by omega)).fr hF5 (fun k hk => by omega)))
          go_quiet (fail)
          go_wp2
          go_roundw
          case rel =>
            have hfin : ∀ a', (1 < lc → ∃ g off, (some (⟨gl, ol, none⟩ : Addr)) = some ⟨g, off, none⟩ ∧ a' = some ⟨g, off + 1 * 1, none⟩) → (lc ≤ 1 → a' = some ⟨gl, ol, none⟩) → ∃ (j_1 : Nat) (m : Int), j_1 ≤ n1 ∧ Value.int IntKind.i64 ((j : Int) + 1) = Value.int IntKind.i64 (j_1 : Int) ∧ Value.int IntKind.i64 m1 = Value.int IntKind.i64 m ∧ LnS w G bo S j_1 m (.slice a' L2.length (lc - 1)) ((w5.alloc (.cells #[.bool true, .int .i64 2, .int .i64 v, .int .i64 0] 38)).drewN nq) := fun a' ha1 ha2 => by
              have hq := HDR.out a' ha1 ha2
              have hq1 : OS wr (bo + 1) 2 1 (.slice a' L2.length (lc - 1)) L2.length (rowV2 L2) := by simpa [rowV2] using hq
              have hq2 := (((hq1.fr hF2 (fun _ _ h => h)).fr hF3 (fun k hk => by have := hk.1; omega)).fr hF5 (fun k hk => by have := hk.1; omega)).fr ((Fr.refl (fun _ => False) _).alloc (.cells #[.bool true, .int .i64 2, .int .i64 v, .int .i64 0] 38)) (fun _ _ h => h)
              exact ⟨j + 1, m1, by omega, by go_num, rfl, d2, L2, K, pop, md, tv, (hD5.al _).drewN _, I2, LS.drewN hq2 _, (hB5.fr ((Fr.refl (fun _ => False) _).alloc _) (fun h => h)).fr ((Fr.refl (fun _ => False) _).drewN _) (fun h => h), fun h => by rw [HT0.out] at h ⊢; exact ⟨(hP h).1, (hP h).2.1, ((hT5 h).fr ((Fr.refl (fun _ => False) _).alloc _) (fun _ _ h => h)).fr ((Fr.refl (fun _ => False) _).drewN _) (fun _ _ h => h)⟩, hm10, by omega, by omega, (((((hF.trans hF2 (fun _ _ h => h) (fun _ _ h => h)).deq hF3 (by omega) hG)).deq hF5 (by omega) hG).alloc _).drewN _⟩
            by_cases hl1 : lc = 1
            · rw [if_pos hl1]
              exact hfin _ (fun h => by omega) (fun _ => rfl)
            · rw [if_neg hl1]
              exact hfin _ (fun h => ⟨gl, ol, rfl, rfl⟩) (fun h => by omega)
          case measure => simp [intOf]; omega
    · obtain rfl : j = n1 := by omega
      go_wp2
      go_ret
      exact ⟨rfl, hF⟩

end Go.Proofs.Ytgciobmjcifipaa
