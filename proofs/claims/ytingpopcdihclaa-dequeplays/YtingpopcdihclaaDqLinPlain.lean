/-
  What an access of the owner's tells of the list, as the law looks at it. Of no program.
-/
import Derived.Test.YtingpopcdihclaaDqInv
namespace Go.Proofs.Ytingpopcdihclaa
set_option linter.unusedVariables false

/-- how many accesses the owner's operation has made -/
def mdOk (pc md : Nat) : Prop := (pc ≤ 4 → md + 1 = pc) ∧ (pc = 5 → md = 0) ∧ (pc = 6 → md = 1) ∧ (pc = 7 → md = 2) ∧ (pc = 8 → md = 3) ∧ (pc = 9 → md = 4) ∧ (pc = 10 → md = 3 ∨ md = 5)

/-- the owner's step, as the law tells its ways apart -/
inductive Ow (S : Nat) (d d2 : Dq) : Bool → Nat → List Int → List Int → List Int → List Int → Dn → Prop
  | push1 (md L) : Ow S d d2 false md L [] L [] Dn.none
  | pop1 (md L K) : md + 1 ≠ 3 → md + 1 ≠ 5 → Ow S d d2 true md L K L K Dn.none
  | pop3n (L) : d.bot - d.top ≤ 0 → (L.length : Int) = d.bot - d.top + 1 → d2.bot = d.bot → Ow S d d2 true 2 L [] L [] Dn.none
  | pop3y (L x) : 0 < d.bot - d.top → (L.length : Int) = d.bot - d.top → d2.bot = d.bot → Ow S d d2 true 2 (L ++ [x]) [] L [x] Dn.none
  | pop5n (L) : d2.top = d.top → Ow S d d2 true 4 L [] L [] Dn.none
  | pop5y (x) : d2.top ≠ d.top → Ow S d d2 true 4 [x] [] [] [x] Dn.none
  | pushed (md L v) : Ow S d d2 false md L [] (L ++ [v]) [] ⟨true, 0, v, 0⟩
  | full (md L v) : L.length = S → Ow S d d2 false md L [] L [] ⟨true, 0, v, 7⟩
  | popped (md L v) : md + 1 ≠ 3 → md + 1 ≠ 5 → Ow S d d2 true md L [v] L [] ⟨true, 1, v, 0⟩
  | empty (md) : md + 1 ≠ 3 → md + 1 ≠ 5 → Ow S d d2 true md [] [] [] [] ⟨true, 1, 0, 8⟩

theorem own7 {S : Nat} {d : Dq} {L K : List Int} (h : OwnI S d L K) (hp : (d.th 0).pc = 7) : d.bot + 1 = d.top + L.length ∧ K = [] := by
  rcases h with h | h | h | h | h | h | h | h | h | h | h
  all_goals first | (exfalso; omega) | exact ⟨h.2.2.1, h.2.2.2.1⟩

theorem own8n {S : Nat} {d : Dq} {L : List Int} (h : OwnI S d L []) (hp : (d.th 0).pc = 8) : d.bot + 1 = d.top + L.length ∧ L.length ≤ 1 := by
  rcases h with h | h | h | h | h | h | h | h | h | h | h
  all_goals first | (exfalso; omega) | exact ⟨h.2.2.2.2.2.1, h.2.2.2.2.2.2.1⟩ | exact absurd h.2.2.2.2.2.2.2 (by simp)

theorem own8y {S : Nat} {d : Dq} {L : List Int} {x : Int} (h : OwnI S d L [x]) (hp : (d.th 0).pc = 8) : (d.th 0).t < d.bot ∧ d.bot = d.top + L.length := by
  rcases h with h | h | h | h | h | h | h | h | h | h | h
  all_goals first | (exfalso; omega) | (obtain ⟨_, _, _, _, _, _, _, hK⟩ := h; simp at hK; done) | exact ⟨h.2.2.2.2.1, h.2.2.2.2.2.1⟩

theorem own9 {S : Nat} {d : Dq} {L K : List Int} (h : OwnI S d L K) (hp : (d.th 0).pc = 9) : d.bot + 1 = d.top + L.length ∧ L.length ≤ 1 ∧ K = [] := by
  rcases h with h | h | h | h | h | h | h | h | h | h | h
  all_goals first | (exfalso; omega) | exact ⟨h.2.2.2.2.1, h.2.2.2.2.2.1, h.2.2.2.2.2.2.1⟩

theorem own10 {S : Nat} {d : Dq} {L K : List Int} (h : OwnI S d L K) (hp : (d.th 0).pc = 10) : d.bot + 1 = d.top ∧ L = [] := by
  rcases h with h | h | h | h | h | h | h | h | h | h | h
  all_goals first | (exfalso; omega) | (obtain ⟨_, _, h1, rfl, _⟩ := h; exact ⟨by simpa using h1, rfl⟩)

theorem own_push {S : Nat} {d : Dq} {L K : List Int} (h : OwnI S d L K) (hp : (d.th 0).pc ≤ 4) : K = [] := by
  rcases h with h | h | h | h | h | h | h | h | h | h | h
  · exact h.2.2
  · omega
  · exact h.2.2.2
  · exact h.2.2.2.2
  · exact h.2.2.2.2.2
  all_goals omega

theorem pc_next (S : Nat) (d : Dq) (h1 : 0 < (d.th 0).pc) (h2 : (d.th 0).pc ≤ 10) : ((stp S d 0).1.th 0).pc = 0 ∨ ((d.th 0).pc ≠ 4 ∧ (d.th 0).pc ≠ 7 ∧ (d.th 0).pc ≠ 10 ∧ ((stp S d 0).1.th 0).pc = (d.th 0).pc + 1) ∨
    ((d.th 0).pc = 7 ∧ (((stp S d 0).1.th 0).pc = 8 ∨ ((stp S d 0).1.th 0).pc = 10) ∧ ((stp S d 0).1.th 0).t = d.top ∧ (stp S d 0).1.bot = d.bot ∧ (stp S d 0).1.top = d.top) := by
  obtain ⟨p, hp⟩ : ∃ p, (d.th 0).pc = p := ⟨_, rfl⟩
  rw [hp] at h1 h2 ⊢
  have hpc : p = 1 ∨ p = 2 ∨ p = 3 ∨ p = 4 ∨ p = 5 ∨ p = 6 ∨ p = 7 ∨ p = 8 ∨ p = 9 ∨ p = 10 := by omega
  have hg : ∀ (d' : Dq) (r : Rn) (c : Nat), ((goOn d' 0 r c).1.th 0).pc = c := fun d' r c => by simp [goOn, set_th]
  have ht : ∀ (d' : Dq) (r : Rn) (c : Nat), ((goOn d' 0 r c).1.th 0).t = r.t := fun d' r c => by simp [goOn, set_th]
  have hf : ∀ (d' : Dq) (a b c : Int), ((fin d' 0 a b c).1.th 0).pc = 0 := fun d' a b c => by simp [fin, set_th, Rn.zero]
  rcases hpc with rfl | rfl | rfl | rfl | rfl | rfl | rfl | rfl | rfl | rfl
  · rw [stp_1 S d 0 hp, hg]; omega
  · rw [stp_2 S d 0 hp]; split
    · rw [hf]; omega
    · rw [hg]; omega
  · rw [stp_3 S d 0 hp, hg]; omega
  · rw [stp_4 S d 0 hp, hf]; omega
  · rw [stp_5 S d 0 hp, hg]; omega
  · rw [stp_6 S d 0 hp, hg]; omega
  · rw [stp_7 S d 0 hp]; split
    · exact .inr (.inr ⟨rfl, .inr (hg _ _ _), ht _ _ _, rfl, rfl⟩)
    · exact .inr (.inr ⟨rfl, .inl (hg _ _ _), ht _ _ _, rfl, rfl⟩)
  · rw [stp_8 S d 0 hp]; split
    · rw [hf]; omega
    · rw [hg]; omega
  · rw [stp_9 S d 0 hp]; split
    · rw [hg]; omega
    · rw [hg]; omega
  · rw [stp_10 S d 0 hp]; split
    · rw [hf]; omega
    · rw [hf]; omega

theorem ow_step {S : Nat} {d : Dq} {L K : List Int} {md : Nat} (I : Inv S d L K) (hp : 0 < (d.th 0).pc) (hm : mdOk (d.th 0).pc md) :
    ∃ L2 K2, Inv S (stp S d 0).1 L2 K2 ∧ Ow S d (stp S d 0).1 (decide (5 ≤ (d.th 0).pc)) md L K L2 K2 (stp S d 0).2 ∧ (0 < ((stp S d 0).1.th 0).pc → mdOk ((stp S d 0).1.th 0).pc (md + 1) ∧ (5 ≤ ((stp S d 0).1.th 0).pc ↔ 5 ≤ (d.th 0).pc)) ∧ md ≤ 5 := by
  obtain ⟨L2, K2, I2, hE⟩ := inv_own I hp
  have hO := I.own
  have hO2 := I2.own
  have h10 : (d.th 0).pc ≤ 10 := by unfold OwnI at hO; omega
  have hpos := I.pos
  have hn := pc_next S d hp h10
  have hpc0 := stp_pc0 S d hp h10
  have h9 : (d.th 0).pc = 9 → (stp S d 0).1.bot = d.bot ∧ ((stp S d 0).1.top = d.top ∨ (stp S d 0).1.top = d.top + 1) := fun h => by
    rw [stp_9 S d 0 h]; split
    · exact ⟨rfl, .inr rfl⟩
    · exact ⟨rfl, .inl rfl⟩
  generalize (stp S d 0).1 = d2 at *
  generalize (stp S d 0).2 = y at *
  refine ⟨L2, K2, I2, ?_, fun h => ⟨?_, ?_⟩, by unfold mdOk at hm; omega⟩
  · cases hE with
    | quiet =>
      have hne : (d2.th 0).pc ≠ 0 := by
        rcases hpc0 with ⟨_, h⟩ | h
        · simp [Dn.none] at h
        · omega
      by_cases h5 : 5 ≤ (d.th 0).pc
      · rw [decide_eq_true h5]
        by_cases h7 : (d.th 0).pc = 7
        · have hmd : md = 2 := by unfold mdOk at hm; omega
          subst hmd
          obtain ⟨q1, rfl⟩ := own7 hO h7
          rcases hn with h | ⟨_, h, _⟩ | ⟨_, hq, htt, hb, ht⟩
          · omega
          · omega
          · refine .pop3n L ?_ (by omega) hb
            rcases hq with hq | hq
            · have := own8n hO2 hq; omega
            · obtain ⟨w1, rfl⟩ := own10 hO2 hq
              simp at q1; omega
        · by_cases h9' : (d.th 0).pc = 9
          · have hmd : md = 4 := by unfold mdOk at hm; omega
            subst hmd
            obtain ⟨q1, q2, rfl⟩ := own9 hO h9'
            obtain ⟨hb, ht⟩ := h9 h9'
            refine .pop5n L ?_
            have hq : (d2.th 0).pc = 10 := by omega
            obtain ⟨w1, rfl⟩ := own10 hO2 hq
            simp at q1
            omega
          · refine .pop1 md L K ?_ ?_ <;> (unfold mdOk at hm; omega)
      · rw [decide_eq_false h5]
        obtain rfl := own_push hO (by omega)
        exact .push1 md L
    | pushed _ v hk hp4 hv =>
      rw [decide_eq_false (by omega)]
      exact .pushed md L v
    | full _ v hk hp2 hl =>
      rw [decide_eq_false (by omega)]
      exact .full md L v hl
    | took _ x hk hpp =>
      rw [decide_eq_true (by omega)]
      have hne : (d2.th 0).pc ≠ 0 := by
        rcases hpc0 with ⟨_, h⟩ | h
        · simp [Dn.none] at h
        · omega
      rcases hpp with h7 | h9'
      · have hmd : md = 2 := by unfold mdOk at hm; omega
        subst hmd
        obtain ⟨q1, _⟩ := own7 hO h7
        simp at q1
        rcases hn with h | ⟨_, h, _⟩ | ⟨_, hq, htt, hb, ht⟩
        · omega
        · omega
        · rcases hq with hq | hq
          · obtain ⟨w1, w2⟩ := own8y hO2 hq
            exact .pop3y L2 x (by omega) (by omega) hb
          · obtain ⟨w1, rfl⟩ := own10 hO2 hq
            simp at q1; omega
      · have hmd : md = 4 := by unfold mdOk at hm; omega
        subst hmd
        obtain ⟨q1, q2, _⟩ := own9 hO h9'
        obtain ⟨hb, ht⟩ := h9 h9'
        have hL2 : L2 = [] := by simpa using q2
        subst hL2
        refine .pop5y x ?_
        have hq : (d2.th 0).pc = 10 := by omega
        obtain ⟨w1, _⟩ := own10 hO2 hq
        simp at q1
        omega
    | popped _ v hk hpp =>
      rw [decide_eq_true (by omega)]
      refine .popped md _ v ?_ ?_ <;> (unfold mdOk at hm; omega)
    | empty hk hp10 =>
      rw [decide_eq_true (by omega)]
      refine .empty md ?_ ?_ <;> (unfold mdOk at hm; omega)
    | stole v _ _ hk => exact absurd rfl hk
    | missed _ _ e hk he => exact absurd rfl hk
  · unfold mdOk at *
    omega
  · omega

end Go.Proofs.Ytingpopcdihclaa
