/-
  What always holds of a deque: which list it stands for, at whatever interleaving. Of no program.
-/
import Derived.Test.YtingpopcdihclaaDqPlain
namespace Go.Proofs.Ytingpopcdihclaa
set_option linter.unusedVariables false

/-- the owner's part: L is the list that the deque stands for, K what a Pop has taken and not yet told -/
def OwnI (S : Nat) (d : Dq) (L K : List Int) : Prop :=
  (((d.th 0).pc = 0 ∨ (d.th 0).pc = 1) ∧ d.bot = d.top + L.length ∧ K = []) ∨
  ((d.th 0).pc = 5 ∧ d.bot = d.top + L.length ∧ K = [] ∧ (d.th 0).won = false) ∨
  ((d.th 0).pc = 2 ∧ (d.th 0).b = d.bot ∧ d.bot = d.top + L.length ∧ K = []) ∨
  ((d.th 0).pc = 3 ∧ (d.th 0).b = d.bot ∧ d.bot = d.top + L.length ∧ L.length < S ∧ K = []) ∨
  ((d.th 0).pc = 4 ∧ (d.th 0).b = d.bot ∧ d.bot = d.top + L.length ∧ L.length < S ∧ d.pl (ix S d.bot) = (d.th 0).v ∧ K = []) ∨
  ((d.th 0).pc = 6 ∧ (d.th 0).b = d.bot - 1 ∧ d.bot = d.top + L.length ∧ K = [] ∧ (d.th 0).won = false) ∨
  ((d.th 0).pc = 7 ∧ (d.th 0).b = d.bot ∧ d.bot + 1 = d.top + L.length ∧ K = [] ∧ (d.th 0).won = false) ∨
  ((d.th 0).pc = 8 ∧ (d.th 0).b = d.bot ∧ 0 ≤ (d.th 0).t ∧ (d.th 0).won = false ∧ ((d.th 0).t < d.bot ∧ d.bot = d.top + L.length ∧ L.length < S ∧ K = [d.pl (ix S d.bot)])) ∨
  ((d.th 0).pc = 8 ∧ (d.th 0).b = d.bot ∧ 0 ≤ (d.th 0).t ∧ (d.th 0).won = false ∧ ((d.th 0).t = d.bot ∧ d.bot + 1 = d.top + L.length ∧ L.length ≤ 1 ∧ K = [])) ∨
  ((d.th 0).pc = 9 ∧ (d.th 0).b = d.bot ∧ (d.th 0).t = d.bot ∧ (d.th 0).won = false ∧ d.bot + 1 = d.top + L.length ∧ L.length ≤ 1 ∧ K = [] ∧ ∀ x, L = [x] → (d.th 0).v = x) ∨
  ((d.th 0).pc = 10 ∧ (d.th 0).b = d.bot ∧ d.bot + 1 = d.top + L.length ∧ L = [] ∧ (((d.th 0).won = true ∧ K = [(d.th 0).v]) ∨ ((d.th 0).won = false ∧ K = [])))

/-- a thief's part -/
def ThI (d : Dq) (L : List Int) (k : Nat) : Prop :=
  ((d.th k).pc = 0 ∨ (d.th k).pc = 11) ∨
  ((d.th k).pc = 12 ∧ 0 ≤ (d.th k).t ∧ (d.th k).t ≤ d.top) ∨
  ((d.th k).pc = 13 ∧ 0 ≤ (d.th k).t ∧ (d.th k).t ≤ d.top ∧ ((d.th k).t = d.top → 0 < L.length)) ∨
  ((d.th k).pc = 14 ∧ 0 ≤ (d.th k).t ∧ (d.th k).t ≤ d.top ∧ ((d.th k).t = d.top → L.head? = some (d.th k).v))

structure Inv (S : Nat) (d : Dq) (L K : List Int) : Prop where
  pos : 0 < S
  t0 : 0 ≤ d.top
  len : L.length ≤ S
  at' : ∀ (i : Nat) (x : Int), L[i]? = some x → d.pl (ix S (d.top + i)) = x
  own : OwnI S d L K
  th : ∀ k, 0 < k → k < 8 → ThI d L k

theorem ThI.mono {d d' : Dq} {L L' : List Int} {k : Nat} (h : ThI d L k) (h1 : d'.th k = d.th k) (h2 : d'.top = d.top) (h3 : ∀ x, L.head? = some x → L'.head? = some x) : ThI d' L' k := by
  have h4 : 0 < L.length → 0 < L'.length := fun h => by
    rcases L with _ | ⟨x, L⟩
    · simp at h
    · have := h3 x rfl
      rcases L' with _ | ⟨y, L'⟩
      · simp at this
      · simp
  unfold ThI at *
  rw [h1, h2]
  rcases h with h | h | ⟨a, b, c, e⟩ | ⟨a, b, c, e⟩
  · exact .inl h
  · exact .inr (.inl h)
  · exact .inr (.inr (.inl ⟨a, b, c, fun h => h4 (e h)⟩))
  · exact .inr (.inr (.inr ⟨a, b, c, fun h => h3 _ (e h)⟩))

theorem ThI.up {d d' : Dq} {L L' : List Int} {k : Nat} (h : ThI d L k) (h1 : d'.th k = d.th k) (h2 : d'.top = d.top + 1) : ThI d' L' k := by
  unfold ThI at *
  rw [h1, h2]
  rcases h with h | h | ⟨a, b, c, e⟩ | ⟨a, b, c, e⟩
  · exact .inl h
  · exact .inr (.inl ⟨h.1, h.2.1, by omega⟩)
  · exact .inr (.inr (.inl ⟨a, b, by omega, fun h => by omega⟩))
  · exact .inr (.inr (.inr ⟨a, b, by omega, fun h => by omega⟩))

theorem inv_new {S : Nat} (hS : 0 < S) : Inv S ⟨0, 0, fun _ => 0, fun _ => Rn.zero⟩ [] [] :=
  ⟨hS, Int.le_refl _, Nat.zero_le _, fun i x h => (by simp at h), .inl ⟨.inl rfl, rfl, rfl⟩, fun k _ _ => .inl (.inl rfl)⟩

/-- what a step of thread k's tells of the list -/
inductive Ev (S : Nat) (d : Dq) (k : Nat) : List Int → List Int → List Int → List Int → Dn → Prop
  | quiet (L K) : Ev S d k L K L K Dn.none
  | pushed (L) (v : Int) : k = 0 → (d.th 0).pc = 4 → (d.th 0).v = v → Ev S d k L [] (L ++ [v]) [] ⟨true, 0, v, 0⟩
  | full (L) (v : Int) : k = 0 → (d.th 0).pc = 2 → L.length = S → Ev S d k L [] L [] ⟨true, 0, v, 7⟩
  | took (L) (x : Int) : k = 0 → (d.th 0).pc = 7 ∨ (d.th 0).pc = 9 → Ev S d k (L ++ [x]) [] L [x] Dn.none
  | popped (L) (v : Int) : k = 0 → (d.th 0).pc = 8 ∨ (d.th 0).pc = 10 → Ev S d k L [v] L [] ⟨true, 1, v, 0⟩
  | empty : k = 0 → (d.th 0).pc = 10 → Ev S d k [] [] [] [] ⟨true, 1, 0, 8⟩
  | stole (v : Int) (L K) : k ≠ 0 → Ev S d k (v :: L) K L K ⟨true, 2, v, 0⟩
  | missed (L K) (e : Int) : k ≠ 0 → e = 8 ∨ e = 17 → Ev S d k L K L K ⟨true, 2, 0, e⟩

theorem ix_ne {S : Nat} (hS : 0 < S) {a : Int} (ha : 0 ≤ a) {i j : Nat} (hi : i < S) (hj : j < S) (h : ix S (a + i) = ix S (a + j)) : i = j := by
  have e : (a + i) % (S : Int) = (a + j) % (S : Int) := by rw [← ix_eq hS, ← ix_eq hS, h]
  have h1 := Int.emod_add_mul_ediv (a + i) S
  have h2 := Int.emod_add_mul_ediv (a + j) S
  rw [e] at h1
  have h3 : (a + i) / S = (a + j) / S := by
    rcases Int.lt_trichotomy ((a + i) / S) ((a + j) / S) with hc | hc | hc
    · have : (S : Int) * ((a + i) / S + 1) ≤ S * ((a + j) / S) := Int.mul_le_mul_of_nonneg_left (by omega) (by omega)
      rw [Int.mul_add] at this; omega
    · exact hc
    · have : (S : Int) * ((a + j) / S + 1) ≤ S * ((a + i) / S) := Int.mul_le_mul_of_nonneg_left (by omega) (by omega)
      rw [Int.mul_add] at this; omega
  rw [h3] at h1
  omega

/-- the owner's thread turns, maybe bottom too -/
theorem Inv.turn {S : Nat} {d d' : Dq} {L K K' : List Int} (I : Inv S d L K) (h1 : d'.top = d.top) (h2 : d'.pl = d.pl) (h3 : ∀ k, 0 < k → d'.th k = d.th k) (h : OwnI S d' L K') : Inv S d' L K' :=
  ⟨I.pos, by rw [h1]; exact I.t0, I.len, fun i x hx => by rw [h1, h2]; exact I.at' i x hx, h, fun k hk hk8 => (I.th k hk hk8).mono (h3 k hk) h1 (fun _ h => h)⟩

/-- a thief's thread turns -/
theorem Inv.thief {S : Nat} {d : Dq} {L K : List Int} (I : Inv S d L K) {k : Nat} (hk : 0 < k) (r : Rn) (h : ThI (d.set k r) L k) : Inv S (d.set k r) L K := by
  refine ⟨I.pos, I.t0, I.len, I.at', ?_, fun i hi hi8 => ?_⟩
  · have := I.own
    unfold OwnI at *
    have e : (d.set k r).th 0 = d.th 0 := set_ne d r (by omega)
    rw [e]
    exact this
  · by_cases e : i = k
    · subst e; exact h
    · exact (I.th i hi hi8).mono (set_ne d r e) rfl (fun _ h => h)

theorem set_ne0 (d : Dq) (r : Rn) : ∀ k, 0 < k → (d.set 0 r).th k = d.th k := fun k hk => set_ne d r (by omega)

theorem inv_own {S : Nat} {d : Dq} {L K : List Int} (I : Inv S d L K) (hp : 0 < (d.th 0).pc) : ∃ L' K', Inv S (stp S d 0).1 L' K' ∧ Ev S d 0 L K L' K' (stp S d 0).2 := by
  have hpos := I.pos
  have hlen := I.len
  have ht0 := I.t0
  rcases I.own with ⟨h0 | h0, h1, rfl⟩ | ⟨h0, h1, rfl, hw⟩ | ⟨h0, h1, h2, rfl⟩ | ⟨h0, h1, h2, h3, rfl⟩ | ⟨h0, h1, h2, h3, h4, rfl⟩ | ⟨h0, h1, h2, rfl, hw⟩ | ⟨h0, h1, h2, rfl, hw⟩ | ⟨h0, h1, h2, hw, h3, h4, h5, rfl⟩ | ⟨h0, h1, h2, hw, h3, h4, h5, rfl⟩ | ⟨h0, h1, h2, hw, h3, h4, rfl, h5⟩ | ⟨h0, h1, h2, rfl, h3⟩
  · omega
  · rw [stp_1 S d 0 h0]
    refine ⟨L, [], I.turn rfl rfl (set_ne0 d _) ?_, .quiet _ _⟩
    exact .inr (.inr (.inl ⟨by simp [goOn, set_th], by simp [goOn, set_th, set_bot], h1, rfl⟩))
  · rw [stp_5 S d 0 h0]
    refine ⟨L, [], I.turn rfl rfl (set_ne0 d _) ?_, .quiet _ _⟩
    exact .inr (.inr (.inr (.inr (.inr (.inl ⟨by simp [goOn, set_th], by simp [goOn, set_th, set_bot], h1, rfl, by simp [goOn, set_th, hw]⟩)))))
  · rw [stp_2 S d 0 h0]
    by_cases hc : (S : Int) ≤ (d.th 0).b - d.top
    · rw [if_pos hc]
      refine ⟨L, [], I.turn rfl rfl (set_ne0 d _) (.inl ⟨.inl (by simp [fin, set_th, Rn.zero]), h2, rfl⟩), .full _ _ rfl h0 (by omega)⟩
    · rw [if_neg hc]
      refine ⟨L, [], I.turn rfl rfl (set_ne0 d _) ?_, .quiet _ _⟩
      right; right; right; left
      simp [goOn, set_th]
      exact ⟨h1, h2, by omega⟩
  · rw [stp_3 S d 0 h0]
    refine ⟨L, [], ⟨hpos, ht0, hlen, fun i x hx => ?_, ?_, fun k hk hk8 => (I.th k hk hk8).mono (set_ne _ _ (by omega)) rfl (fun _ h => h)⟩, .quiet _ _⟩
    · have hi := (List.getElem?_eq_some_iff.1 hx).1
      have e : ¬ ix S (d.top + i) = ix S (d.th 0).b := fun e => by
        rw [h1, h2] at e
        have := ix_ne hpos ht0 (i := i) (j := L.length) (by omega) h3 e
        omega
      have := I.at' i x hx
      simp only [goOn, Dq.set, Dq.lay]
      rw [if_neg e]; exact this
    · right; right; right; right; left
      simp [goOn, Dq.set, Dq.lay]
      exact ⟨h1, h2, h3, by rw [h1]; simp⟩
  · rw [stp_4 S d 0 h0]
    refine ⟨L ++ [(d.th 0).v], [], ⟨hpos, ht0, by simp; omega, fun i x hx => ?_, ?_, fun k hk hk8 => (I.th k hk hk8).mono (set_ne _ _ (by omega)) rfl (fun x h => ?_)⟩, .pushed _ _ rfl h0 rfl⟩
    · simp only [fin, Dq.set, Dq.wbot]
      rcases Nat.lt_or_ge i L.length with hi | hi
      · rw [List.getElem?_append_left hi] at hx; exact I.at' i x hx
      · have hlt := (List.getElem?_eq_some_iff.1 hx).1
        simp at hlt
        obtain rfl : i = L.length := by omega
        simp at hx
        rw [← hx, ← h2]; exact h4
    · left
      refine ⟨.inl (by simp [fin, set_th, Rn.zero]), ?_, rfl⟩
      simp [fin, Dq.set, Dq.wbot]
      omega
    · rcases L with _ | ⟨y, L⟩
      · simp at h
      · simpa using h
  · rw [stp_6 S d 0 h0]
    refine ⟨L, [], I.turn rfl rfl (fun k hk => set_ne _ _ (by omega)) ?_, .quiet _ _⟩
    right; right; right; right; right; right; left
    simp [goOn, Dq.set, Dq.wbot, hw]
    omega
  · rw [stp_7 S d 0 h0]
    by_cases hc : (d.th 0).b < d.top
    · rw [if_pos hc]
      have hL : L = [] := List.eq_nil_of_length_eq_zero (by omega)
      subst hL
      refine ⟨[], [], I.turn rfl rfl (set_ne0 d _) ?_, .quiet _ _⟩
      right; right; right; right; right; right; right; right; right; right
      refine ⟨by simp [goOn, set_th], by simp [goOn, set_th, set_bot, h1], h2, rfl, .inr ⟨by simp [goOn, set_th, hw], rfl⟩⟩
    · rw [if_neg hc]
      by_cases he : d.top = d.bot
      · refine ⟨L, [], I.turn rfl rfl (set_ne0 d _) ?_, .quiet _ _⟩
        right; right; right; right; right; right; right; right; left
        refine ⟨by simp [goOn, set_th], by simp [goOn, set_th, set_bot, h1], by simp [goOn, set_th]; omega, by simp [goOn, set_th, hw], by simp [goOn, set_th, set_bot, he], h2, by omega, rfl⟩
      · rcases List.eq_nil_or_concat L with rfl | ⟨L2, x, rfl⟩
        · simp at h2; omega
        · simp only [List.concat_eq_append] at *
          simp only [List.length_append, List.length_singleton] at h2 hlen
          have hx : d.pl (ix S d.bot) = x := by
            have := I.at' L2.length x (by simp)
            rw [← this]; congr 2; omega
          refine ⟨L2, [x], ⟨hpos, ht0, by omega, fun i y hy => ?_, ?_, fun k hk hk8 => ?_⟩, .took _ _ rfl (.inl h0)⟩
          · have hi := (List.getElem?_eq_some_iff.1 hy).1
            exact I.at' i y (by rw [List.getElem?_append_left hi]; exact hy)
          · right; right; right; right; right; right; right; left
            refine ⟨by simp [goOn, set_th], by simp [goOn, set_th, set_bot, h1], by simp [goOn, set_th]; omega, by simp [goOn, set_th, hw], by simp [goOn, set_th, set_bot]; omega, by simp [goOn, set_bot, set_top]; omega, by omega, by simp [goOn, set_bot, set_pl, hx]⟩
          · refine (I.th k hk hk8).mono (set_ne _ _ (by omega)) rfl (fun y hy => ?_)
            rcases L2 with _ | ⟨z, L2⟩
            · simp at h2; omega
            · simpa using hy
  · rw [stp_8 S d 0 h0, if_pos (by omega), h1]
    exact ⟨L, [], I.turn rfl rfl (set_ne0 d _) (.inl ⟨.inl (by simp [fin, set_th, Rn.zero]), h4, rfl⟩), .popped _ _ rfl (.inl h0)⟩
  · rw [stp_8 S d 0 h0, if_neg (by omega)]
    refine ⟨L, [], I.turn rfl rfl (set_ne0 d _) ?_, .quiet _ _⟩
    right; right; right; right; right; right; right; right; right; left
    refine ⟨by simp [goOn, set_th], by simp [goOn, set_th, set_bot, h1], by simp [goOn, set_th, set_bot, h3], by simp [goOn, set_th, hw], h4, h5, rfl, fun x hx => ?_⟩
    subst hx
    have := I.at' 0 x rfl
    simp [goOn, set_th]
    simp at h4
    rw [h1, ← this]; congr 2; omega
  · rw [stp_9 S d 0 h0]
    by_cases hc : d.top = (d.th 0).t
    · rw [if_pos hc]
      have hl : L.length = 1 := by omega
      match L, hl with
      | [x], _ =>
        have hv := h5 x rfl
        refine ⟨[], [x], ⟨hpos, by simp [goOn, Dq.set, Dq.wtop]; omega, by simp, fun i y hy => by simp at hy, ?_, fun k hk hk8 => (I.th k hk hk8).up (set_ne _ _ (by omega)) rfl⟩, .took [] x rfl (.inr h0)⟩
        right; right; right; right; right; right; right; right; right; right
        refine ⟨by simp [goOn, set_th], by simp [goOn, set_th, set_bot, wtop_bot, h1], by simp [goOn, set_bot, set_top, Dq.wtop]; omega, rfl, .inl ⟨by simp [goOn, set_th], by simp [goOn, set_th, hv]⟩⟩
    · rw [if_neg hc]
      have hL : L = [] := List.eq_nil_of_length_eq_zero (by omega)
      subst hL
      refine ⟨[], [], I.turn rfl rfl (set_ne0 d _) ?_, .quiet _ _⟩
      right; right; right; right; right; right; right; right; right; right
      refine ⟨by simp [goOn, set_th], by simp [goOn, set_th, set_bot, h1], h3, rfl, .inr ⟨by simp [goOn, set_th], rfl⟩⟩
  · rw [stp_10 S d 0 h0]
    have hi : ∀ d' : Dq, d'.top = d.top → d'.pl = d.pl → (∀ k, 0 < k → d'.th k = d.th k) → (d'.th 0).pc = 0 → d'.bot = d.bot + 1 → Inv S d' [] [] := fun d' e1 e2 e3 e4 e5 => I.turn e1 e2 e3 (.inl ⟨.inl e4, by rw [e5, e1]; exact h2, rfl⟩)
    rcases h3 with ⟨hw, rfl⟩ | ⟨hw, rfl⟩
    · rw [if_pos hw]
      exact ⟨[], [], hi _ rfl rfl (fun k hk => set_ne _ _ (by omega)) (by simp [fin, set_th, Rn.zero]) (by simp [fin, set_bot, wbot_bot, h1]), .popped _ _ rfl (.inr h0)⟩
    · rw [if_neg (by rw [hw]; simp)]
      exact ⟨[], [], hi _ rfl rfl (fun k hk => set_ne _ _ (by omega)) (by simp [fin, set_th, Rn.zero]) (by simp [fin, set_bot, wbot_bot, h1]), .empty rfl h0⟩

theorem OwnI.bot_le {S : Nat} {d : Dq} {L K : List Int} (h : OwnI S d L K) : d.bot ≤ d.top + L.length ∧ -1 + d.top ≤ d.bot + 0 := by
  unfold OwnI at h
  omega

theorem inv_thief {S : Nat} {d : Dq} {L K : List Int} (I : Inv S d L K) {k : Nat} (hk : 0 < k) (hk8 : k < 8) (hp : 0 < (d.th k).pc) : ∃ L' K', Inv S (stp S d k).1 L' K' ∧ Ev S d k L K L' K' (stp S d k).2 := by
  have hpos := I.pos
  have hb := I.own.bot_le
  rcases I.th k hk hk8 with (h0 | h0) | ⟨h0, h1, h2⟩ | ⟨h0, h1, h2, h3⟩ | ⟨h0, h1, h2, h3⟩
  · omega
  · rw [stp_11 S d k h0]
    refine ⟨L, K, I.thief hk _ ?_, .quiet _ _⟩
    right; left
    simp [set_th, set_top]
    exact I.t0
  · rw [stp_12 S d k h0]
    by_cases hc : d.bot ≤ (d.th k).t
    · rw [if_pos hc]
      exact ⟨L, K, I.thief hk _ (.inl (.inl (by simp [set_th, Rn.zero]))), .missed _ _ 8 (by omega) (.inl rfl)⟩
    · rw [if_neg hc]
      refine ⟨L, K, I.thief hk _ ?_, .quiet _ _⟩
      right; right; left
      rw [set_th, set_top]
      exact ⟨rfl, h1, h2, fun e => by dsimp only at e; omega⟩
  · rw [stp_13 S d k h0]
    refine ⟨L, K, I.thief hk _ ?_, .quiet _ _⟩
    right; right; right
    rw [set_th, set_top]
    refine ⟨rfl, h1, h2, fun e => ?_⟩
    dsimp only at e ⊢
    have := h3 e
    rcases L with _ | ⟨x, L⟩
    · simp at this
    · have := I.at' 0 x rfl
      simp at this
      rw [e, this]; rfl
  · rw [stp_14 S d k h0]
    by_cases hc : d.top = (d.th k).t
    · rw [if_pos hc]
      have hh := h3 hc.symm
      rcases L with _ | ⟨x, L⟩
      · simp at hh
      · simp at hh
        rw [← hh]
        have hlen := I.len
        simp at hlen
        refine ⟨L, K, ⟨hpos, by have := I.t0; simp [fin, Dq.set, Dq.wtop]; omega, by omega, fun i y hy => ?_, ?_, fun j hj hj8 => ?_⟩, .stole _ _ _ (by omega)⟩
        · have := I.at' (i + 1) y (by simpa using hy)
          simp only [fin, Dq.set, Dq.wtop]
          rw [← this]; congr 2; omega
        · have hO := I.own
          have e0 : ((fin (d.wtop (d.top + 1)) k 2 x 0).1).th 0 = d.th 0 := set_ne _ _ (by omega)
          have e1 : ((fin (d.wtop (d.top + 1)) k 2 x 0).1).top = d.top + 1 := rfl
          have e2 : ((fin (d.wtop (d.top + 1)) k 2 x 0).1).bot = d.bot := rfl
          have e3 : ((fin (d.wtop (d.top + 1)) k 2 x 0).1).pl = d.pl := rfl
          generalize (fin (d.wtop (d.top + 1)) k 2 x 0).1 = d' at e0 e1 e2 e3
          unfold OwnI at *
          rw [e0, e1, e2, e3]
          simp only [List.length_cons] at hO
          rcases hO with ⟨h0, h1, h2⟩ | ⟨h0, h1, h2, hw⟩ | ⟨h0, h1, h2, h3⟩ | ⟨h0, h1, h2, h3, h4⟩ | ⟨h0, h1, h2, h3, h4, h5⟩ | ⟨h0, h1, h2, h3, hw⟩ | ⟨h0, h1, h2, h3, hw⟩ | ⟨h0, h1, h2, hw, h3, h4, h5, h6⟩ | ⟨h0, h1, h2, hw, h3, h4, h5, h6⟩ | ⟨h0, h1, h2, hw, h3, h4, h5, h6⟩ | ⟨h0, h1, h2, h3, h4⟩
          · exact .inl ⟨h0, by omega, h2⟩
          · exact .inr (.inl ⟨h0, by omega, h2, hw⟩)
          · exact .inr (.inr (.inl ⟨h0, h1, by omega, h3⟩))
          · exact .inr (.inr (.inr (.inl ⟨h0, h1, by omega, by omega, h4⟩)))
          · exact .inr (.inr (.inr (.inr (.inl ⟨h0, h1, by omega, by omega, h4, h5⟩))))
          · exact .inr (.inr (.inr (.inr (.inr (.inl ⟨h0, h1, by omega, h3, hw⟩)))))
          · exact .inr (.inr (.inr (.inr (.inr (.inr (.inl ⟨h0, h1, by omega, h3, hw⟩))))))
          · exact .inr (.inr (.inr (.inr (.inr (.inr (.inr (.inl ⟨h0, h1, h2, hw, h3, by omega, by omega, h6⟩)))))))
          · exact .inr (.inr (.inr (.inr (.inr (.inr (.inr (.inr (.inl ⟨h0, h1, h2, hw, h3, by omega, by omega, h6⟩))))))))
          · exact .inr (.inr (.inr (.inr (.inr (.inr (.inr (.inr (.inr (.inl ⟨h0, h1, h2, hw, by omega, by omega, h5, fun x hx => by subst hx; simp at h4⟩)))))))))
          · simp at h3
        · by_cases e : j = k
          · subst e
            exact .inl (.inl (by simp [fin, set_th, Rn.zero]))
          · exact (I.th j hj hj8).up (set_ne _ _ e) rfl
    · rw [if_neg hc]
      exact ⟨L, K, I.thief hk _ (.inl (.inl (by simp [set_th, Rn.zero]))), .missed _ _ 17 (by omega) (.inr rfl)⟩

theorem inv_step {S : Nat} {d : Dq} {L K : List Int} (I : Inv S d L K) {k : Nat} (hk8 : k < 8) (hp : 0 < (d.th k).pc) : ∃ L' K', Inv S (stp S d k).1 L' K' ∧ Ev S d k L K L' K' (stp S d k).2 := by
  rcases Nat.eq_zero_or_pos k with rfl | hk
  · exact inv_own I hp
  · exact inv_thief I hk hk8 hp

/-- an operation begins -/
theorem inv_begin {S : Nat} {d : Dq} {L K : List Int} (I : Inv S d L K) {k : Nat} (hk8 : k < 8) (hp : (d.th k).pc = 0) (p : Nat) (v : Int) (hpk : (k = 0 ∧ (p = 1 ∨ p = 5)) ∨ (0 < k ∧ p = 11)) : Inv S (d.set k ⟨p, v, 0, 0, false⟩) L K := by
  rcases hpk with ⟨rfl, h⟩ | ⟨hk, rfl⟩
  · refine I.turn rfl rfl (set_ne0 d _) ?_
    have hO := I.own
    unfold OwnI at hO
    have h1 : d.bot = d.top + L.length ∧ K = [] := by
      rcases hO with ⟨_, h1, h2⟩ | hO
      · exact ⟨h1, h2⟩
      · omega
    rcases h with rfl | rfl
    · exact .inl ⟨.inr (by rw [set_th]), h1.1, h1.2⟩
    · exact .inr (.inl ⟨by rw [set_th], h1.1, h1.2, by rw [set_th]⟩)
  · exact I.thief hk _ (.inl (.inr (by rw [set_th])))

theorem stp_th0 (S : Nat) (d : Dq) {k : Nat} (hk : k ≠ 0) (h1 : 0 < (d.th k).pc) (h2 : (d.th k).pc ≤ 14) : (stp S d k).1.th 0 = d.th 0 := by
  obtain ⟨p, hp⟩ : ∃ p, (d.th k).pc = p := ⟨_, rfl⟩
  rw [hp] at h1 h2
  have hpc : p = 1 ∨ p = 2 ∨ p = 3 ∨ p = 4 ∨ p = 5 ∨ p = 6 ∨ p = 7 ∨ p = 8 ∨ p = 9 ∨ p = 10 ∨ p = 11 ∨ p = 12 ∨ p = 13 ∨ p = 14 := by omega
  have h0 : ∀ (d' : Dq) (r : Rn), (d'.set k r).th 0 = d'.th 0 := fun d' r => set_ne d' r (by omega)
  rcases hpc with rfl | rfl | rfl | rfl | rfl | rfl | rfl | rfl | rfl | rfl | rfl | rfl | rfl | rfl
  · rw [stp_1 S d k hp]; exact h0 _ _
  · rw [stp_2 S d k hp]; split <;> exact h0 _ _
  · rw [stp_3 S d k hp]; exact h0 _ _
  · rw [stp_4 S d k hp]; exact h0 _ _
  · rw [stp_5 S d k hp]; exact h0 _ _
  · rw [stp_6 S d k hp]; exact h0 _ _
  · rw [stp_7 S d k hp]; split <;> exact h0 _ _
  · rw [stp_8 S d k hp]; split <;> exact h0 _ _
  · rw [stp_9 S d k hp]; split <;> exact h0 _ _
  · rw [stp_10 S d k hp]; split <;> exact h0 _ _
  · rw [stp_11 S d k hp]; exact h0 _ _
  · rw [stp_12 S d k hp]; split <;> exact h0 _ _
  · rw [stp_13 S d k hp]; exact h0 _ _
  · rw [stp_14 S d k hp]; split <;> exact h0 _ _

/-- the owner's next access, and what it is to push -/
theorem stp_pc0 (S : Nat) (d : Dq) (h1 : 0 < (d.th 0).pc) (h2 : (d.th 0).pc ≤ 10) :
    (((stp S d 0).1.th 0).pc = 0 ∧ (stp S d 0).2.over = true) ∨
    ((stp S d 0).2 = Dn.none ∧ (((d.th 0).pc < ((stp S d 0).1.th 0).pc ∧ ((stp S d 0).1.th 0).pc ≤ (d.th 0).pc + 3 ∧ (((stp S d 0).1.th 0).pc ≤ 4 ↔ (d.th 0).pc ≤ 4) ∧ ((stp S d 0).1.th 0).pc ≤ 10) ∧ ((d.th 0).pc ≤ 4 → ((stp S d 0).1.th 0).v = (d.th 0).v))) := by
  obtain ⟨p, hp⟩ : ∃ p, (d.th 0).pc = p := ⟨_, rfl⟩
  rw [hp] at h1 h2 ⊢
  have hpc : p = 1 ∨ p = 2 ∨ p = 3 ∨ p = 4 ∨ p = 5 ∨ p = 6 ∨ p = 7 ∨ p = 8 ∨ p = 9 ∨ p = 10 := by omega
  have hg : ∀ (d' : Dq) (r : Rn) (c : Nat), ((goOn d' 0 r c).1.th 0).pc = c := fun d' r c => by simp [goOn, set_th]
  have hv : ∀ (d' : Dq) (r : Rn) (c : Nat), ((goOn d' 0 r c).1.th 0).v = r.v := fun d' r c => by simp [goOn, set_th]
  have hf : ∀ (d' : Dq) (a b c : Int), ((fin d' 0 a b c).1.th 0).pc = 0 := fun d' a b c => by simp [fin, set_th, Rn.zero]
  rcases hpc with rfl | rfl | rfl | rfl | rfl | rfl | rfl | rfl | rfl | rfl
  · rw [stp_1 S d 0 hp, hg, hv]; exact .inr ⟨rfl, by omega, fun _ => rfl⟩
  · rw [stp_2 S d 0 hp]; split
    · rw [hf]; exact .inl ⟨rfl, rfl⟩
    · rw [hg, hv]; exact .inr ⟨rfl, by omega, fun _ => rfl⟩
  · rw [stp_3 S d 0 hp, hg, hv]; exact .inr ⟨rfl, by omega, fun _ => rfl⟩
  · rw [stp_4 S d 0 hp, hf]; exact .inl ⟨rfl, rfl⟩
  · rw [stp_5 S d 0 hp, hg, hv]; exact .inr ⟨rfl, by omega, fun _ => rfl⟩
  · rw [stp_6 S d 0 hp, hg, hv]; exact .inr ⟨rfl, by omega, fun _ => rfl⟩
  · rw [stp_7 S d 0 hp]; split
    · rw [hg, hv]; exact .inr ⟨rfl, by omega, fun h => by omega⟩
    · rw [hg, hv]; exact .inr ⟨rfl, by omega, fun h => by omega⟩
  · rw [stp_8 S d 0 hp]; split
    · rw [hf]; exact .inl ⟨rfl, rfl⟩
    · rw [hg, hv]; exact .inr ⟨rfl, by omega, fun h => by omega⟩
  · rw [stp_9 S d 0 hp]; split
    · rw [hg, hv]; exact .inr ⟨rfl, by omega, fun h => by omega⟩
    · rw [hg, hv]; exact .inr ⟨rfl, by omega, fun h => by omega⟩
  · rw [stp_10 S d 0 hp]; split
    · rw [hf]; exact .inl ⟨rfl, rfl⟩
    · rw [hf]; exact .inl ⟨rfl, rfl⟩

/-- the owner pushes -/
def Pu (d : Dq) : Prop := 0 < (d.th 0).pc ∧ (d.th 0).pc ≤ 4

/-- the numbers: those in the list, the elder first, then the one that a Pop has; all behind the last one that was stolen; n is the last one that a Push was begun with -/
structure Vals (d : Dq) (L K : List Int) (last n : Int) : Prop where
  sort : (L ++ K).Pairwise (· < ·)
  low : ∀ x ∈ L ++ K, last < x
  high : ∀ x ∈ L ++ K, x ≤ n
  push : Pu d → (d.th 0).v = n ∧ ∀ x ∈ L ++ K, x < n
  lastn : last ≤ n ∧ (Pu d → last < n)

theorem vals_new {S : Nat} : Vals ⟨0, 0, fun _ => 0, fun _ => Rn.zero⟩ [] [] 0 0 :=
  ⟨List.Pairwise.nil, fun x h => by simp at h, fun x h => by simp at h, fun h => by simp [Pu, Rn.zero] at h, Int.le_refl _, fun h => by simp [Pu, Rn.zero] at h⟩

/-- what the law keeps as the last one that was stolen -/
def lastOf (last : Int) (y : Dn) : Int := if y.over = true ∧ y.err = 0 ∧ y.op = 2 then y.v else last

theorem vals_step {S : Nat} {d : Dq} {L K L' K' : List Int} {k : Nat} {last n : Int} {y : Dn} (V : Vals d L K last n) (hE : Ev S d k L K L' K' y) (hpu : Pu (stp S d k).1 → Pu d ∧ ((stp S d k).1.th 0).v = (d.th 0).v)
    (hno : (d.th 0).pc = 4 → k = 0 → ¬ Pu (stp S d k).1) : Vals (stp S d k).1 L' K' (lastOf last y) n := by
  obtain ⟨v1, v2, v3, v4, v5⟩ := V
  have hu : ∀ {X : List Int}, (∀ x ∈ X, x ∈ L ++ K) → (Pu (stp S d k).1 → ((stp S d k).1.th 0).v = n ∧ ∀ x ∈ X, x < n) := fun hX h => by
    obtain ⟨h1, h2⟩ := hpu h
    obtain ⟨h3, h4⟩ := v4 h1
    exact ⟨by rw [h2, h3], fun x hx => h4 x (hX x hx)⟩
  have hl : last ≤ n ∧ (Pu (stp S d k).1 → last < n) := ⟨v5.1, fun h => v5.2 (hpu h).1⟩
  cases hE with
  | quiet => exact ⟨v1, v2, v3, hu (fun _ h => h), hl⟩
  | pushed _ v hk hp hv =>
    obtain ⟨h3, h4⟩ := v4 ⟨by omega, by omega⟩
    have hn := hno hp hk
    simp only [List.append_nil] at v1 v2 v3 h4
    have hvn : v = n := by rw [← hv]; exact h3
    subst hvn
    refine ⟨?_, ?_, ?_, fun h => (hn h).elim, hl.1, fun h => (hn h).elim⟩
    · rw [List.append_nil, List.pairwise_append]
      exact ⟨v1, List.pairwise_singleton _ _, fun a ha b hb => by simp at hb; subst hb; exact h4 a ha⟩
    · intro x hx
      simp at hx
      rcases hx with hx | rfl
      · exact v2 x hx
      · exact v5.2 ⟨by omega, by omega⟩
    · intro x hx
      simp at hx
      rcases hx with hx | rfl
      · exact v3 x hx
      · exact Int.le_refl _
  | full => exact ⟨v1, v2, v3, hu (fun _ h => h), hl⟩
  | took _ x => simp only [List.append_nil] at v1 v2 v3 hu; exact ⟨v1, v2, v3, hu (fun _ h => h), hl⟩
  | popped _ v =>
    exact ⟨by rw [List.append_nil]; exact (List.pairwise_append.1 v1).1, fun x hx => v2 x (by simp at hx; simp [hx]), fun x hx => v3 x (by simp at hx; simp [hx]), hu (fun x hx => by simp at hx; simp [hx]), hl⟩
  | empty => exact ⟨v1, v2, v3, hu (fun _ h => h), hl⟩
  | stole v _ _ hk =>
    simp only [List.cons_append] at v1 v2 v3 hu
    obtain ⟨h1, h2⟩ := List.pairwise_cons.1 v1
    refine ⟨h2, h1, fun x hx => v3 x (by simp [hx]), hu (fun x hx => by simp [hx]), v3 v (by simp), fun h => ?_⟩
    exact (hu (X := [v]) (fun x hx => by simp at hx; simp [hx]) h).2 v (by simp)
  | missed _ _ e hk he =>
    have : lastOf last ⟨true, 2, 0, e⟩ = last := by unfold lastOf; rw [if_neg (fun h => by have := h.2.1; simp at this; omega)]
    rw [this]
    exact ⟨v1, v2, v3, hu (fun _ h => h), hl⟩

/-- what a step does to a Push under way -/
theorem pu_step {S : Nat} {d : Dq} {L K : List Int} (I : Inv S d L K) {k : Nat} (hk8 : k < 8) (hp : 0 < (d.th k).pc) :
    (Pu (stp S d k).1 → Pu d ∧ ((stp S d k).1.th 0).v = (d.th 0).v) ∧ ((d.th 0).pc = 4 → k = 0 → ¬ Pu (stp S d k).1) := by
  rcases Nat.eq_zero_or_pos k with rfl | hk
  · have hO := I.own
    have h10 : (d.th 0).pc ≤ 10 := by unfold OwnI at hO; omega
    rcases stp_pc0 S d hp h10 with ⟨h1, _⟩ | ⟨_, h1, h2⟩
    · exact ⟨fun h => by unfold Pu at h; omega, fun _ _ h => by unfold Pu at h; omega⟩
    · exact ⟨fun h => by unfold Pu at *; exact ⟨by omega, h2 (by omega)⟩, fun _ _ h => by unfold Pu at h; omega⟩
  · have hT := I.th k hk hk8
    have h14 : (d.th k).pc ≤ 14 := by unfold ThI at hT; omega
    have e := stp_th0 S d (k := k) (by omega) hp h14
    unfold Pu
    rw [e]
    exact ⟨fun h => ⟨h, rfl⟩, fun _ h => by omega⟩

/-- a thread begins anew, if it has nothing under way; what a Push was last begun with -/
def nxt (d : Dq) (k : Nat) (p : Bool) (n : Int) : Dq × Int :=
  if 0 < (d.th k).pc then (d, n) else if k = 0 then (if p = true then (d.set 0 ⟨1, n + 1, 0, 0, false⟩, n + 1) else (d.set 0 ⟨5, n + 1, 0, 0, false⟩, n)) else (d.set k ⟨11, n + 1, 0, 0, false⟩, n)

theorem nxt_inv {S : Nat} {d : Dq} {L K : List Int} (I : Inv S d L K) {k : Nat} (hk8 : k < 8) (p : Bool) (n : Int) :
    Inv S (nxt d k p n).1 L K ∧ 0 < ((nxt d k p n).1.th k).pc ∧ (nxt d k p n).1.top = d.top ∧ (∀ j, j ≠ k → (nxt d k p n).1.th j = d.th j) := by
  unfold nxt
  by_cases h : 0 < (d.th k).pc
  · rw [if_pos h]; exact ⟨I, h, rfl, fun _ _ => rfl⟩
  · have h0 : (d.th k).pc = 0 := by omega
    rw [if_neg h]
    by_cases hk : k = 0
    · subst hk
      rw [if_pos rfl]
      cases p with
      | true => exact ⟨inv_begin I hk8 h0 1 _ (.inl ⟨rfl, .inl rfl⟩), by simp [set_th], rfl, fun j hj => set_ne _ _ hj⟩
      | false => exact ⟨inv_begin I hk8 h0 5 _ (.inl ⟨rfl, .inr rfl⟩), by simp [set_th], rfl, fun j hj => set_ne _ _ hj⟩
    · rw [if_neg hk]
      exact ⟨inv_begin I hk8 h0 11 _ (.inr ⟨by omega, rfl⟩), by simp [set_th], rfl, fun j hj => set_ne _ _ hj⟩

theorem nxt_vals {d : Dq} {L K : List Int} {last n : Int} (V : Vals d L K last n) (k : Nat) (p : Bool) : Vals (nxt d k p n).1 L K last (nxt d k p n).2 := by
  obtain ⟨v1, v2, v3, v4, v5⟩ := V
  unfold nxt
  by_cases h : 0 < (d.th k).pc
  · rw [if_pos h]; exact ⟨v1, v2, v3, v4, v5⟩
  · rw [if_neg h]
    by_cases hk : k = 0
    · subst hk
      rw [if_pos rfl]
      cases p with
      | true =>
        refine ⟨v1, v2, fun x hx => ?_, fun _ => ⟨by simp [set_th], fun x hx => ?_⟩, ?_, fun _ => ?_⟩
        · have := v3 x hx; show x ≤ n + 1; omega
        · have := v3 x hx; show x < n + 1; omega
        · show last ≤ n + 1; omega
        · show last < n + 1; omega
      | false => exact ⟨v1, v2, v3, fun h => by simp [Pu, set_th] at h, v5.1, fun h => by simp [Pu, set_th] at h⟩
    · rw [if_neg hk]
      have e : (d.set k ⟨11, n + 1, 0, 0, false⟩).th 0 = d.th 0 := set_ne _ _ (by omega)
      refine ⟨v1, v2, v3, fun h => ?_, v5.1, fun h => ?_⟩
      · unfold Pu at *; rw [e] at *; exact v4 h
      · unfold Pu at *; rw [e] at h; exact v5.2 h

end Go.Proofs.Ytingpopcdihclaa
