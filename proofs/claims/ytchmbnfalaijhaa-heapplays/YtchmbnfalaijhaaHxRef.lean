/-
  The document's heap: its memory, and what its calls do to it.
-/
import Derived.Test.YtchmbnfalaijhaaHpModel
import Derived.Deep.QuietTactic
import Derived.BigQuiet
namespace Go.Proofs.Ytchmbnfalaijhaa
open Go.RowKit
set_option linter.unusedVariables false
set_option maxRecDepth 8192

/-- the document's heap at block b, its list's row from lo on: n tickets so far, the things M -/
def IsM (w : World) (lo b n : Nat) (M : List (En Int)) : Prop :=
  lo ≤ b ∧ ∃ v vs, w.heap[b]? = some (.cells #[v, .int .i64 (n : Int)] 49 (0, 0)) ∧ w.ownsRow lo 94 3 v M.length vs ∧ Says vs M ∧ vs.length = M.length * 3

/-- a block of such a heap's -/
def MK (w : World) (k : Nat) : Prop := (∃ cs, w.heap[k]? = some (.cells cs 94 (0, 0))) ∨ ∃ cs, w.heap[k]? = some (.cells cs 49 (0, 0))

abbrev FrM (lo : Nat) (w w' : World) := Fr (fun k => lo ≤ k ∧ MK w k) w w'

theorem owns_at {w : World} {lo : Nat} {e : TypeId} {v : Value} {L : List (En Int)} {vs : List Value} (h : w.ownsRow lo e 3 v L.length vs) (hs : Says vs L) :
    ∃ a c, v = .slice a L.length c ∧ ∀ (i : Nat) (x : En Int), L[i]? = some x → ∃ g, a = some ⟨g, 0, none⟩ ∧ lo ≤ g ∧ g < w.heap.size ∧ w.cell? ⟨g, i * 3, none⟩ = some (.int .i64 x.t) ∧ w.cell? ⟨g, i * 3 + 1, none⟩ = some (.int .i64 x.k) ∧ w.cell? ⟨g, i * 3 + 2, none⟩ = some (.int .i64 x.x) := by
  rcases h.2 with ⟨rfl, h0⟩ | ⟨g, cap, cur, rfl, hb, hg, rest⟩
  · refine ⟨none, 0, by rw [h0], fun i x hx => ?_⟩
    have := (List.getElem?_eq_some_iff.1 hx).1
    omega
  · refine ⟨_, _, rfl, fun i x hx => ⟨g, rfl, hb, lt_of_blk hg, ?_⟩⟩
    obtain ⟨b1, b2, b3⟩ := hs i x hx
    have up : ∀ j u, vs[j]? = some u → w.cell? ⟨g, j, none⟩ = some u := fun j u hj => by
      have := World.ownsRow.cells h (g := g) rfl j u hj
      rw [Addr.add_lit, Nat.zero_add] at this
      exact this
    exact ⟨up _ _ b1, up _ _ b2, up _ _ b3⟩

theorem IsM.fr {P : Nat → Prop} {w w' : World} {lo b n : Nat} {M : List (En Int)} (h : IsM w lo b n M) (hf : Fr P w w') (hP : ∀ k, lo ≤ k → MK w k → ¬ P k) : IsM w' lo b n M := by
  obtain ⟨h0, v, vs, h1, h2, h3, h4⟩ := h
  refine ⟨h0, v, vs, hf.blk h1 (hP b h0 (.inr ⟨_, h1⟩)), owns_fr h2 hf (fun k hk => ?_), h3, h4⟩
  rcases h2.2 with ⟨rfl, _⟩ | ⟨g, cap, cur, rfl, hb, hg, rest⟩
  · cases hk
  · cases hk
    exact hP _ hb (.inl ⟨_, hg⟩)

theorem IsM.up {w w' : World} {lo b n : Nat} {M : List (En Int)} (h : IsM w lo b n M) (hf : Fr (fun _ => False) w w') : IsM w' lo b n M := h.fr hf (fun _ _ _ h => h)

/-- the first of the least ones among the first k -/
def Lm (M : List (En Int)) (k : Nat) (at' : Int) : Prop :=
  (k = 0 ∧ at' = -1) ∨ ∃ (i : Nat) (d : En Int), at' = (i : Int) ∧ i < k ∧ M[i]? = some d ∧ ∀ (j : Nat) (c : En Int), j < k → M[j]? = some c → d.t ≤ c.t ∧ (j < i → d.t < c.t)

theorem Lm.le {M : List (En Int)} {e : En Int} (hp : M.Pairwise (fun a b => a.k < b.k)) (he : Le M e) {at' : Int} (h : Lm M M.length at') : ∃ i : Nat, at' = (i : Int) ∧ M[i]? = some e := by
  obtain ⟨j, hj⟩ := List.getElem?_of_mem he.1
  have hjl := (List.getElem?_eq_some_iff.1 hj).1
  rcases h with ⟨h0, _⟩ | ⟨i, d, rfl, hi, hd, hall⟩
  · omega
  · refine ⟨i, rfl, ?_⟩
    have h1 := hall j e hjl hj
    have h2 := he.2 d (List.mem_of_getElem? hd)
    by_cases hij : i = j
    · rw [hij]; exact hj
    · exfalso
      have hk : ∀ (a b : Nat) (x y : En Int), a < b → M[a]? = some x → M[b]? = some y → x.k < y.k := fun a b x y hab hx hy => by
        obtain ⟨ha, rfl⟩ := List.getElem?_eq_some_iff.1 hx
        obtain ⟨hb, rfl⟩ := List.getElem?_eq_some_iff.1 hy
        exact List.pairwise_iff_getElem.1 hp a b ha hb hab
      rcases Nat.lt_or_gt_of_ne hij with h | h
      · have := hk i j d e h hd hj
        unfold lt3 at h2
        omega
      · have := h1.2 h
        unfold lt3 at h2
        omega

theorem Lm.first {M : List (En Int)} {x : En Int} (hx : M[0]? = some x) : Lm M 1 ((0 : Nat) : Int) := by
  refine .inr ⟨0, x, rfl, by omega, hx, fun j c hj hc => ?_⟩
  obtain rfl : j = 0 := by omega
  rw [hx] at hc
  cases hc
  exact ⟨Int.le_refl _, fun h => by omega⟩

theorem Lm.next {M : List (En Int)} {k i : Nat} {d x : En Int} (hall : ∀ (j : Nat) (c : En Int), j < k → M[j]? = some c → d.t ≤ c.t ∧ (j < i → d.t < c.t)) (hx : M[k]? = some x) (h : x.t < d.t) : Lm M (k + 1) (k : Int) := by
  refine .inr ⟨k, x, rfl, by omega, hx, fun j c hj hc => ?_⟩
  by_cases e : j = k
  · subst e; rw [hx] at hc; cases hc; exact ⟨Int.le_refl _, fun h => by omega⟩
  · have := (hall j c (by omega) hc).1
    exact ⟨by omega, fun _ => by omega⟩

theorem Lm.same {M : List (En Int)} {k i : Nat} {d x : En Int} (hi : i < k) (hd : M[i]? = some d) (hall : ∀ (j : Nat) (c : En Int), j < k → M[j]? = some c → d.t ≤ c.t ∧ (j < i → d.t < c.t)) (hx : M[k]? = some x) (h : ¬ x.t < d.t) : Lm M (k + 1) (i : Int) := by
  refine .inr ⟨i, d, rfl, by omega, hd, fun j c hj hc => ?_⟩
  by_cases e : j = k
  · subst e; rw [hx] at hc; cases hc; exact ⟨by omega, fun h => by omega⟩
  · exact hall j c (by omega) hc

set_option maxHeartbeats 4000000 in
theorem mleast_calls {w : World} {lo b n : Nat} {M : List (En Int)} (h : IsM w lo b n M) (hn : M.length ≤ 4194304) :
    Calls Try.prog 55 #[.pointer (some ⟨b, 0, none⟩)] w fun e w' => (∃ i, e = .returned (.int .i64 i) ∧ Lm M M.length i) ∧ Fr (fun _ => False) w w' := by
  obtain ⟨hlo, v, vs, h1, h2, h3, h4⟩ := h
  obtain ⟨a, c, rfl, hat⟩ := owns_at h2 h3
  have HAT := hide hat
  have HB := hide h1
  clear hat h1 h2 h3 h4
  go_enter Try.func55, Try.ntmps55
  go_wp2
  go_loopw [3, 4] (fun m i wr => ∃ (k : Nat) (m' : Int), i = .int .i64 k ∧ m = .int .i64 m' ∧ k ≤ M.length ∧ Lm M k m' ∧ Fr (fun _ => False) w wr) (fun _ i _ => M.length - (intOf i).toNat)
  case atStart => exact ⟨0, -1, rfl, rfl, by omega, .inl ⟨rfl, rfl⟩, Fr.refl _ _⟩
  case round =>
    obtain ⟨k, m', rfl, rfl, hk, hL, hF⟩ := hrel
    have hBr := hF.blk (unhide HB) (fun h => h)
    have c0 := cell_at hBr 0
    simp at c0
    by_cases hlt : k < M.length
    · have hlt' : (k : Int) < (M.length : Int) := by omega
      obtain ⟨x, hx⟩ := get_some hlt
      obtain ⟨g, rfl, _, hgl, x1, _, _⟩ := unhide HAT k x hx
      have up : ∀ (j : Nat) (u : Value), w.cell? ⟨g, j, none⟩ = some u → wr.cell? ⟨g, j, none⟩ = some u := fun j u hu => cell_fr hF (fun h => h) hu
      have y1 := up _ _ x1
      rcases hL with ⟨rfl, rfl⟩ | ⟨i, d, rfl, hi, hd, hall⟩
      · have hneg : ((-1 : Int) < 0) := by omega
        have hd0 : decide ((-1 : Int) < 0) = true := by decide
        go_wp2_with fail
        go_quiet (fail)
        go_wp2
        exact ⟨⟨1, 0, by go_num, rfl, by omega, Lm.first hx, hF.drewN _⟩, by simp [intOf]; omega⟩
      · obtain ⟨g2, e2, _, _, z1, _, _⟩ := unhide HAT i d hd
        cases e2
        have y2 := up _ _ z1
        have hi' : (i : Int) < (M.length : Int) := by omega
        have hneg : ¬ (i : Int) < 0 := by omega
        have hd0 : decide ((i : Int) < 0) = false := by simp
        by_cases hxd : x.t < d.t
        · have hst := Lm.next hall hx hxd
          clear hall
          go_wp2_with fail
          go_quiet (fail)
          go_wp2
          exact ⟨⟨k + 1, k, by go_num, rfl, by omega, hst, hF.drewN _⟩, by simp [intOf]; omega⟩
        · have hst := Lm.same hi hd hall hx hxd
          clear hall
          go_wp2_with fail
          go_quiet (fail)
          go_wp2
          exact ⟨⟨k + 1, i, by go_num, rfl, by omega, hst, hF.drewN _⟩, by simp [intOf]; omega⟩
    · have hlt' : ¬ (k : Int) < (M.length : Int) := by omega
      obtain rfl : k = M.length := by omega
      go_wp2
      go_ret
      exact ⟨⟨m', rfl, hL⟩, hF⟩

end Go.Proofs.Ytchmbnfalaijhaa
