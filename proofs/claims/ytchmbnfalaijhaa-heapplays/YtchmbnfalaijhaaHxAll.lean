/-
  The document's heap: All, its things in their order.
-/
import Derived.Test.YtchmbnfalaijhaaHxCalls
import Derived.Test.YtchmbnfalaijhaaHpGiven
import Derived.Deep.DeepCutAuto
namespace Go.Proofs.Ytchmbnfalaijhaa
open Go.RowKit
set_option linter.unusedVariables false
set_option maxRecDepth 8192

theorem del_perm : ∀ {M : List (En Int)}, M.Pairwise (fun a b => a.k < b.k) → ∀ e ∈ M, M.Perm (e :: del M e.k)
  | [], _, e, he => by cases he
  | a :: M, h, e, he => by
    rw [List.pairwise_cons] at h
    rcases List.mem_cons.1 he with rfl | he
    · have h1 : del (e :: M) e.k = M := by
        unfold del
        rw [List.filter_cons, if_neg (by simp)]
        exact List.filter_eq_self.2 (fun x hx => by have := h.1 x hx; simp; omega)
      rw [h1]
    · have hk := h.1 e he
      have h1 : del (a :: M) e.k = a :: del M e.k := by
        unfold del
        rw [List.filter_cons, if_pos (by simp; omega)]
      rw [h1]
      exact (List.Perm.cons a (del_perm h.2 e he)).trans (List.Perm.swap ..)

/-- what came out so far, and what is left -/
structure Out (M O R : List (En Int)) : Prop where
  perm : (O ++ R).Perm M
  ord : O.Pairwise (fun a b => lt3 a b)
  low : ∀ o ∈ O, ∀ r ∈ R, lt3 o r
  keys : R.Pairwise (fun a b => a.k < b.k)

theorem Out.next {M O R : List (En Int)} (h : Out M O R) {e : En Int} (he : Le R e) : Out M (O ++ [e]) (del R e.k) := by
  have hd : ∀ r ∈ del R e.k, r ∈ R ∧ r.k ≠ e.k := fun r hr => by
    unfold del at hr
    rw [List.mem_filter] at hr
    exact ⟨hr.1, by simpa using hr.2⟩
  refine ⟨?_, ?_, ?_, h.keys.filter _⟩
  · rw [List.append_assoc]
    exact (((del_perm h.keys e he.1).symm).append_left O).trans h.perm
  · refine List.pairwise_append.2 ⟨h.ord, List.pairwise_singleton .., fun a ha b hb => ?_⟩
    rw [List.mem_singleton] at hb
    subst hb
    exact h.low a ha _ he.1
  · intro o ho r hr
    obtain ⟨h1, h2⟩ := hd r hr
    rcases List.mem_append.1 ho with ho | ho
    · exact h.low o ho r h1
    · rw [List.mem_singleton] at ho
      subst ho
      have := he.2 r h1
      unfold lt3 at this ⊢
      omega

theorem Out.len {M O R : List (En Int)} (h : Out M O R) : O.length + R.length = M.length := by
  rw [← List.length_append]; exact h.perm.length_eq

def slLen : Value → Nat
  | .slice _ n _ => n
  | _ => 0

/-- where All stands once its own copy is there -/
def MidM (w0 : World) (M : List (En Int)) (p : Value) (w : World) : Prop := ∃ b, p = .pointer (some ⟨b, 0, none⟩) ∧ IsM w w0.heap.size b 0 M ∧ Fr (fun _ => False) w0 w

theorem vs_one {vs : List Value} {L : List (En Int)} (hsays : Says vs L) (hlen : vs.length = L.length * 3) : ∀ u ∈ vs, u.oneCell' = true := by
  intro u hu
  obtain ⟨j, hj⟩ := List.getElem?_of_mem hu
  have hjl := (List.getElem?_eq_some_iff.1 hj).1
  obtain ⟨e, he⟩ := get_some (L := L) (i := j / 3) (by omega)
  obtain ⟨b1, b2, b3⟩ := hsays _ e he
  rcases (show j % 3 = 0 ∨ j % 3 = 1 ∨ j % 3 = 2 by omega) with hm | hm | hm
  · rw [show j = j / 3 * 3 by omega, b1] at hj; cases hj; rfl
  · rw [show j = j / 3 * 3 + 1 by omega, b2] at hj; cases hj; rfl
  · rw [show j = j / 3 * 3 + 2 by omega, b3] at hj; cases hj; rfl

theorem nil_owns (w : World) (lo : Nat) (e : TypeId) : w.ownsRow lo e 3 (.slice none 0 0) 0 [] := ⟨rfl, .inl ⟨rfl, rfl⟩⟩

set_option maxHeartbeats 8000000 in
theorem mall_calls {w : World} {lo b n : Nat} {M : List (En Int)} (h : IsM w lo b n M) (hm : M.length ≤ 4194304) (hp : M.Pairwise (fun a b => a.k < b.k)) :
    Calls Try.prog 35 #[.pointer (some ⟨b, 0, none⟩)] w fun r w' => (∃ a c S, r = .returned (.slice a S.length c) ∧ S.Perm M ∧ S.Pairwise (fun a b => lt3 a b) ∧ S.length ≤ c ∧ ThA w'.heap.size w' a S.length S) ∧ Fr (fun _ => False) w w' := by
  obtain ⟨hlo, v, vs, h1, h2, h3, h4⟩ := h
  have HSY := hide h3
  have HLN := hide h4
  have HON := hide (vs_one h3 h4)
  obtain ⟨i0, hinf, hz0, hz1, hz2⟩ := info_parts infoTh
  have HIN := hide hinf
  have hE := nil_owns w 0 94
  have HE := hide hE
  clear hinf hE
  have hcase : (v = .slice none 0 0 ∧ M.length = 0) ∨ ∃ g c, v = .slice (some ⟨g, 0, none⟩) M.length c ∧ ∀ (j : Nat) (u : Value), vs[j]? = some u → w.cell? ((⟨g, 0, none⟩ : Addr).add j) = some u := by
    rcases h2.2 with ⟨rfl, h0⟩ | ⟨g, cap, cur, rfl, _⟩
    · exact .inl ⟨rfl, h0⟩
    · exact .inr ⟨g, cap, rfl, h2.cells (g := g) rfl⟩
  have HCS := hide hcase
  clear hcase h2 h3 h4
  go_enter Try.func35, Try.ntmps35
  go_upto_region 1 with fail
  go_cut [3] (MidM w M)
  case first =>
    rcases unhide HCS with ⟨rfl, hM0⟩ | ⟨g, c, rfl, hcells⟩
    · have c0 := cell_at h1 0
      simp at c0
      go_wp2
      go_meet
      case rel =>
        obtain rfl : M = [] := List.length_eq_zero_iff.1 hM0
        exact ⟨_, rfl, ⟨Nat.le_refl _, .slice none 0 0, [], by simpa using blk_new w _, nil_owns _ _ _, fun i e he => (by cases he), rfl⟩, (Fr.refl _ w).alloc _⟩
    · have c0 := cell_at h1 0
      simp at c0
      have HCL := hide hcells
      clear hcells
      go_wp2_with (at_builtin; refine wpList_append_foot _ rfl _ _ 47 rfl 94 i0 (enV ⟨0, 0, 0⟩) 3 24 Try.underlying47 (unhide HIN) hz0 hz1 hz2 rfl (by decide) _ _ _ rfl (unhide HE) ⟨g, 0, none⟩ M.length c vs rfl (unhide HLN) (unhide HCL) (unhide HON) (by unfold maxLen; omega) (by omega) ?_)
      intro v' w2 ho hgr ha
      try rw [Nat.zero_add] at ho
      try rw [List.nil_append] at ho
      obtain ⟨a2, cp2, rfl⟩ := slice_own ho
      have hF2 : Fr (fun _ => False) w w2 := (Fr.refl _ w).grown hgr (fun k hk => by cases hk)
      have hz := hF2.size
      have HO := hide ho
      clear ho
      go_wp2
      go_meet
      case rel =>
        refine ⟨_, rfl, ⟨hz, _, vs, by simpa using blk_new w2 _, owns_lo3 ((unhide HO).alloc _) (fun k hk => ?_), unhide HSY, unhide HLN⟩, hF2.alloc _⟩
        rcases ha with e | e
        · rw [e] at hk; cases hk
        · rw [e] at hk; injection hk with hk; omega
  case rest =>
    obtain ⟨b2, rfl, hM, hF0⟩ := hcut
    clear HCS HSY HLN HON HE
    go_wp2
    go_loopw [4] (fun o wr => ∃ (O R : List (En Int)) (vs' : List Value), Out M O R ∧ wr.ownsRow w.heap.size 94 3 o O.length vs' ∧ Says vs' O ∧ vs'.length = O.length * 3 ∧ IsM wr w.heap.size b2 0 R ∧ RowAt wr b2 (fun k => ¬ o.ownBlock = some k) ∧ Fr (fun _ => False) w wr) (fun o _ => M.length - slLen o)
    case atStart => exact ⟨[], M, [], ⟨List.Perm.refl _, List.Pairwise.nil, fun o ho => (by cases ho), hp⟩, nil_owns _ _ _, fun i e he => (by cases he), rfl, hM, fun v x _ k _ hk => (by cases hk), hF0⟩
    case round =>
      obtain ⟨O, R, vs', hOut, hO, hS, hL, hI, hRA, hF⟩ := hrel
      have hlen := hOut.len
      obtain ⟨a', cap', rfl⟩ := slice_own (owns_zero3 hO)
      by_cases hR0 : R = []
      · obtain rfl := hR0
        obtain ⟨hb2, vR, vsR, r1, r2, r3, r4⟩ := hI
        obtain ⟨aR, cR, rfl⟩ := slice_own (owns_zero3 r2)
        have c0 := cell_at r1 0
        simp at c0
        have hOut' := hOut.perm
        rw [List.append_nil] at hOut'
        obtain ⟨ax, cx, ex, hat⟩ := owns_at hO hS
        injection ex with ex1 _ ex2
        subst ex1 ex2
        have HOO := hide hO
        have HAT := hide hat
        clear hat hO hS hL r1 r2 r3 r4
        go_wp2
        go_ret
        refine ⟨⟨_, _, O, rfl, hOut', hOut.ord, ?_, ⟨rfl, by omega, ?_⟩⟩, hF⟩
        · rcases (unhide HOO).2 with ⟨e, h0⟩ | ⟨g, cap, cur, e, _, _, hnc, _⟩
          · omega
          · injection e with _ _ e; omega
        · by_cases h0 : O.length = 0
          · exact .inl h0
          · obtain ⟨x0, hx0⟩ := get_some (L := O) (i := 0) (by omega)
            obtain ⟨g, e, _, hg, _⟩ := unhide HAT 0 x0 hx0
            refine .inr ⟨g, 0, e, hg, fun i x hx => ⟨_, fun j v hv => ?_, rfl⟩⟩
            obtain ⟨g2, e2, _, _, y1, y2, y3⟩ := unhide HAT i x hx
            rw [e] at e2
            cases e2
            rw [Nat.zero_add]
            rcases j with _ | _ | _ | j
            · simp at hv; subst hv; exact y1
            · simp at hv; subst hv; exact y2
            · simp at hv; subst hv; exact y3
            · simp at hv
      · obtain ⟨e, he⟩ := le_ex R hR0
        have hRl : R.length ≠ 0 := fun h => hR0 (List.length_eq_zero_iff.1 h)
        have HII := hide hI
        have HLE := hide (mleast_calls hI (by omega))
        have HRA := hide hRA
        have HOut := hide (hOut.next he)
        obtain ⟨hb2, vR, vsR, r1, r2, r3, r4⟩ := hI
        obtain ⟨aR, cR, rfl, hat⟩ := owns_at r2 r3
        have HR1 := hide r1
        have HAT := hide hat
        have c0 := cell_at r1 0
        simp at c0
        have hkeys := hOut.keys
        have hmk := owns_mk hO
        have HMK := hide hmk
        have HOO := hide hO
        have hRpos : (R.length : Int) > 0 := by omega
        clear hat r1 r2 r3 r4 hOut hRA hO hmk
        go_wp2_with fail
        refine (unhide HLE).mono ?_
        rintro e' w1 ⟨⟨at', rfl, hLm⟩, hF1⟩
        obtain ⟨i, rfl, hi⟩ := hLm.le hkeys he
        obtain ⟨g, rfl, _, hgl, x1, x2, x3⟩ := unhide HAT i e hi
        have y1 : w1.cell? ⟨g, i * 3, none⟩ = some (.int .i64 e.t) := cell_fr hF1 (fun h => h) x1
        have y2 : w1.cell? ⟨g, i * 3 + 1, none⟩ = some (.int .i64 e.k) := cell_fr hF1 (fun h => h) x2
        have y3 : w1.cell? ⟨g, i * 3 + 2, none⟩ = some (.int .i64 e.x) := cell_fr hF1 (fun h => h) x3
        have hil := (List.getElem?_eq_some_iff.1 hi).1
        have hi' : (i : Int) < (R.length : Int) := by omega
        have hB1 := hF1.blk (unhide HR1) (fun h => h)
        have c1 := cell_at hB1 0
        simp at c1
        clear c0 x1 x2 x3
        have hFw := hF.trans hF1 (T := fun _ => False) (fun _ _ h => h) (fun _ _ h => h)
        have hzw := hFw.size
        have hz1w := hF1.size
        have HOA := hide (((owns_fr (owns_zero3 (unhide HOO)) hF1 (fun _ _ h => h))).alloc (.cells #[.int .i64 e.t, .int .i64 e.k, .int .i64 e.x] 94))
        have HZ := hide hzw
        have HZ1 := hide hz1w
        clear hzw hz1w
        go_wp2_with (at_builtin; refine wpList_append_foot _ rfl _ _ 47 rfl 94 i0 (enV ⟨0, 0, 0⟩) 3 24 Try.underlying47 (unhide HIN) hz0 hz1 hz2 rfl (by decide) _ _ _ rfl (unhide HOA) ⟨w1.heap.size, 0, none⟩ 1 1 [.int .i64 e.t, .int .i64 e.k, .int .i64 e.x] rfl rfl (en_cells2 w1 _ _ _ _) (en_one _ _ _) (by unfold maxLen; omega) (by omega) ?_)
        intro v' w2 ho hgr ha
        obtain ⟨a2, cp2, rfl⟩ := slice_own ho
        have HHO := hide ho
        have hFa : Fr (fun k => (Value.slice a' O.length cap').ownBlock = some k) w1 w2 := ((Fr.refl _ w1).alloc _).grown hgr (fun k hk => .inr hk)
        have hI1 := (unhide HII).fr2 hF1 (fun h => h) (fun _ _ _ _ _ h => h)
        have hRA1 : RowAt w1 b2 (fun k => ¬ (Value.slice a' O.length cap').ownBlock = some k) := by
          obtain ⟨_, vq, vsq, q1, q2, _⟩ := unhide HII
          exact RowAt.of (hF1.blk q1 (fun h => h)) (unhide HRA _ _ q1)
        have hnb2 : ¬ (Value.slice a' O.length cap').ownBlock = some b2 := fun hk => by
          obtain ⟨_, cs, hc⟩ := unhide HMK b2 hk
          exact th_ne (unhide HR1) hc rfl
        have hI2 := hI1.1.fr2 hFa hnb2 hRA1
        have hFw2 : Fr (fun _ => False) w w2 := (hFw.alloc _).grown hgr (fun k hk => .inl ((unhide HMK) k hk).1)
        have HCC := hide (mcut_calls hI2.1 (by omega) hkeys hi)
        clear ho
        go_wp2_with fail
        refine (unhide HCC).mono ?_
        rintro e' w3 ⟨rfl, hM3, hFb, hNew⟩
        have hob : ∀ k, (Value.slice a2 (O.length + 1) cp2).ownBlock = some k → w.heap.size ≤ k ∧ k < w2.heap.size ∧ ¬ k = b2 := fun k hk => by
          obtain ⟨_, cs, hc⟩ := owns_mk (unhide HHO) k hk
          obtain ⟨_, vq, vsq, q1, _⟩ := hI2.1
          refine ⟨?_, lt_of_blk hc, th_ne q1 hc⟩
          rcases ha with e1 | e1
          · rw [e1] at hk
            exact (unhide HMK k hk).1
          · rw [e1] at hk
            injection hk with hk
            have h1 := unhide HZ
            try simp at hk
            omega
        go_wp2
        refine ⟨⟨O ++ [e], del R e.k, vs' ++ [.int .i64 e.t, .int .i64 e.k, .int .i64 e.x], unhide HOut, ?_, hS.snoc hL e, by simp [hL]; omega, hM3, ?_, ?_⟩, ?_⟩
        · rw [List.length_append, List.length_singleton]
          exact owns_lo3 (owns_fr (unhide HHO) hFb (fun k hk => (hob k hk).2.2)) (fun k hk => (hob k hk).1)
        · intro v x hv k hk hk2
          have := hNew v x hv k hk
          have := (hob k hk2).2.1
          omega
        · exact hFw2.trans hFb (fun _ _ h => h) (fun k hk h => by omega)
        · simp [slLen]; omega

end Go.Proofs.Ytchmbnfalaijhaa
