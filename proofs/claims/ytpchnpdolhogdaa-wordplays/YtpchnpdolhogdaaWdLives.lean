/-
  A word that is whole; the head of all laws of this layer.
-/
import Derived.Test.YtpchnpdolhogdaaWdBegin
namespace Go.Proofs.Ytpchnpdolhogdaa
open Go.RowKit
set_option linter.unusedVariables false
set_option maxRecDepth 8192

/-- the word in block b, with what is under way its threads' own -/
structure Wo (w : World) (b : Nat) (d : Wd) : Prop where
  is : IsW w b d
  ow : Ow d

theorem Ow.bgn {d : Wd} (h : Ow d) (n op : Int) : Ow (bgn d n op).1 := by
  unfold Go.Proofs.Ytpchnpdolhogdaa.bgn
  by_cases hn : 0 ≤ n ∧ n < 8
  · rw [if_pos hn]
    by_cases h0 : fpc n.toNat op = 0
    · rw [if_pos h0]; exact h
    rw [if_neg h0]
    by_cases h1 : 0 < d.pc n.toNat
    · rw [if_pos h1]; exact h
    rw [if_neg h1]
    by_cases hs : n.toNat = 0 ∧ (d.held = true ↔ op = 1)
    · rw [if_pos hs]; exact h
    rw [if_neg hs]
    refine h.set (fpc_le _ _) (fun e => ?_) (fun e => ?_) (fun e e4 => ?_) (fun e e5 => ?_) (fun e e6 => ?_)
    · rw [e]; unfold fpc; rw [if_pos rfl]; repeat' split
      all_goals omega
    · unfold fpc; rw [if_neg (by omega)]; split <;> omega
    · have ho : op = 1 := by
        rw [e] at e4; unfold fpc at e4; rw [if_pos rfl] at e4
        by_cases h' : op = 1
        · exact h'
        · rw [if_neg h'] at e4; exfalso; revert e4; repeat' split
          all_goals omega
      cases hd : d.held
      · rfl
      · exact absurd ⟨e, by rw [hd, ho]; simp⟩ hs
    · have ho : op ≠ 1 := by
        rintro rfl
        rw [e] at e5; unfold fpc at e5; rw [if_pos rfl, if_pos rfl] at e5; omega
      cases hd : d.held
      · exact absurd ⟨e, by rw [hd]; simp [ho]⟩ hs
      · rfl
    · exfalso
      rw [e] at e6; unfold fpc at e6; rw [if_pos rfl] at e6; revert e6; repeat' split
      all_goals omega
  · rw [if_neg hn]; exact h

theorem Wo.fr {P : Nat → Prop} {w w' : World} {b : Nat} {d : Wd} (h : Wo w b d) (hf : Fr P w w') (hb : ¬ P b) (hP : ∀ k, IB w k → ¬ P k) : Wo w' b d := ⟨h.is.fr hf hb hP, h.ow⟩
theorem Wo.up {w w' : World} {b : Nat} {d : Wd} (h : Wo w b d) (hf : Fr (fun _ => False) w w') : Wo w' b d := ⟨h.is.up hf, h.ow⟩
theorem Wo.al {w : World} {b : Nat} {d : Wd} (h : Wo w b d) (o : Obj) : Wo (w.alloc o) b d := ⟨h.is.al o, h.ow⟩
theorem Wo.same {w w' : World} {b : Nat} {d : Wd} (h : Wo w b d) (e : w'.heap = w.heap) : Wo w' b d := ⟨h.is.same e, h.ow⟩

theorem onew (w : World) :
    Calls Try.prog 10 #[] w fun e w' => e = .returned (.pointer (some ⟨w.heap.size, 0, none⟩)) ∧ Wo w' w.heap.size Wd.new ∧ Fr (fun _ => False) w w' :=
  (wnew w).mono fun e w' ⟨h1, h2, h3⟩ => ⟨h1, ⟨h2, Ow.new⟩, h3⟩

theorem obegin {w : World} {b : Nat} {d : Wd} (h : Wo w b d) (n op : Int) :
    Calls Try.prog 12 #[.pointer (some ⟨b, 0, none⟩), .int .i64 n, .int .i64 op] w fun e w' => e = .returned (.int .i64 (bgn d n op).2) ∧ Wo w' b (bgn d n op).1 ∧ FrW b w w' :=
  (begin_calls h.is n op).mono fun e w' ⟨h1, h2, h3⟩ => ⟨h1, ⟨h2, h.ow.bgn n op⟩, h3⟩

theorem ostep {w : World} {b : Nat} {d : Wd} (h : Wo w b d) {k : Nat} (hk : k < 8) (hp : 0 < d.pc k) :
    Calls Try.prog 14 #[.pointer (some ⟨b, 0, none⟩), .int .i64 (k : Int)] w fun e w' => e = .returned (.tuple #[.int .i64 (wstp d k).2, .int .i64 0]) ∧ Wo w' b (wstp d k).1 ∧ FrW b w w' :=
  (step_busy h.is hk hp (h.ow.le k)).mono fun e w' ⟨h1, h2, h3⟩ => ⟨h1, ⟨h2, h.ow.wstp hp⟩, h3⟩

/-- the head's word, step by step -/
def l1 : Wd := ⟨1, false, fun i => if i = 0 then 4 else 0⟩
def l2 : Wd := ⟨2, true, fun i => if i = 0 then 0 else l1.pc i⟩
def l3 : Wd := ⟨2, true, fun i => if i = 1 then 1 else l2.pc i⟩
def l4 : Wd := ⟨2, true, fun i => if i = 1 then 3 else l3.pc i⟩
def l5 : Wd := ⟨3, true, fun i => if i = 1 then 0 else l4.pc i⟩
def l6 : Wd := ⟨3, true, fun i => if i = 0 then 5 else l5.pc i⟩
def l7 : Wd := ⟨3, true, fun i => if i = 0 then 6 else l6.pc i⟩
def l8 : Wd := ⟨2, true, fun i => if i = 0 then 0 else l7.pc i⟩
theorem e1 : bgn Wd.new 0 1 = (l1, 0) := rfl
theorem e2 : wstp l1 0 = (l2, 0) := rfl
theorem e3 : bgn l2 1 0 = (l3, 0) := rfl
theorem e4 : wstp l3 1 = (l4, -1) := rfl
theorem e5 : wstp l4 1 = (l5, 0) := rfl
theorem e6 : bgn l5 0 2 = (l6, 0) := rfl
theorem e7 : wstp l6 0 = (l7, -1) := rfl
theorem e8 : wstp l7 0 = (l8, 2) := rfl

set_option maxHeartbeats 2000000 in
theorem lives_calls (w : World) :
    Calls Try.prog 9 #[] w fun e w' => e = .returned (.bool true) ∧ Fr (fun _ => False) w w' := by
  obtain ⟨G, hG⟩ : ∃ G, w.heap.size = G := ⟨_, rfl⟩
  have HN := hide (onew w)
  rw [hG] at HN
  have HG := hide hG
  clear hG
  go_enter Try.func9, Try.ntmps9
  go_wp2_with fail
  refine (unhide HN).mono ?_
  rintro e w1 ⟨rfl, h1, hF1⟩
  have HW := hide (now_calls h1.is)
  have HB := hide (obegin h1 0 1)
  rw [e1] at HB
  go_wp2_with fail
  refine (unhide HW).mono ?_
  rintro e w' ⟨rfl, rfl⟩
  simp only [Wd.new]
  go_wp2_with fail
  refine (unhide HB).mono ?_
  rintro e w2 ⟨rfl, h2, hF2⟩
  have HS2 := hide (ostep h2 (k := 0) (by omega) (by show 0 < 4; omega))
  rw [e2] at HS2
  go_wp2_with fail
  refine (unhide HS2).mono ?_
  rintro e w3 ⟨rfl, h3, hF3⟩
  have HB3 := hide (obegin h3 1 0)
  rw [e3] at HB3
  go_wp2_with fail
  refine (unhide HB3).mono ?_
  rintro e w4 ⟨rfl, h4, hF4⟩
  have HS4 := hide (ostep h4 (k := 1) (by omega) (by show 0 < 1; omega))
  rw [e4] at HS4
  go_wp2_with fail
  refine (unhide HS4).mono ?_
  rintro e w5 ⟨rfl, h5, hF5⟩
  have HS5 := hide (ostep h5 (k := 1) (by omega) (by show 0 < 3; omega))
  rw [e5] at HS5
  go_wp2_with fail
  refine (unhide HS5).mono ?_
  rintro e w6 ⟨rfl, h6, hF6⟩
  have HB6 := hide (obegin h6 0 2)
  rw [e6] at HB6
  go_wp2_with fail
  refine (unhide HB6).mono ?_
  rintro e w7 ⟨rfl, h7, hF7⟩
  have HS7 := hide (ostep h7 (k := 0) (by omega) (by show 0 < 5; omega))
  rw [e7] at HS7
  go_wp2_with fail
  refine (unhide HS7).mono ?_
  rintro e w8 ⟨rfl, h8, hF8⟩
  have HS8 := hide (ostep h8 (k := 0) (by omega) (by show 0 < 6; omega))
  rw [e8] at HS8
  go_wp2_with fail
  refine (unhide HS8).mono ?_
  rintro e w9 ⟨rfl, h9, hF9⟩
  have HH : Hid (Calls Try.prog 17 #[.pointer (some ⟨G, 0, none⟩)] w9 fun e w' => e = .returned (.bool true) ∧ w9 = w') := holds_calls h9.is
  have HW9 : Hid (Calls Try.prog 16 #[.pointer (some ⟨G, 0, none⟩)] w9 fun e w' => e = .returned (.int .i64 2) ∧ w9 = w') := now_calls h9.is
  go_wp2_with fail
  refine (unhide HH).mono ?_
  rintro e w' ⟨rfl, rfl⟩
  go_wp2_with fail
  refine (unhide HW9).mono ?_
  rintro e w' ⟨rfl, rfl⟩
  go_wp2
  go_ret
  have hz := unhide HG
  have tr : ∀ {a c : World}, Fr (fun _ => False) w a → FrW G a c → Fr (fun _ => False) w c := fun ha hc => ha.trans hc (fun _ _ h => h) (fun i hi h => by omega)
  exact ⟨rfl, tr (tr (tr (tr (tr (tr (tr (tr hF1 hF2) hF3) hF4) hF5) hF6) hF7) hF8) hF9⟩

end Go.Proofs.Ytpchnpdolhogdaa
