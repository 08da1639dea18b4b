/-
  How the document's reader reads a module's bytes, as plain functions of what is left and the error; it finds just the right modules whose bytes the text is. Of no program.
-/
import Derived.Test.YthdpgachdegcgaaMoRdPure
namespace Go.Proofs.Ythdpgachdegcgaa
set_option linter.unusedVariables false

/-- what is left, and the error -/
abbrev XS := List UInt8 × Int

def xUp (most : Nat) (s : XS) : Nat × XS :=
  if (rnum s.1 s.2).2.2 = 0 ∧ (rnum s.1 s.2).1 > most then (0, ((rnum s.1 s.2).2.1, 4)) else if (rnum s.1 s.2).2.2 ≠ 0 then (0, (rnum s.1 s.2).2) else (rnum s.1 s.2)
def xBy (s : XS) : Int × XS := (((rbyte s.1 s.2).1 : Int), (rbyte s.1 s.2).2)
/-- so many, whatever the error -/
def xR {α : Type} (f : XS → α × XS) : Nat → XS → List α × XS
  | 0, s => ([], s)
  | k + 1, s => ((f s).1 :: (xR f k (f s).2).1, (xR f k (f s).2).2)
/-- so many, till there is an error -/
def xW {α : Type} (f : XS → α × XS) : Nat → XS → List α × XS
  | 0, s => ([], s)
  | k + 1, s => if s.2 ≠ 0 then ([], s) else ((f s).1 :: (xW f k (f s).2).1, (xW f k (f s).2).2)
def xTypes (most : Nat) (s : XS) : List Int × XS := xR xBy (xUp most s).1 (xUp most s).2
def xIns (s : XS) : (Int × Int) × XS := (((readN s.1).1, (readN s.1).2.1), (s.1.drop (readN s.1).2.2.1, (readN s.1).2.2.2))
def xCode (s : XS) : List (Int × Int) × XS := xW xIns (xUp 200 s).1 (xUp 200 s).2
def xClause (s : XS) : (Int × Int) × XS := ((((xUp 8 s).1 : Int), ((xUp 200 (xUp 8 s).2).1 : Int)), (xUp 200 (xUp 8 s).2).2)
def xClauses (s : XS) : List (Int × Int) × XS := xR xClause (xUp 8 s).1 (xUp 8 s).2
def xTime (s : XS) : Int × XS := (sgn (rnum s.1 s.2).1, if timeB (sgn (rnum s.1 s.2).1) then (rnum s.1 s.2).2 else ((rnum s.1 s.2).2.1, 4))
def xTable (s : XS) : (List (Int × Int) × Int) × XS := (((xClauses s).1, (xTime (xClauses s).2).1), (xTime (xClauses s).2).2)
def xTables (s : XS) : List (List (Int × Int) × Int) × XS := xW xTable (xUp 8 s).1 (xUp 8 s).2
def xActor (s : XS) : Ac × XS :=
  (⟨(xTypes 4 s).1, (xTypes 16 (xTypes 4 s).2).1, (xTypes 8 (xTypes 16 (xTypes 4 s).2).2).1, (xCode (xTypes 8 (xTypes 16 (xTypes 4 s).2).2).2).1, (xTables (xCode (xTypes 8 (xTypes 16 (xTypes 4 s).2).2).2).2).1⟩,
    (xTables (xCode (xTypes 8 (xTypes 16 (xTypes 4 s).2).2).2).2).2)

def XSound {α : Type} (f : XS → α × XS) (B : α → List UInt8) : Prop := ∀ s, (f s).2.2 = 0 → s.2 = 0 ∧ s.1 = B (f s).1 ++ (f s).2.1
def XWhole {α : Type} (f : XS → α × XS) (B : α → List UInt8) (wf : α → Prop) : Prop := ∀ x r, wf x → f (B x ++ r, 0) = (x, (r, 0))

theorem xUp_sound (most : Nat) : XSound (xUp most) (fun n => Lib.uvarint n) := by
  intro s h
  unfold xUp at h ⊢
  split at h
  · simp at h
  · rename_i h1
    rw [if_neg h1]
    split at h
    · rename_i h2; exact absurd h h2
    · rename_i h2
      rw [if_neg h2]
      exact rnum_sound h

theorem xUp_whole (most : Nat) (hm : most < 18446744073709551616) : XWhole (xUp most) (fun n => Lib.uvarint n) (fun n => n ≤ most) := by
  intro n r h
  unfold xUp
  simp only [rnum_uv n (by omega) r]
  rw [if_neg (by omega), if_neg (by simp)]

theorem xBy_sound : XSound xBy (fun t => [t.toNat.toUInt8]) := by
  rintro ⟨l, E⟩ h
  unfold xBy rbyte at h ⊢
  by_cases hE : E = 0
  · subst hE
    cases l with
    | nil => simp at h
    | cons b r => exact ⟨rfl, by simp⟩
  · simp only [ne_eq, hE, not_false_iff, if_true] at h

theorem xBy_whole : XWhole xBy (fun t => [t.toNat.toUInt8]) (fun t => 0 ≤ t ∧ t ≤ 255) := by
  intro t r h
  unfold xBy rbyte
  simp
  obtain ⟨k, rfl⟩ : ∃ k : Nat, t = k := ⟨t.toNat, by omega⟩
  simp; omega

theorem xR_sound {α : Type} {f : XS → α × XS} {B : α → List UInt8} (h : XSound f B) : ∀ (k : Nat) (s : XS), (xR f k s).2.2 = 0 → s.2 = 0 ∧ s.1 = (xR f k s).1.flatMap B ++ (xR f k s).2.1 ∧ (xR f k s).1.length = k
  | 0, s, hg => ⟨hg, by simp [xR], rfl⟩
  | k + 1, s, hg => by
    simp only [xR] at hg ⊢
    obtain ⟨g1, e1, l1⟩ := xR_sound h k _ hg
    obtain ⟨g2, e2⟩ := h s g1
    refine ⟨g2, ?_, by simp [l1]⟩
    rw [e2]
    conv => lhs; rw [e1]
    simp [List.flatMap_cons]

theorem xW_sound {α : Type} {f : XS → α × XS} {B : α → List UInt8} (h : XSound f B) : ∀ (k : Nat) (s : XS), (xW f k s).2.2 = 0 → s.2 = 0 ∧ s.1 = (xW f k s).1.flatMap B ++ (xW f k s).2.1 ∧ (xW f k s).1.length = k
  | 0, s, hg => ⟨hg, by simp [xW], rfl⟩
  | k + 1, s, hg => by
    simp only [xW] at hg ⊢
    split at hg
    · rename_i hs; exact absurd hg hs
    · rename_i hs
      rw [if_neg hs]
      obtain ⟨g1, e1, l1⟩ := xW_sound h k _ hg
      obtain ⟨g2, e2⟩ := h s g1
      refine ⟨g2, ?_, by simp [l1]⟩
      rw [e2]
      conv => lhs; rw [e1]
      simp [List.flatMap_cons]

theorem xR_whole {α : Type} {f : XS → α × XS} {B : α → List UInt8} {wf : α → Prop} (h : XWhole f B wf) : ∀ (l : List α), (∀ x ∈ l, wf x) → ∀ r, xR f l.length (l.flatMap B ++ r, 0) = (l, (r, 0))
  | [], _, r => by simp [xR]
  | x :: l, hl, r => by
    have e := h x (l.flatMap B ++ r) (hl x (by simp))
    simp only [List.flatMap_cons, List.append_assoc, List.length_cons, xR, e, xR_whole h l (fun y hy => hl y (by simp [hy])) r]

theorem xW_whole {α : Type} {f : XS → α × XS} {B : α → List UInt8} {wf : α → Prop} (h : XWhole f B wf) : ∀ (l : List α), (∀ x ∈ l, wf x) → ∀ r, xW f l.length (l.flatMap B ++ r, 0) = (l, (r, 0))
  | [], _, r => by simp [xW]
  | x :: l, hl, r => by
    have e := h x (l.flatMap B ++ r) (hl x (by simp))
    simp only [List.flatMap_cons, List.append_assoc, List.length_cons, xW, e, xW_whole h l (fun y hy => hl y (by simp [hy])) r]
    simp

theorem xcount_sound {α : Type} {g : Nat → XS → List α × XS} {B : α → List UInt8} (h : ∀ (k : Nat) (s : XS), (g k s).2.2 = 0 → s.2 = 0 ∧ s.1 = (g k s).1.flatMap B ++ (g k s).2.1 ∧ (g k s).1.length = k) (most : Nat) :
    XSound (fun s => g (xUp most s).1 (xUp most s).2) (fun l => Lib.uvarint l.length ++ l.flatMap B) := by
  intro s hg
  obtain ⟨g1, e1, l1⟩ := h _ _ hg
  obtain ⟨g2, e2⟩ := xUp_sound most s g1
  refine ⟨g2, ?_⟩
  simp only [l1]
  rw [e2]
  conv => lhs; rw [e1]
  simp

theorem xcount_whole {α : Type} {g : Nat → XS → List α × XS} {B : α → List UInt8} {wf : α → Prop} (h : ∀ (l : List α), (∀ x ∈ l, wf x) → ∀ r, g l.length (l.flatMap B ++ r, 0) = (l, (r, 0))) (most : Nat) (hm : most < 18446744073709551616) :
    XWhole (fun s => g (xUp most s).1 (xUp most s).2) (fun l => Lib.uvarint l.length ++ l.flatMap B) (fun l => l.length ≤ most ∧ ∀ x ∈ l, wf x) := by
  intro l r hl
  simp only [List.append_assoc, xUp_whole most hm l.length _ hl.1, h l hl.2]

theorem xIns_sound0 {s : XS} (hs : s.2 = 0) (h : (xIns s).2.2 = 0) : s.1 = insB (xIns s).1.1 (xIns s).1.2 ++ (xIns s).2.1 := by
  unfold xIns at h ⊢
  rcases readN_back s.1 with ⟨h1, _⟩ | ⟨_, _, _, h4⟩
  · exact absurd h h1
  · simp only [h4]; exact (List.take_append_drop _ _).symm

/-- instructions: looked at only while there is no error -/
theorem xWi_sound : ∀ (k : Nat) (s : XS), (xW xIns k s).2.2 = 0 → (k = 0 → s.2 = 0) → s.1 = (xW xIns k s).1.flatMap (fun i => insB i.1 i.2) ++ (xW xIns k s).2.1 ∧ (xW xIns k s).1.length = k ∧ s.2 = 0
  | 0, s, hg, h0 => ⟨by simp [xW], rfl, h0 rfl⟩
  | k + 1, s, hg, _ => by
    simp only [xW] at hg ⊢
    split at hg
    · rename_i hs; exact absurd hg hs
    · rename_i hs
      have hs' : s.2 = 0 := by simpa using hs
      rw [if_neg hs]
      have hz : k = 0 → (xIns s).2.2 = 0 := fun e => by subst e; simpa [xW] using hg
      obtain ⟨e1, l1, g1⟩ := xWi_sound k _ hg hz
      refine ⟨?_, by simp [l1], hs'⟩
      conv => lhs; rw [xIns_sound0 hs' g1, e1]
      simp [List.flatMap_cons]

theorem xWi_sound' (k : Nat) (s : XS) (h : (xW xIns k s).2.2 = 0) : s.2 = 0 ∧ s.1 = (xW xIns k s).1.flatMap (fun i => insB i.1 i.2) ++ (xW xIns k s).2.1 ∧ (xW xIns k s).1.length = k := by
  obtain ⟨e, l, g⟩ := xWi_sound k s h (fun e => by subst e; simpa [xW] using h)
  exact ⟨g, e, l⟩

theorem xIns_whole : XWhole xIns (fun i => insB i.1 i.2) (fun i => rightB i.1 i.2 = true) := by
  rintro ⟨op, a⟩ r h
  unfold xIns
  simp only [readN_insB h r]
  simp

theorem xClause_sound : XSound xClause clB := by
  intro s h
  unfold xClause at h ⊢
  obtain ⟨g1, e1⟩ := xUp_sound 200 _ h
  obtain ⟨g2, e2⟩ := xUp_sound 8 _ g1
  refine ⟨g2, ?_⟩
  rw [e2]
  conv => lhs; rw [e1]
  simp [clB]

theorem xClause_whole : XWhole xClause clB (fun c => clauseB c = true) := by
  rintro ⟨p, q⟩ r h
  simp only [clauseB, Bool.and_eq_true, decide_eq_true_eq] at h
  unfold xClause clB
  simp only [List.append_assoc, xUp_whole 8 (by omega) p.toNat _ (by omega), xUp_whole 200 (by omega) q.toNat _ (by omega)]
  simp; omega

theorem xTime_sound : XSound xTime (fun n => Lib.uvarint (Lib.zigzag n)) := by
  intro s h
  unfold xTime at h ⊢
  split at h
  · rename_i ht
    rw [if_pos ht]
    obtain ⟨h1, h2⟩ := rnum_sound (l := s.1) (E := s.2) h
    exact ⟨h1, by simp only [zig_sgn]; exact h2⟩
  · simp at h

theorem xTime_whole : XWhole xTime (fun n => Lib.uvarint (Lib.zigzag n)) (fun n => timeB n = true) := by
  intro n r h
  unfold xTime
  simp only [rnum_uv _ (time_zig h) r, sgn_zig, h, if_true]

theorem xTable_sound : XSound xTable tbB := by
  intro s h
  unfold xTable at h ⊢
  obtain ⟨g1, e1⟩ := xTime_sound _ h
  obtain ⟨g2, e2⟩ := xcount_sound (xR_sound xClause_sound) 8 _ g1
  refine ⟨g2, ?_⟩
  have e2' : s.1 = clsB (xClauses s).1 ++ (xClauses s).2.1 := e2
  rw [e2']
  conv => lhs; rw [e1]
  simp [tbB]

theorem xTable_whole : XWhole xTable tbB (fun t => longT t = false ∧ rtabB t = true) := by
  rintro ⟨cl, tm⟩ r ⟨h1, h2⟩
  simp only [rtabB, Bool.and_eq_true, List.all_eq_true] at h2
  simp [longT] at h1
  have e := xcount_whole (xR_whole xClause_whole) 8 (by omega) cl (Lib.uvarint (Lib.zigzag tm) ++ r) ⟨h1, h2.2⟩
  have e' : xClauses (clsB cl ++ (Lib.uvarint (Lib.zigzag tm) ++ r), 0) = (cl, (Lib.uvarint (Lib.zigzag tm) ++ r, 0)) := e
  unfold xTable tbB
  simp only [List.append_assoc, e', xTime_whole tm r h2.1]

theorem tyB_flat' (l : List Int) : tyB l = Lib.uvarint l.length ++ l.flatMap (fun t => [t.toNat.toUInt8]) := by unfold tyB; rw [map_flat]
theorem xTypes_sound (most : Nat) : XSound (xTypes most) tyB := by
  intro s h
  rw [tyB_flat']
  exact xcount_sound (xR_sound xBy_sound) most s h
theorem xTypes_whole (most : Nat) (hm : most < 18446744073709551616) : XWhole (xTypes most) tyB (fun l => l.length ≤ most ∧ ∀ t ∈ l, 0 ≤ t ∧ t ≤ 255) := by
  intro l r h
  rw [tyB_flat']
  exact xcount_whole (xR_whole xBy_whole) most hm l r h
theorem xCode_sound : XSound xCode cdB := xcount_sound xWi_sound' 200
theorem xCode_whole : XWhole xCode cdB (fun l => l.length ≤ 200 ∧ ∀ i ∈ l, rightB i.1 i.2 = true) := xcount_whole (xW_whole xIns_whole) 200 (by omega)
theorem xTables_sound : XSound xTables tsB := xcount_sound (xW_sound xTable_sound) 8
theorem xTables_whole : XWhole xTables tsB (fun l => l.length ≤ 8 ∧ ∀ t ∈ l, longT t = false ∧ rtabB t = true) := xcount_whole (xW_whole xTable_whole) 8 (by omega)

theorem xActor_sound : XSound xActor acB := by
  intro s h
  have e1 := xTypes_sound 4 s
  have e2 := xTypes_sound 16 (xTypes 4 s).2
  have e3 := xTypes_sound 8 (xTypes 16 (xTypes 4 s).2).2
  have e4 := xCode_sound (xTypes 8 (xTypes 16 (xTypes 4 s).2).2).2
  have e5 := xTables_sound (xCode (xTypes 8 (xTypes 16 (xTypes 4 s).2).2).2).2
  unfold xActor at h ⊢
  generalize xTypes 4 s = p1 at *
  generalize xTypes 16 p1.2 = p2 at *
  generalize xTypes 8 p2.2 = p3 at *
  generalize xCode p3.2 = p4 at *
  generalize xTables p4.2 = p5 at *
  obtain ⟨g5, e5⟩ := e5 h
  obtain ⟨g4, e4⟩ := e4 g5
  obtain ⟨g3, e3⟩ := e3 g4
  obtain ⟨g2, e2⟩ := e2 g3
  obtain ⟨g1, e1⟩ := e1 g2
  refine ⟨g1, ?_⟩
  unfold acB
  simp only [List.append_assoc]
  rw [← e5, ← e4, ← e3, ← e2, ← e1]

theorem xActor_whole (n : Int) : XWhole xActor acB (fun x => longA x = false ∧ rightA x n = true) := by
  rintro x r ⟨h1, h2⟩
  obtain ⟨a1, a2, a3, a4, a5, a6⟩ := longA_no h1
  obtain ⟨b1, b2, b3, b4, b5, b6⟩ := rightA_yes h2
  have e1 := xTypes_whole 4 (by omega) x.ps (tyB x.rs ++ (tyB x.ms ++ (cdB x.cs ++ (tsB x.ts ++ r)))) ⟨a1, fun t ht => krightB_byte (b1 t (b3.subset ht))⟩
  have e2 := xTypes_whole 16 (by omega) x.rs (tyB x.ms ++ (cdB x.cs ++ (tsB x.ts ++ r))) ⟨a2, fun t ht => krightB_byte (b1 t ht)⟩
  have e3 := xTypes_whole 8 (by omega) x.ms (cdB x.cs ++ (tsB x.ts ++ r)) ⟨a3, fun t ht => krightB_byte (b2 t ht)⟩
  have e4 := xCode_whole x.cs (tsB x.ts ++ r) ⟨a4, b4⟩
  have e5 := xTables_whole x.ts r ⟨a5, fun t ht => ⟨a6 t ht, b6 t ht⟩⟩
  unfold xActor acB
  simp only [List.append_assoc, e1, e2, e3, e4, e5]

end Go.Proofs.Ythdpgachdegcgaa
