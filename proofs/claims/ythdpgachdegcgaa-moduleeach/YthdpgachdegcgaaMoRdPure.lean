/-
  How a module's bytes are read, as plain functions of what is left, the error, and whether something was wrong; what is read to the end is what would be written, and what is written is read. Of no program.
-/
import Derived.Test.YthdpgachdegcgaaMoPure
import Derived.Test.YthdpgachdegcgaaRdCalls
namespace Go.Proofs.Ythdpgachdegcgaa
set_option linter.unusedVariables false

structure RS where
  l : List UInt8
  E : Int
  bad : Bool

def RS.Good (s : RS) : Prop := s.E = 0 ∧ s.bad = false
theorem RS.good_eq {s : RS} (h : s.Good) : s = ⟨s.l, 0, false⟩ := by obtain ⟨l, E, b⟩ := s; obtain ⟨h1, h2⟩ := h; simp_all

def rUp (most : Nat) (s : RS) : Nat × RS :=
  if (rnum s.l s.E).1 > most then (0, ⟨(rnum s.l s.E).2.1, (rnum s.l s.E).2.2, true⟩) else ((rnum s.l s.E).1, ⟨(rnum s.l s.E).2.1, (rnum s.l s.E).2.2, s.bad⟩)
def rBy (s : RS) : Int × RS := (((rbyte s.l s.E).1 : Int), ⟨(rbyte s.l s.E).2.1, (rbyte s.l s.E).2.2, s.bad⟩)
def rep {α : Type} (f : RS → α × RS) : Nat → RS → List α × RS
  | 0, s => ([], s)
  | k + 1, s => ((rep f k s).1 ++ [(f (rep f k s).2).1], (f (rep f k s).2).2)
def skip : Nat → RS → RS
  | 0, s => s
  | k + 1, s => (rBy (skip k s)).2
def magN : Nat → Int
  | 0 => 67
  | 1 => 66
  | _ => 49
def rMag : Nat → RS → RS
  | 0, s => s
  | k + 1, s => ⟨(rBy (rMag k s)).2.l, (rBy (rMag k s)).2.E, (rMag k s).bad || (rBy (rMag k s)).1 != magN k⟩
def rTypes (most : Nat) (s : RS) : List Int × RS := rep rBy (rUp most s).1 (rUp most s).2
def rIns (s : RS) : (Int × Int) × RS := (((readN s.l).1, (readN s.l).2.1), skip (readN s.l).2.2.1 ⟨s.l, s.E, s.bad || (readN s.l).2.2.2 != 0⟩)
def rCode (s : RS) : List (Int × Int) × RS := rep rIns (rUp 200 s).1 (rUp 200 s).2
def rClause (s : RS) : (Int × Int) × RS := ((((rUp 7 s).1 : Int), ((rUp 199 (rUp 7 s).2).1 : Int)), (rUp 199 (rUp 7 s).2).2)
def rClauses (s : RS) : List (Int × Int) × RS := rep rClause (rUp 8 s).1 (rUp 8 s).2
def rTime (s : RS) : Int × RS :=
  if timeB (sgn (rnum s.l s.E).1) then (sgn (rnum s.l s.E).1, ⟨(rnum s.l s.E).2.1, (rnum s.l s.E).2.2, s.bad⟩) else (0, ⟨(rnum s.l s.E).2.1, (rnum s.l s.E).2.2, true⟩)
def rTable (s : RS) : (List (Int × Int) × Int) × RS := (((rClauses s).1, (rTime (rClauses s).2).1), (rTime (rClauses s).2).2)
def rTables (s : RS) : List (List (Int × Int) × Int) × RS := rep rTable (rUp 8 s).1 (rUp 8 s).2
def rActor (s : RS) : Ac × RS :=
  (⟨(rTypes 4 s).1, (rTypes 16 (rTypes 4 s).2).1, (rTypes 8 (rTypes 16 (rTypes 4 s).2).2).1, (rCode (rTypes 8 (rTypes 16 (rTypes 4 s).2).2).2).1, (rTables (rCode (rTypes 8 (rTypes 16 (rTypes 4 s).2).2).2).2).1⟩,
    (rTables (rCode (rTypes 8 (rTypes 16 (rTypes 4 s).2).2).2).2).2)
def rMod (s : RS) : List Ac × RS := rep rActor (rUp 8 (rMag 3 s)).1 (rUp 8 (rMag 3 s)).2

theorem rep_length {α : Type} (f : RS → α × RS) (k : Nat) (s : RS) : (rep f k s).1.length = k := by
  induction k with
  | zero => rfl
  | succ k ih => simp [rep, ih]

/-- what is read without a fault is what stood there -/
def Sound {α : Type} (f : RS → α × RS) (B : α → List UInt8) : Prop := ∀ s, (f s).2.Good → s.Good ∧ s.l = B (f s).1 ++ (f s).2.l
/-- what stands there is read -/
def Whole {α : Type} (f : RS → α × RS) (B : α → List UInt8) (wf : α → Prop) : Prop := ∀ x r, wf x → f ⟨B x ++ r, 0, false⟩ = (x, ⟨r, 0, false⟩)

theorem rnum_sound {l : List UInt8} {E : Int} (h : (rnum l E).2.2 = 0) : E = 0 ∧ l = Lib.uvarint (rnum l E).1 ++ (rnum l E).2.1 := by
  unfold rnum at h ⊢
  by_cases hE : E = 0
  · subst hE
    simp only [ne_eq, not_true, if_false] at h ⊢
    have e : (rd l 0 0).2.2 = 0 := by omega
    have h' : rd l 0 0 = ((rd l 0 0).1, (rd l 0 0).2.1, 0) := Prod.ext rfl (Prod.ext rfl e)
    exact ⟨trivial, (rd_is h').1⟩
  · rw [if_pos hE] at h; exact absurd h hE

theorem rUp_sound (most : Nat) : Sound (rUp most) (fun n => Lib.uvarint n) := by
  intro s h
  unfold rUp at h ⊢
  split at h
  · exact absurd h.2 (by simp)
  · rename_i hn
    rw [if_neg hn]
    obtain ⟨h1, h2⟩ := rnum_sound (l := s.l) (E := s.E) h.1
    exact ⟨⟨h1, h.2⟩, h2⟩

theorem rnum_uv (n : Nat) (h : n < 18446744073709551616) (r : List UInt8) : rnum (Lib.uvarint n ++ r) 0 = (n, r, 0) := by
  unfold rnum
  rw [rd_of n h r]
  simp

theorem rUp_whole (most : Nat) (hm : most < 18446744073709551616) : Whole (rUp most) (fun n => Lib.uvarint n) (fun n => n ≤ most) := by
  intro n r h
  unfold rUp
  simp only [rnum_uv n (by omega) r]
  rw [if_neg (by omega)]

theorem rBy_sound : Sound rBy (fun t => [t.toNat.toUInt8]) := by
  rintro ⟨l, E, bd⟩ h
  unfold rBy rbyte at h ⊢
  by_cases hE : E = 0
  · subst hE
    cases l with
    | nil => exact absurd h.1 (by simp)
    | cons b r =>
      have h2 : bd = false := by simpa using h.2
      subst h2
      exact ⟨⟨rfl, rfl⟩, by simp⟩
  · simp only [ne_eq, hE, not_false_iff, if_true] at h
    exact absurd h.1 hE

theorem rBy_whole : Whole rBy (fun t => [t.toNat.toUInt8]) (fun t => 0 ≤ t ∧ t ≤ 255) := by
  intro t r h
  unfold rBy rbyte
  simp
  obtain ⟨k, rfl⟩ : ∃ k : Nat, t = k := ⟨t.toNat, by omega⟩
  simp; omega

theorem rep_sound {α : Type} {f : RS → α × RS} {B : α → List UInt8} (h : Sound f B) (k : Nat) : Sound (rep f k) (fun l => l.flatMap B) := by
  intro s
  induction k with
  | zero => intro hg; exact ⟨hg, by simp [rep]⟩
  | succ k ih =>
    intro hg
    simp only [rep] at hg ⊢
    obtain ⟨g1, e1⟩ := h _ hg
    obtain ⟨g2, e2⟩ := ih g1
    refine ⟨g2, ?_⟩
    rw [e2]
    conv => lhs; rw [e1]
    simp [List.flatMap_append]

theorem rep_whole {α : Type} {f : RS → α × RS} {B : α → List UInt8} {wf : α → Prop} (h : Whole f B wf) (l : List α) (hl : ∀ x ∈ l, wf x) (r : List UInt8) :
    rep f l.length ⟨l.flatMap B ++ r, 0, false⟩ = (l, ⟨r, 0, false⟩) := by
  have key : ∀ k, k ≤ l.length → rep f k ⟨l.flatMap B ++ r, 0, false⟩ = (l.take k, ⟨(l.drop k).flatMap B ++ r, 0, false⟩) := by
    intro k
    induction k with
    | zero => intro _; simp [rep]
    | succ k ih =>
      intro hk
      have hk' : k < l.length := by omega
      rw [rep, ih (by omega)]
      have e : (l.drop k).flatMap B ++ r = B l[k] ++ ((l.drop (k + 1)).flatMap B ++ r) := by
        conv => lhs; rw [List.drop_eq_getElem_cons hk', List.flatMap_cons, List.append_assoc]
      simp only [e, h l[k] _ (hl _ (List.getElem_mem hk'))]
      rw [List.take_succ_eq_append_getElem hk']
  rw [key _ (Nat.le_refl _)]
  simp

/-- how many, and so many -/
theorem count_sound {α : Type} {f : RS → α × RS} {B : α → List UInt8} (h : Sound f B) (most : Nat) : Sound (fun s => rep f (rUp most s).1 (rUp most s).2) (fun l => Lib.uvarint l.length ++ l.flatMap B) := by
  intro s hg
  obtain ⟨g1, e1⟩ := rep_sound h _ _ hg
  obtain ⟨g2, e2⟩ := rUp_sound most s g1
  refine ⟨g2, ?_⟩
  simp only [rep_length]
  rw [e2]
  conv => lhs; rw [e1]
  simp

theorem count_whole {α : Type} {f : RS → α × RS} {B : α → List UInt8} {wf : α → Prop} (h : Whole f B wf) (most : Nat) (hm : most < 18446744073709551616) :
    Whole (fun s => rep f (rUp most s).1 (rUp most s).2) (fun l => Lib.uvarint l.length ++ l.flatMap B) (fun l => l.length ≤ most ∧ ∀ x ∈ l, wf x) := by
  intro l r hl
  simp only [List.append_assoc, rUp_whole most hm l.length _ hl.1, rep_whole h l hl.2]

theorem skip_stop {k : Nat} {s : RS} (h : s.E ≠ 0) : skip k s = s := by
  induction k with
  | zero => rfl
  | succ k ih => rw [skip, ih]; unfold rBy rbyte; simp only [ne_eq, h, not_false_iff, if_true]

theorem skip_ok {k : Nat} {l : List UInt8} {bd : Bool} (h : k ≤ l.length) : skip k ⟨l, 0, bd⟩ = ⟨l.drop k, 0, bd⟩ := by
  induction k with
  | zero => rfl
  | succ k ih =>
    rw [skip, ih (by omega), List.drop_eq_getElem_cons (by omega : k < l.length)]
    simp [rBy, rbyte]

theorem rIns_sound : Sound rIns (fun i => insB i.1 i.2) := by
  rintro ⟨l, E, bd⟩ h
  unfold rIns at h ⊢
  by_cases hE : E = 0
  · subst hE
    rcases readN_back l with ⟨h1, h2, h3, h4⟩ | ⟨h1, h2, h3, h4⟩
    · simp only [h4, skip] at h
      have := h.2
      simp at this
      exact absurd this.2 h1
    · simp only [skip_ok h3] at h ⊢
      have := h.2
      simp at this
      exact ⟨⟨rfl, this.1⟩, by rw [h4]; exact (List.take_append_drop _ _).symm⟩
  · rw [skip_stop (by simpa using hE)] at h
    exact absurd h.1 hE

theorem rIns_whole : Whole rIns (fun i => insB i.1 i.2) (fun i => rightB i.1 i.2 = true) := by
  rintro ⟨op, a⟩ r h
  unfold rIns
  simp only [readN_insB h r, skip_ok (show (insB op a).length ≤ (insB op a ++ r).length by simp)]
  simp

theorem rClause_sound : Sound rClause clB := by
  intro s h
  unfold rClause at h ⊢
  obtain ⟨g1, e1⟩ := rUp_sound 199 _ h
  obtain ⟨g2, e2⟩ := rUp_sound 7 _ g1
  refine ⟨g2, ?_⟩
  rw [e2]
  conv => lhs; rw [e1]
  simp [clB]

theorem rClause_whole : Whole rClause clB (fun c => clauseB c = true) := by
  rintro ⟨p, q⟩ r h
  simp only [clauseB, Bool.and_eq_true, decide_eq_true_eq] at h
  unfold rClause clB
  simp only [List.append_assoc, rUp_whole 7 (by omega) p.toNat _ (by omega), rUp_whole 199 (by omega) q.toNat _ (by omega)]
  simp; omega

theorem rTime_sound : Sound rTime (fun n => Lib.uvarint (Lib.zigzag n)) := by
  intro s h
  unfold rTime at h ⊢
  split at h
  · rename_i ht
    rw [if_pos ht]
    obtain ⟨h1, h2⟩ := rnum_sound (l := s.l) (E := s.E) h.1
    exact ⟨⟨h1, h.2⟩, by simp only [zig_sgn]; exact h2⟩
  · exact absurd h.2 (by simp)

theorem rTime_whole : Whole rTime (fun n => Lib.uvarint (Lib.zigzag n)) (fun n => timeB n = true) := by
  intro n r h
  unfold rTime
  simp only [rnum_uv _ (time_zig h) r, sgn_zig, h, if_true]

theorem rTable_sound : Sound rTable tbB := by
  intro s h
  unfold rTable at h ⊢
  obtain ⟨g1, e1⟩ := rTime_sound _ h
  obtain ⟨g2, e2⟩ := count_sound rClause_sound 8 _ g1
  refine ⟨g2, ?_⟩
  have e2' : s.l = clsB (rClauses s).1 ++ (rClauses s).2.l := e2
  rw [e2']
  conv => lhs; rw [e1]
  simp [tbB]

theorem rTable_whole : Whole rTable tbB (fun t => longT t = false ∧ rtabB t = true) := by
  rintro ⟨cl, tm⟩ r ⟨h1, h2⟩
  simp only [rtabB, Bool.and_eq_true, List.all_eq_true] at h2
  simp [longT] at h1
  have e := count_whole rClause_whole 8 (by omega) cl (Lib.uvarint (Lib.zigzag tm) ++ r) ⟨h1, h2.2⟩
  have e' : rClauses ⟨clsB cl ++ (Lib.uvarint (Lib.zigzag tm) ++ r), 0, false⟩ = (cl, ⟨Lib.uvarint (Lib.zigzag tm) ++ r, 0, false⟩) := e
  unfold rTable tbB
  simp only [List.append_assoc, e', rTime_whole tm r h2.1]

theorem tyB_flat (l : List Int) : tyB l = Lib.uvarint l.length ++ l.flatMap (fun t => [t.toNat.toUInt8]) := by
  unfold tyB; rw [map_flat]

theorem rTypes_sound (most : Nat) : Sound (rTypes most) tyB := by
  intro s h
  rw [tyB_flat]
  exact count_sound rBy_sound most s h

theorem rTypes_whole (most : Nat) (hm : most < 18446744073709551616) : Whole (rTypes most) tyB (fun l => l.length ≤ most ∧ ∀ t ∈ l, 0 ≤ t ∧ t ≤ 255) := by
  intro l r h
  rw [tyB_flat]
  exact count_whole rBy_whole most hm l r h

theorem rCode_sound : Sound rCode cdB := count_sound rIns_sound 200
theorem rCode_whole : Whole rCode cdB (fun l => l.length ≤ 200 ∧ ∀ i ∈ l, rightB i.1 i.2 = true) := count_whole rIns_whole 200 (by omega)
theorem rTables_sound : Sound rTables tsB := count_sound rTable_sound 8
theorem rTables_whole : Whole rTables tsB (fun l => l.length ≤ 8 ∧ ∀ t ∈ l, longT t = false ∧ rtabB t = true) := count_whole rTable_whole 8 (by omega)

theorem rActor_sound : Sound rActor acB := by
  intro s h
  have e1 := rTypes_sound 4 s
  have e2 := rTypes_sound 16 (rTypes 4 s).2
  have e3 := rTypes_sound 8 (rTypes 16 (rTypes 4 s).2).2
  have e4 := rCode_sound (rTypes 8 (rTypes 16 (rTypes 4 s).2).2).2
  have e5 := rTables_sound (rCode (rTypes 8 (rTypes 16 (rTypes 4 s).2).2).2).2
  unfold rActor at h ⊢
  generalize rTypes 4 s = p1 at *
  generalize rTypes 16 p1.2 = p2 at *
  generalize rTypes 8 p2.2 = p3 at *
  generalize rCode p3.2 = p4 at *
  generalize rTables p4.2 = p5 at *
  obtain ⟨g5, e5⟩ := e5 h
  obtain ⟨g4, e4⟩ := e4 g5
  obtain ⟨g3, e3⟩ := e3 g4
  obtain ⟨g2, e2⟩ := e2 g3
  obtain ⟨g1, e1⟩ := e1 g2
  refine ⟨g1, ?_⟩
  unfold acB
  simp only [List.append_assoc]
  rw [← e5, ← e4, ← e3, ← e2, ← e1]

theorem rActor_whole (n : Int) : Whole rActor acB (fun x => longA x = false ∧ rightA x n = true) := by
  rintro x r ⟨h1, h2⟩
  obtain ⟨a1, a2, a3, a4, a5, a6⟩ := longA_no h1
  obtain ⟨b1, b2, b3, b4, b5, b6⟩ := rightA_yes h2
  have e1 := rTypes_whole 4 (by omega) x.ps (tyB x.rs ++ (tyB x.ms ++ (cdB x.cs ++ (tsB x.ts ++ r)))) ⟨a1, fun t ht => krightB_byte (b1 t (b3.subset ht))⟩
  have e2 := rTypes_whole 16 (by omega) x.rs (tyB x.ms ++ (cdB x.cs ++ (tsB x.ts ++ r))) ⟨a2, fun t ht => krightB_byte (b1 t ht)⟩
  have e3 := rTypes_whole 8 (by omega) x.ms (cdB x.cs ++ (tsB x.ts ++ r)) ⟨a3, fun t ht => krightB_byte (b2 t ht)⟩
  have e4 := rCode_whole x.cs (tsB x.ts ++ r) ⟨a4, b4⟩
  have e5 := rTables_whole x.ts r ⟨a5, fun t ht => ⟨a6 t ht, b6 t ht⟩⟩
  unfold rActor acB
  simp only [List.append_assoc, e1, e2, e3, e4, e5]

theorem rMag_sound {s : RS} (h : (rMag 3 s).Good) : s.Good ∧ s.l = magB ++ (rMag 3 s).l := by
  have step : ∀ k, (rMag (k + 1) s).Good → (rMag k s).Good ∧ (rMag k s).l = [(magN k).toNat.toUInt8] ++ (rMag (k + 1) s).l := by
    intro k hk
    simp only [rMag, RS.Good, Bool.or_eq_false_iff, bne_eq_false_iff_eq] at hk
    obtain ⟨h1, h2, h3⟩ := hk
    have hb : (rBy (rMag k s)).2.Good := ⟨h1, h2⟩
    obtain ⟨g, e⟩ := rBy_sound _ hb
    exact ⟨g, by rw [e, h3]; rfl⟩
  obtain ⟨g2, e2⟩ := step 2 h
  obtain ⟨g1, e1⟩ := step 1 g2
  obtain ⟨g0, e0⟩ := step 0 g1
  refine ⟨g0, ?_⟩
  show (rMag 0 s).l = _
  rw [e0, e1, e2]; rfl

theorem rMag_whole (r : List UInt8) : rMag 3 ⟨magB ++ r, 0, false⟩ = ⟨r, 0, false⟩ := by
  simp [rMag, magB, rBy, rbyte, magN]

theorem rMod_sound {s : RS} (h : (rMod s).2.Good) : s.Good ∧ s.l = moB (rMod s).1 ++ (rMod s).2.l := by
  unfold rMod at h ⊢
  obtain ⟨g1, e1⟩ := count_sound rActor_sound 8 _ h
  obtain ⟨g2, e2⟩ := rMag_sound g1
  refine ⟨g2, ?_⟩
  rw [e2]
  conv => lhs; rw [e1]
  simp [moB]

theorem rMod_whole {m : List Ac} (h : rightE m = 0) (r : List UInt8) : rMod ⟨moB m ++ r, 0, false⟩ = (m, ⟨r, 0, false⟩) := by
  obtain ⟨h1, h2⟩ := rightE_ok h
  obtain ⟨a1, a2⟩ := longM_no h1
  obtain ⟨b1, b2⟩ := rightM_yes h2
  unfold rMod moB
  rw [List.append_assoc, rMag_whole]
  exact count_whole (rActor_whole m.length) 8 (by omega) m r ⟨a1, fun x hx => ⟨a2 x hx, b2 x hx⟩⟩

/-- what Read answers -/
def okR (m : List Ac) (s : RS) : Bool := !s.bad && (rend s.l s.E == 0) && (rightE m == 0)
def readX (l : List UInt8) : List Ac × Int := if l.length > 65536 then ([], 3) else if okR (rMod ⟨l, 0, false⟩).1 (rMod ⟨l, 0, false⟩).2 then ((rMod ⟨l, 0, false⟩).1, 0) else ([], 5)

theorem rend_ok {l : List UInt8} {E : Int} (h : rend l E = 0) : E = 0 ∧ l = [] := by
  unfold rend at h
  by_cases hE : E = 0
  · subst hE
    by_cases hl : l = []
    · exact ⟨rfl, hl⟩
    · simp [hl] at h
  · simp [hE] at h

theorem readX_sound {l : List UInt8} {m : List Ac} (h : readX l = (m, 0)) : rightE m = 0 ∧ l = moB m := by
  unfold readX at h
  split at h
  · simp at h
  · split at h
    · rename_i hk
      simp only [Prod.mk.injEq, and_true] at h
      subst h
      simp only [okR, Bool.and_eq_true, Bool.not_eq_true', beq_iff_eq] at hk
      obtain ⟨⟨h1, h2⟩, h3⟩ := hk
      obtain ⟨h4, h5⟩ := rend_ok h2
      obtain ⟨_, e⟩ := rMod_sound (s := ⟨l, 0, false⟩) ⟨h4, h1⟩
      rw [h5, List.append_nil] at e
      exact ⟨h3, e⟩
    · simp at h

theorem readX_whole {m : List Ac} (h : rightE m = 0) : readX (moB m) = (m, 0) := by
  have hl := moB_le h
  have e := rMod_whole h []
  rw [List.append_nil] at e
  unfold readX
  rw [if_neg (by omega), e, if_pos (by simp [okR, rend, h])]

theorem readX_cases (l : List UInt8) : (∃ m, rightE m = 0 ∧ l = moB m ∧ readX l = (m, 0)) ∨ ((∀ m, rightE m = 0 → l ≠ moB m) ∧ readX l = ([], if l.length > 65536 then 3 else 5)) := by
  by_cases h : (readX l).2 = 0
  · obtain ⟨h1, h2⟩ := readX_sound (l := l) (m := (readX l).1) (by rw [← h])
    exact .inl ⟨_, h1, h2, by rw [← h]⟩
  · refine .inr ⟨fun m hm e => h (by rw [e, readX_whole hm]), ?_⟩
    unfold readX at h ⊢
    split
    · rfl
    · rename_i hl
      rw [if_neg hl] at h
      split at h
      · simp at h
      · rename_i hk; rw [if_neg hk]

theorem moB_prefix {m m' : List Ac} {r r' : List UInt8} (h : rightE m = 0) (h' : rightE m' = 0) (e : moB m ++ r = moB m' ++ r') : m = m' ∧ r = r' := by
  have e1 := rMod_whole h r
  have e2 := rMod_whole h' r'
  rw [e, e2] at e1
  simp only [Prod.mk.injEq, RS.mk.injEq, and_true] at e1
  exact ⟨e1.1.symm, e1.2.symm⟩

end Go.Proofs.Ythdpgachdegcgaa
