/-
  The document's queue in memory.
-/
import Derived.Test.YtingpopcdihclabMqLinear
namespace Go.Proofs.Ytingpopcdihclab
open Go.RowKit
set_option linter.unusedVariables false
set_option maxRecDepth 8192

/-- a thread of the document's -/
structure Rt where
  on : Bool
  made : Nat
  node : Nat
  prev : Nat
def Rt.zero : Rt := ⟨false, 0, 0, 0⟩
/-- the document's queue -/
structure Rf where
  V : List Int
  N : List Nat
  head : Nat
  tail : Nat
  th : Nat → Rt
def Rf.set (R : Rf) (k : Nat) (r : Rt) : Rf := { R with th := fun i => if i = k then r else R.th i }
def Rf.wN (R : Rf) (i x : Nat) : Rf := { R with N := R.N.set i x }
def Rf.whead (R : Rf) (x : Nat) : Rf := { R with head := x }
def Rf.wtail (R : Rf) (x : Nat) : Rf := { R with tail := x }
theorem rset_th (R : Rf) (k : Nat) (r : Rt) : (R.set k r).th k = r := by simp [Rf.set]
theorem rset_ne (R : Rf) {i k : Nat} (r : Rt) (h : i ≠ k) : (R.set k r).th i = R.th i := by simp [Rf.set, h]

/-- a row of 64-bit numbers in block g, with room for cap -/
def RW (w : World) (g cap : Nat) (xs : List Int) : Prop := ∃ cs : Array Value, w.heap[g]? = some (.cells cs 2 (0, 0)) ∧ cs.size = cap ∧ cap ≤ maxLen ∧ xs.length ≤ cap ∧ ∀ (i : Nat) (x : Int), xs[i]? = some x → cs[i]? = some (Value.int .i64 x)

theorem RW.fr {P : Nat → Prop} {w w' : World} {g cap : Nat} {xs : List Int} (h : RW w g cap xs) (hf : Fr P w w') (hP : ¬ P g) : RW w' g cap xs := by
  obtain ⟨cs, h1, h2⟩ := h
  exact ⟨cs, hf.blk h1 hP, h2⟩
theorem RW.lt {w : World} {g cap : Nat} {xs : List Int} (h : RW w g cap xs) : g < w.heap.size := by obtain ⟨cs, h1, _⟩ := h; exact lt_of_blk h1
theorem RW.cell {w : World} {g cap : Nat} {xs : List Int} (h : RW w g cap xs) {i : Nat} {x : Int} (hx : xs[i]? = some x) : w.cell? ⟨g, i, none⟩ = some (.int .i64 x) := by
  obtain ⟨cs, h1, _, _, _, h2⟩ := h
  rw [cell_at h1]; exact h2 i x hx
theorem RW.free {w : World} {g cap : Nat} {xs : List Int} (h : RW w g cap xs) (i : Nat) : w.frozen? ⟨g, i, none⟩ = false := by obtain ⟨cs, h1, _⟩ := h; exact free_at h1 i
theorem RW.set {w : World} {g cap : Nat} {xs : List Int} (h : RW w g cap xs) {i : Nat} (hi : i < xs.length) (x : Int) : RW (w.setCell ⟨g, i, none⟩ (.int .i64 x)) g cap (xs.set i x) := by
  obtain ⟨cs, h1, h2, h3, h4, h5⟩ := h
  refine ⟨_, blk_setCell h1, by simpa using h2, h3, by simpa using h4, fun j y hj => ?_⟩
  rw [Array.getElem?_setIfInBounds]
  by_cases e : i = j
  · subst e
    rw [List.getElem?_set_self hi] at hj
    cases hj
    rw [if_pos rfl, if_pos (by omega)]
  · rw [List.getElem?_set_ne e] at hj
    rw [if_neg e]; exact h5 j y hj
theorem RW.owns {w : World} {g cap : Nat} {xs : List Int} (h : RW w g cap xs) : w.ownsRow 0 2 1 (.slice (some ⟨g, 0, none⟩) xs.length cap) xs.length (rowV2 xs) := by
  obtain ⟨cs, h1, h2, h3, h4, h5⟩ := h
  refine ⟨by simp [rowV2], .inr ⟨g, cap, cs, rfl, Nat.zero_le _, h1, h4, h3, by omega, ?_⟩⟩
  apply List.ext_getElem?
  intro i
  rw [List.getElem?_take]
  unfold rowV2
  rw [List.getElem?_map]
  by_cases hi : i < xs.length
  · have hx := List.getElem?_eq_getElem hi
    rw [if_pos (by omega), hx, Array.getElem?_toList, h5 i _ hx]; rfl
  · rw [if_neg (by omega), List.getElem?_eq_none (by omega)]; rfl
theorem RW.of {w : World} {v : Value} {n : Nat} {xs : List Int} (h : w.ownsRow 0 2 1 v n (rowV2 xs)) (hn : 0 < n) : ∃ g cap, v = .slice (some ⟨g, 0, none⟩) n cap ∧ v.ownBlock = some g ∧ n = xs.length ∧ RW w g cap xs := by
  have hl : xs.length = n := by have := h.1; simpa [rowV2] using this
  rcases h.2 with ⟨rfl, h0⟩ | ⟨g, cap, cs, rfl, _, h1, h2, h3, h4, h5⟩
  · omega
  · refine ⟨g, cap, rfl, rfl, hl.symm, cs, h1, by omega, h3, by omega, fun i x hx => ?_⟩
    have hi := (List.getElem?_eq_some_iff.1 hx).1
    have : (cs.toList.take (n * 1))[i]? = some (.int .i64 x) := by rw [h5]; unfold rowV2; rw [List.getElem?_map, hx]; rfl
    rw [List.getElem?_take, if_pos (by omega)] at this
    simpa using this

/-- a thread's four cells -/
def TC (cs : Array Value) (o : Nat) (r : Rt) : Prop :=
  cs[o]? = some (.bool r.on) ∧ cs[o + 1]? = some (.int .i64 (r.made : Int)) ∧ cs[o + 2]? = some (.int .i64 (r.node : Int)) ∧ cs[o + 3]? = some (.int .i64 (r.prev : Int))

def castN (l : List Nat) : List Int := l.map (fun x : Nat => (x : Int))

/-- the document's queue at block b -/
structure IsR (w : World) (lo b h gv gn cv cn : Nat) (R : Rf) : Prop where
  blk : w.heap[b]? = some (.cells #[.slice (some ⟨gv, 0, none⟩) R.V.length cv, .slice (some ⟨gn, 0, none⟩) R.N.length cn, .int .i64 (R.head : Int), .int .i64 (R.tail : Int), .slice (some ⟨h, 0, none⟩) 8 8] 45 (0, 0))
  rv : RW w gv cv R.V
  rn : RW w gn cn (castN R.N)
  ths : ∃ cs : Array Value, w.heap[h]? = some (.cells cs 41 (0, 0)) ∧ cs.size = 32 ∧ ∀ k, k < 8 → TC cs (k * 4) (R.th k)
  ne : gv ≠ gn
  los : lo ≤ b ∧ lo ≤ h ∧ lo ≤ gv ∧ lo ≤ gn

theorem castN_len (l : List Nat) : (castN l).length = l.length := by simp [castN]
theorem castN_at {l : List Nat} {i x : Nat} (h : l[i]? = some x) : (castN l)[i]? = some (x : Int) := by simp [castN, List.getElem?_map, h]

section
variable {w w' : World} {lo b h gv gn cv cn : Nat} {R : Rf}

theorem IsR.fr {P : Nat → Prop} (m : IsR w lo b h gv gn cv cn R) (hf : Fr P w w') (h1 : ¬ P b) (h2 : ¬ P h) (h3 : ¬ P gv) (h4 : ¬ P gn) : IsR w' lo b h gv gn cv cn R := by
  obtain ⟨cs, g1, g2⟩ := m.ths
  exact ⟨hf.blk m.blk h1, m.rv.fr hf h3, m.rn.fr hf h4, ⟨cs, hf.blk g1 h2, g2⟩, m.ne, m.los⟩
theorem IsR.same (m : IsR w lo b h gv gn cv cn R) (e : w'.heap = w.heap) : IsR w' lo b h gv gn cv cn R := by
  obtain ⟨h1, h2, h3, h4, h5, h6⟩ := m
  exact ⟨by rw [e]; exact h1, by unfold RW at *; rw [e]; exact h2, by unfold RW at *; rw [e]; exact h3, by rw [e]; exact h4, h5, h6⟩
theorem IsR.al (m : IsR w lo b h gv gn cv cn R) (o : Obj) : IsR (w.alloc o) lo b h gv gn cv cn R := m.fr ((Fr.refl (fun _ => False) w).alloc o) (fun h => h) (fun h => h) (fun h => h) (fun h => h)
theorem IsR.nbh (m : IsR w lo b h gv gn cv cn R) : b ≠ h := by
  rintro rfl
  obtain ⟨cs, g1, _⟩ := m.ths
  have := m.blk
  rw [g1] at this
  cases this
theorem IsR.nbv (m : IsR w lo b h gv gn cv cn R) : b ≠ gv := by
  rintro rfl
  obtain ⟨cs, g1, _⟩ := m.rv
  have := m.blk
  rw [g1] at this
  cases this
theorem IsR.nbn (m : IsR w lo b h gv gn cv cn R) : b ≠ gn := by
  rintro rfl
  obtain ⟨cs, g1, _⟩ := m.rn
  have := m.blk
  rw [g1] at this
  cases this
theorem IsR.nhv (m : IsR w lo b h gv gn cv cn R) : h ≠ gv := by
  rintro rfl
  obtain ⟨cs, g1, _⟩ := m.rv
  obtain ⟨ct, g2, _⟩ := m.ths
  rw [g1] at g2
  cases g2
theorem IsR.nhn (m : IsR w lo b h gv gn cv cn R) : h ≠ gn := by
  rintro rfl
  obtain ⟨cs, g1, _⟩ := m.rn
  obtain ⟨ct, g2, _⟩ := m.ths
  rw [g1] at g2
  cases g2
theorem IsR.ltb (m : IsR w lo b h gv gn cv cn R) : b < w.heap.size := lt_of_blk m.blk
theorem IsR.lth (m : IsR w lo b h gv gn cv cn R) : h < w.heap.size := by obtain ⟨cs, g1, _⟩ := m.ths; exact lt_of_blk g1
theorem IsR.fb (m : IsR w lo b h gv gn cv cn R) (i : Nat) : w.frozen? ⟨b, i, none⟩ = false := free_at m.blk i
theorem IsR.fh (m : IsR w lo b h gv gn cv cn R) (i : Nat) : w.frozen? ⟨h, i, none⟩ = false := by obtain ⟨cs, g1, _⟩ := m.ths; exact free_at g1 i
theorem IsR.c0 (m : IsR w lo b h gv gn cv cn R) : w.cell? ⟨b, 0, none⟩ = some (.slice (some ⟨gv, 0, none⟩) R.V.length cv) := (cell_at m.blk 0).trans rfl
theorem IsR.c1 (m : IsR w lo b h gv gn cv cn R) : w.cell? ⟨b, 1, none⟩ = some (.slice (some ⟨gn, 0, none⟩) R.N.length cn) := (cell_at m.blk 1).trans rfl
theorem IsR.c2 (m : IsR w lo b h gv gn cv cn R) : w.cell? ⟨b, 2, none⟩ = some (.int .i64 (R.head : Int)) := (cell_at m.blk 2).trans rfl
theorem IsR.c3 (m : IsR w lo b h gv gn cv cn R) : w.cell? ⟨b, 3, none⟩ = some (.int .i64 (R.tail : Int)) := (cell_at m.blk 3).trans rfl
theorem IsR.c4 (m : IsR w lo b h gv gn cv cn R) : w.cell? ⟨b, 4, none⟩ = some (.slice (some ⟨h, 0, none⟩) 8 8) := (cell_at m.blk 4).trans rfl
theorem IsR.cv' (m : IsR w lo b h gv gn cv cn R) {i : Nat} {x : Int} (hx : R.V[i]? = some x) : w.cell? ⟨gv, i, none⟩ = some (.int .i64 x) := m.rv.cell hx
theorem IsR.cn' (m : IsR w lo b h gv gn cv cn R) {i x : Nat} (hx : R.N[i]? = some x) : w.cell? ⟨gn, i, none⟩ = some (.int .i64 (x : Int)) := m.rn.cell (castN_at hx)
theorem IsR.ct (m : IsR w lo b h gv gn cv cn R) {k : Nat} (hk : k < 8) : w.cell? ⟨h, k * 4, none⟩ = some (.bool (R.th k).on) ∧ w.cell? ⟨h, k * 4 + 1, none⟩ = some (.int .i64 ((R.th k).made : Int)) ∧ w.cell? ⟨h, k * 4 + 2, none⟩ = some (.int .i64 ((R.th k).node : Int)) ∧ w.cell? ⟨h, k * 4 + 3, none⟩ = some (.int .i64 ((R.th k).prev : Int)) := by
  obtain ⟨cs, h1, _, h2⟩ := m.ths
  have := h2 k hk
  simp only [cell_at h1]
  exact this
end

theorem TC.set {cs : Array Value} {o : Nat} {r : Rt} (h : TC cs o r) {i : Nat} (hi : i < o ∨ o + 4 ≤ i) (u : Value) : TC (cs.setIfInBounds i u) o r := by
  obtain ⟨h1, h2, h3, h4⟩ := h
  refine ⟨?_, ?_, ?_, ?_⟩ <;> (rw [Array.getElem?_setIfInBounds, if_neg (by omega)]; assumption)

/-- a thread's cells, all four -/
abbrev rset4 (w : World) (h o : Nat) (r : Rt) : World :=
  (((w.setCell ⟨h, o, none⟩ (.bool r.on)).setCell ⟨h, o + 1, none⟩ (.int .i64 (r.made : Int))).setCell ⟨h, o + 2, none⟩ (.int .i64 (r.node : Int))).setCell ⟨h, o + 3, none⟩ (.int .i64 (r.prev : Int))
theorem rset4_fr (w : World) (h o : Nat) (r : Rt) : Fr (fun k => k = h) w (rset4 w h o r) :=
  ((((Fr.refl (fun k => k = h) w).setAt _ _ _ (.inr rfl)).setAt _ _ _ (.inr rfl)).setAt _ _ _ (.inr rfl)).setAt _ _ _ (.inr rfl)

section
variable {w : World} {lo b h gv gn cv cn : Nat} {R : Rf}

theorem IsR.sth (m : IsR w lo b h gv gn cv cn R) {k : Nat} (hk : k < 8) (r : Rt) : IsR (rset4 w h (k * 4) r) lo b h gv gn cv cn (R.set k r) := by
  have hf := rset4_fr w h (k * 4) r
  obtain ⟨cs, h5, h6, h7⟩ := m.ths
  refine ⟨hf.blk m.blk m.nbh, m.rv.fr hf (fun e => m.nhv e.symm), m.rn.fr hf (fun e => m.nhn e.symm), ?_, m.ne, m.los⟩
  have b1 := blk_setCell (i := k * 4) (u := .bool r.on) h5
  have b2 := blk_setCell (i := k * 4 + 1) (u := .int .i64 (r.made : Int)) b1
  have b3 := blk_setCell (i := k * 4 + 2) (u := .int .i64 (r.node : Int)) b2
  have b4 := blk_setCell (i := k * 4 + 3) (u := .int .i64 (r.prev : Int)) b3
  refine ⟨_, b4, by simpa using h6, fun i hi => ?_⟩
  by_cases e : i = k
  · subst e
    rw [rset_th]
    refine ⟨?_, ?_, ?_, ?_⟩ <;> (simp only [Array.getElem?_setIfInBounds, Array.size_setIfInBounds]; simp; try omega)
  · rw [rset_ne R r e]
    exact ((((h7 i hi).set (by omega) _).set (by omega) _).set (by omega) _).set (by omega) _
theorem IsR.shead (m : IsR w lo b h gv gn cv cn R) (x : Nat) : IsR (w.setCell ⟨b, 2, none⟩ (.int .i64 (x : Int))) lo b h gv gn cv cn (R.whead x) := by
  have hf := Fr.set1 w b 2 (.int .i64 (x : Int))
  obtain ⟨cs, h5, h6⟩ := m.ths
  exact ⟨by rw [blk_setCell m.blk]; simp [Rf.whead], m.rv.fr hf (fun e => m.nbv e.symm), m.rn.fr hf (fun e => m.nbn e.symm), ⟨cs, hf.blk h5 (fun e => m.nbh e.symm), h6⟩, m.ne, m.los⟩
theorem IsR.stail (m : IsR w lo b h gv gn cv cn R) (x : Nat) : IsR (w.setCell ⟨b, 3, none⟩ (.int .i64 (x : Int))) lo b h gv gn cv cn (R.wtail x) := by
  have hf := Fr.set1 w b 3 (.int .i64 (x : Int))
  obtain ⟨cs, h5, h6⟩ := m.ths
  exact ⟨by rw [blk_setCell m.blk]; simp [Rf.wtail], m.rv.fr hf (fun e => m.nbv e.symm), m.rn.fr hf (fun e => m.nbn e.symm), ⟨cs, hf.blk h5 (fun e => m.nbh e.symm), h6⟩, m.ne, m.los⟩
theorem IsR.sN (m : IsR w lo b h gv gn cv cn R) {i : Nat} (hi : i < R.N.length) (x : Nat) : IsR (w.setCell ⟨gn, i, none⟩ (.int .i64 (x : Int))) lo b h gv gn cv cn (R.wN i x) := by
  have hf := Fr.set1 w gn i (.int .i64 (x : Int))
  obtain ⟨cs, h5, h6⟩ := m.ths
  have hr := m.rn.set (i := i) (by rw [castN_len]; exact hi) (x : Int)
  rw [show (castN R.N).set i (x : Int) = castN (R.N.set i x) by simp [castN, List.map_set]] at hr
  refine ⟨?_, m.rv.fr hf m.ne, hr, ⟨cs, hf.blk h5 m.nhn, h6⟩, m.ne, m.los⟩
  have := hf.blk m.blk m.nbn
  simpa [Rf.wN] using this
end

/-- what a step came to, in a block of its own (the document's) -/
def QmAt (w : World) (b : Nat) (x : Qn) : Prop := w.heap[b]? = some (.cells #[.bool x.over, .bool x.take, .int .i64 x.v, .int .i64 x.err] 36 (0, 0))
theorem load_qm {w : World} {b : Nat} {x : Qn} (h : QmAt w b x) : (loadVar 36 ⟨b, 0, none⟩).run Try.prog w = .ok (qnV x) w := by
  refine run_loadVar_mid w b 0 36 [.bool x.over, .bool x.take, .int .i64 x.v, .int .i64 x.err] _ ?_ Try.underlying36 rfl (by kernel_rfl)
  intro j v hv
  match j, hv with
  | 0, hv => simpa using (cell_at h 0).trans hv
  | 1, hv => simpa using (cell_at h 1).trans hv
  | 2, hv => simpa using (cell_at h 2).trans hv
  | 3, hv => simpa using (cell_at h 3).trans hv
theorem results_qm {fn : Func} {p : Tmp} (h : fn.results = #[.cell p 36]) (tmps : Array Value) (w : World) (b : Nat) (x : Qn) (hp : tmps.getD p undef = .pointer (some ⟨b, 0, none⟩))
    (hb : QmAt w b x) : (results fn tmps).run Try.prog w = .ok (qnV x) w := by
  have e : (results fn tmps).run Try.prog w = ((asAddr (tmps.getD p undef)).run Try.prog w).andThen fun a w₁ => ((loadVar 36 a).run Try.prog w₁).andThen fun x w₂ => .ok x w₂ := by
    simp only [results, h]
    simp [Sem.run_bind, Result.andThen]
    cases (asAddr (tmps[p]?.getD undef)).run Try.prog w with
    | halt h w => rfl
    | ok a w => dsimp only; cases (loadVar 36 a).run Try.prog w <;> rfl
  have := load_qm hb
  rw [e, hp]
  simp only [asAddr, Sem.run_pure, Result.andThen_ok, this]
theorem results_qm2 {fn : Func} {p u : Tmp} (h : fn.results = #[.cell p 36, .tmp u]) (tmps : Array Value) (w : World) (b : Nat) (x : Qn) (hp : tmps.getD p undef = .pointer (some ⟨b, 0, none⟩))
    (hb : QmAt w b x) : (results fn tmps).run Try.prog w = .ok (.tuple #[qnV x, tmps.getD u undef]) w := by
  rw [results_cell_tmp h, hp]
  have := load_qm hb
  simp only [asAddr, Sem.run_pure, Result.andThen_ok, this]
theorem QmAt.new (w : World) : QmAt (w.alloc (.cells #[.bool false, .bool false, .int .i64 0, .int .i64 0] 36)) w.heap.size Qn.none := blk_new w _
theorem QmAt.fr {P : Nat → Prop} {w w' : World} {b : Nat} {x : Qn} (h : QmAt w b x) (hf : Fr P w w') (hb : ¬ P b) : QmAt w' b x := hf.blk h hb
theorem QmAt.set {w : World} {b : Nat} {x : Qn} (h : QmAt w b x) (y : Qn) :
    QmAt ((((w.setCell ⟨b, 0, none⟩ (.bool y.over)).setCell ⟨b, 1, none⟩ (.bool y.take)).setCell ⟨b, 2, none⟩ (.int .i64 y.v)).setCell ⟨b, 3, none⟩ (.int .i64 y.err)) b y := by
  have h1 := blk_setCell (i := 0) (u := .bool y.over) h
  have h2 := blk_setCell (i := 1) (u := .bool y.take) h1
  have h3 := blk_setCell (i := 2) (u := .int .i64 y.v) h2
  have h4 := blk_setCell (i := 3) (u := .int .i64 y.err) h3
  exact h4
theorem QmAt.cs {w : World} {b : Nat} {x : Qn} (h : QmAt w b x) : (w.cell? ⟨b, 0, none⟩ = some (.bool x.over) ∧ w.cell? ⟨b, 1, none⟩ = some (.bool x.take) ∧ w.cell? ⟨b, 2, none⟩ = some (.int .i64 x.v) ∧ w.cell? ⟨b, 3, none⟩ = some (.int .i64 x.err)) ∧
    (w.frozen? ⟨b, 0, none⟩ = false ∧ w.frozen? ⟨b, 1, none⟩ = false ∧ w.frozen? ⟨b, 2, none⟩ = false ∧ w.frozen? ⟨b, 3, none⟩ = false) :=
  ⟨⟨(cell_at h 0).trans rfl, (cell_at h 1).trans rfl, (cell_at h 2).trans rfl, (cell_at h 3).trans rfl⟩, free_at h 0, free_at h 1, free_at h 2, free_at h 3⟩

end Go.Proofs.Ytingpopcdihclab
