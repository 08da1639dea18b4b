/-
  A deque in memory, and its small functions walked.
-/
import Derived.Test.YtingpopcdihclaaProg
import Derived.Test.YtingpopcdihclaaKit
import Derived.Test.YtingpopcdihclaaDqPlain
import Derived.Laws.MakeOwn
import Derived.Laws.OwnMore
import Derived.Laws.EntriesVeiled
import Derived.Laws.ResultCell
import Derived.Deep.MidRow
import Derived.Deep.QuietTactic
import Derived.BigQuiet
import Derived.RegionTactic
import Derived.Deep.DeepFit
import Derived.Deep.RegionWith
namespace Go.Proofs.Ytingpopcdihclaa
open Go.RowKit
set_option linter.unusedVariables false
set_option maxRecDepth 8192

/-- the function that is a thread's next access -/
def nx : Nat → Value
  | 0 => .nilFunc
  | 1 => .func (.func 33) #[] #[]
  | 2 => .func (.func 38) #[] #[]
  | 3 => .func (.func 42) #[] #[]
  | 4 => .func (.func 45) #[] #[]
  | 5 => .func (.func 34) #[] #[]
  | 6 => .func (.func 39) #[] #[]
  | 7 => .func (.func 43) #[] #[]
  | 8 => .func (.func 47) #[] #[]
  | 9 => .func (.func 49) #[] #[]
  | 10 => .func (.func 46) #[] #[]
  | 11 => .func (.func 35) #[] #[]
  | 12 => .func (.func 40) #[] #[]
  | 13 => .func (.func 44) #[] #[]
  | _ => .func (.func 48) #[] #[]

/-- a thread's five cells -/
def RC (cs : Array Value) (o : Nat) (r : Rn) : Prop :=
  cs[o]? = some (nx r.pc) ∧ cs[o + 1]? = some (.int .i64 r.v) ∧ cs[o + 2]? = some (.int .i64 r.t) ∧ cs[o + 3]? = some (.int .i64 r.b) ∧ cs[o + 4]? = some (.bool r.won)

/-- a deque's cells -/
def DC (cs : Array Value) (g S : Nat) (d : Dq) : Prop :=
  cs.size = 43 ∧ cs[0]? = some (.int .i64 d.top) ∧ cs[1]? = some (.int .i64 d.bot) ∧ cs[2]? = some (.slice (some ⟨g, 0, none⟩) S S) ∧ ∀ k, k < 8 → RC cs (3 + k * 5) (d.th k)

/-- the deque at block b, its places in block g -/
structure IsD (w : World) (b g S : Nat) (d : Dq) : Prop where
  blk : ∃ cs, w.heap[b]? = some (.cells cs 68 (0, 0)) ∧ DC cs g S d
  row : ∃ cs : Array Value, w.heap[g]? = some (.cells cs 2 (0, 0)) ∧ cs.size = S ∧ ∀ i, i < S → cs[i]? = some (.int .i64 (d.pl i))
  pos : 0 < S
  most : S ≤ 64
  ne : b ≠ g

/-- of the blocks that were there none but the deque's two has turned -/
abbrev FrD (b g : Nat) := Fr (fun k => k = b ∨ k = g)

theorem IsD.fr {P : Nat → Prop} {w w' : World} {b g S : Nat} {d : Dq} (h : IsD w b g S d) (hf : Fr P w w') (hb : ¬ P b) (hg : ¬ P g) : IsD w' b g S d := by
  obtain ⟨cs, h1, h2⟩ := h.blk
  obtain ⟨cg, h3, h4⟩ := h.row
  exact ⟨⟨cs, hf.blk h1 hb, h2⟩, ⟨cg, hf.blk h3 hg, h4⟩, h.pos, h.most, h.ne⟩

theorem IsD.same {w w' : World} {b g S : Nat} {d : Dq} (h : IsD w b g S d) (e : w'.heap = w.heap) : IsD w' b g S d := by
  obtain ⟨h1, h2, h3, h4, h5⟩ := h
  exact ⟨by rw [e]; exact h1, by rw [e]; exact h2, h3, h4, h5⟩
theorem IsD.drewN {w : World} {b g S : Nat} {d : Dq} (h : IsD w b g S d) (n : Nat) : IsD (w.drewN n) b g S d := h.same rfl
theorem IsD.drew {w : World} {b g S : Nat} {d : Dq} (h : IsD w b g S d) : IsD w.drew b g S d := h.same rfl
theorem IsD.lt {w : World} {b g S : Nat} {d : Dq} (h : IsD w b g S d) : b < w.heap.size := by obtain ⟨cs, h1, _⟩ := h.blk; exact lt_of_blk h1
theorem IsD.ltg {w : World} {b g S : Nat} {d : Dq} (h : IsD w b g S d) : g < w.heap.size := by obtain ⟨cs, h1, _⟩ := h.row; exact lt_of_blk h1

theorem IsD.free {w : World} {b g S : Nat} {d : Dq} (h : IsD w b g S d) (i : Nat) : w.frozen? ⟨b, i, none⟩ = false := by obtain ⟨cs, h1, _⟩ := h.blk; exact free_at h1 i
theorem IsD.freeg {w : World} {b g S : Nat} {d : Dq} (h : IsD w b g S d) (i : Nat) : w.frozen? ⟨g, i, none⟩ = false := by obtain ⟨cs, h1, _⟩ := h.row; exact free_at h1 i
theorem IsD.c0 {w : World} {b g S : Nat} {d : Dq} (h : IsD w b g S d) : w.cell? ⟨b, 0, none⟩ = some (.int .i64 d.top) := by obtain ⟨cs, h1, h2⟩ := h.blk; rw [cell_at h1]; exact h2.2.1
theorem IsD.c1 {w : World} {b g S : Nat} {d : Dq} (h : IsD w b g S d) : w.cell? ⟨b, 1, none⟩ = some (.int .i64 d.bot) := by obtain ⟨cs, h1, h2⟩ := h.blk; rw [cell_at h1]; exact h2.2.2.1
theorem IsD.c2 {w : World} {b g S : Nat} {d : Dq} (h : IsD w b g S d) : w.cell? ⟨b, 2, none⟩ = some (.slice (some ⟨g, 0, none⟩) S S) := by obtain ⟨cs, h1, h2⟩ := h.blk; rw [cell_at h1]; exact h2.2.2.2.1
theorem IsD.cg {w : World} {b g S : Nat} {d : Dq} (h : IsD w b g S d) {i : Nat} (hi : i < S) : w.cell? ⟨g, i, none⟩ = some (.int .i64 (d.pl i)) := by obtain ⟨cs, h1, h2, h3⟩ := h.row; rw [cell_at h1]; exact h3 i hi
theorem IsD.ct {w : World} {b g S : Nat} {d : Dq} (h : IsD w b g S d) {k o : Nat} (hk : k < 8) (ho : o = 3 + k * 5) :
    w.cell? ⟨b, o, none⟩ = some (nx (d.th k).pc) ∧ w.cell? ⟨b, o + 1, none⟩ = some (.int .i64 (d.th k).v) ∧ w.cell? ⟨b, o + 2, none⟩ = some (.int .i64 (d.th k).t) ∧ w.cell? ⟨b, o + 3, none⟩ = some (.int .i64 (d.th k).b) ∧ w.cell? ⟨b, o + 4, none⟩ = some (.bool (d.th k).won) := by
  obtain ⟨cs, h1, h2⟩ := h.blk
  subst ho
  have := h2.2.2.2.2 k hk
  simp only [cell_at h1]
  exact this

theorem RC.set {cs : Array Value} {o : Nat} {r : Rn} (h : RC cs o r) {i : Nat} (hi : i < o ∨ o + 5 ≤ i) (u : Value) : RC (cs.setIfInBounds i u) o r := by
  obtain ⟨h1, h2, h3, h4, h5⟩ := h
  refine ⟨?_, ?_, ?_, ?_, ?_⟩ <;> (rw [Array.getElem?_setIfInBounds, if_neg (by omega)]; assumption)

/-- any cell of a thread's is stored to -/
theorem IsD.th {w : World} {b g S : Nat} {d : Dq} (h : IsD w b g S d) {k : Nat} (hk : k < 8) (j : Nat) (hj : j < 5) (u : Value) (r : Rn)
    (hr : ∀ cs : Array Value, cs.size = 43 → RC cs (3 + k * 5) (d.th k) → RC (cs.setIfInBounds (3 + k * 5 + j) u) (3 + k * 5) r) : IsD (w.setCell ⟨b, 3 + k * 5 + j, none⟩ u) b g S (d.set k r) := by
  obtain ⟨cs, h1, h2, h3, h4, h5, h6⟩ := h.blk
  obtain ⟨cg, h7, h8, h9⟩ := h.row
  refine ⟨⟨_, blk_setCell h1, by simpa using h2, ?_, ?_, ?_, fun i hi => ?_⟩, ⟨cg, (Fr.set1 w b (3 + k * 5 + j) u).blk h7 (fun e => h.ne e.symm), h8, h9⟩, h.pos, h.most, h.ne⟩
  · rw [Array.getElem?_setIfInBounds, if_neg (by omega)]; exact h3
  · rw [Array.getElem?_setIfInBounds, if_neg (by omega)]; exact h4
  · rw [Array.getElem?_setIfInBounds, if_neg (by omega)]; exact h5
  · by_cases e : i = k
    · subst e; rw [set_th]; exact hr cs h2 (h6 i hi)
    · rw [set_ne d r e]; exact (h6 i hi).set (by omega) u

theorem IsD.snx {w : World} {b g S : Nat} {d : Dq} (h : IsD w b g S d) {k o : Nat} (hk : k < 8) (ho : o = 3 + k * 5) (p : Nat) : IsD (w.setCell ⟨b, o, none⟩ (nx p)) b g S (d.set k { d.th k with pc := p }) := by
  subst ho
  refine h.th hk 0 (by omega) _ _ (fun cs hs ⟨h1, h2, h3, h4, h5⟩ => ?_)
  refine ⟨?_, ?_, ?_, ?_, ?_⟩ <;> rw [Array.getElem?_setIfInBounds] <;> first | (rw [if_pos (by omega), if_pos (by omega)]) | (rw [if_neg (by omega)]; assumption)
theorem IsD.sv {w : World} {b g S : Nat} {d : Dq} (h : IsD w b g S d) {k o : Nat} (hk : k < 8) (ho : o = 3 + k * 5) (x : Int) : IsD (w.setCell ⟨b, o + 1, none⟩ (.int .i64 x)) b g S (d.set k { d.th k with v := x }) := by
  subst ho
  refine h.th hk 1 (by omega) _ _ (fun cs hs ⟨h1, h2, h3, h4, h5⟩ => ?_)
  refine ⟨?_, ?_, ?_, ?_, ?_⟩ <;> rw [Array.getElem?_setIfInBounds] <;> first | (rw [if_pos (by omega), if_pos (by omega)]) | (rw [if_neg (by omega)]; assumption)
theorem IsD.st {w : World} {b g S : Nat} {d : Dq} (h : IsD w b g S d) {k o : Nat} (hk : k < 8) (ho : o = 3 + k * 5) (x : Int) : IsD (w.setCell ⟨b, o + 2, none⟩ (.int .i64 x)) b g S (d.set k { d.th k with t := x }) := by
  subst ho
  refine h.th hk 2 (by omega) _ _ (fun cs hs ⟨h1, h2, h3, h4, h5⟩ => ?_)
  refine ⟨?_, ?_, ?_, ?_, ?_⟩ <;> rw [Array.getElem?_setIfInBounds] <;> first | (rw [if_pos (by omega), if_pos (by omega)]) | (rw [if_neg (by omega)]; assumption)
theorem IsD.sb {w : World} {b g S : Nat} {d : Dq} (h : IsD w b g S d) {k o : Nat} (hk : k < 8) (ho : o = 3 + k * 5) (x : Int) : IsD (w.setCell ⟨b, o + 3, none⟩ (.int .i64 x)) b g S (d.set k { d.th k with b := x }) := by
  subst ho
  refine h.th hk 3 (by omega) _ _ (fun cs hs ⟨h1, h2, h3, h4, h5⟩ => ?_)
  refine ⟨?_, ?_, ?_, ?_, ?_⟩ <;> rw [Array.getElem?_setIfInBounds] <;> first | (rw [if_pos (by omega), if_pos (by omega)]) | (rw [if_neg (by omega)]; assumption)
theorem IsD.sw {w : World} {b g S : Nat} {d : Dq} (h : IsD w b g S d) {k o : Nat} (hk : k < 8) (ho : o = 3 + k * 5) (x : Bool) : IsD (w.setCell ⟨b, o + 4, none⟩ (.bool x)) b g S (d.set k { d.th k with won := x }) := by
  subst ho
  refine h.th hk 4 (by omega) _ _ (fun cs hs ⟨h1, h2, h3, h4, h5⟩ => ?_)
  refine ⟨?_, ?_, ?_, ?_, ?_⟩ <;> rw [Array.getElem?_setIfInBounds] <;> first | (rw [if_pos (by omega), if_pos (by omega)]) | (rw [if_neg (by omega)]; assumption)

/-- a thread's cells, all five -/
theorem IsD.srun {w : World} {b g S : Nat} {d : Dq} (h : IsD w b g S d) {k o : Nat} (hk : k < 8) (ho : o = 3 + k * 5) (r : Rn) :
    IsD (((((w.setCell ⟨b, o, none⟩ (nx r.pc)).setCell ⟨b, o + 1, none⟩ (.int .i64 r.v)).setCell ⟨b, o + 2, none⟩ (.int .i64 r.t)).setCell ⟨b, o + 3, none⟩ (.int .i64 r.b)).setCell ⟨b, o + 4, none⟩ (.bool r.won)) b g S (d.set k r) := by
  have h5 := ((((h.snx hk ho r.pc).sv hk ho r.v).st hk ho r.t).sb hk ho r.b).sw hk ho r.won
  simp only [set_set, set_th] at h5
  exact h5

theorem IsD.stop {w : World} {b g S : Nat} {d : Dq} (h : IsD w b g S d) (x : Int) : IsD (w.setCell ⟨b, 0, none⟩ (.int .i64 x)) b g S (d.wtop x) := by
  obtain ⟨cs, h1, h2, h3, h4, h5, h6⟩ := h.blk
  obtain ⟨cg, h7, h8, h9⟩ := h.row
  refine ⟨⟨_, blk_setCell h1, by simpa using h2, ?_, ?_, ?_, fun i hi => (h6 i hi).set (by omega) _⟩, ⟨cg, (Fr.set1 w b 0 _).blk h7 (fun e => h.ne e.symm), h8, h9⟩, h.pos, h.most, h.ne⟩
  · rw [Array.getElem?_setIfInBounds, if_pos (by omega), if_pos (by omega)]; rfl
  · rw [Array.getElem?_setIfInBounds, if_neg (by omega)]; exact h4
  · rw [Array.getElem?_setIfInBounds, if_neg (by omega)]; exact h5

theorem IsD.sbot {w : World} {b g S : Nat} {d : Dq} (h : IsD w b g S d) (x : Int) : IsD (w.setCell ⟨b, 1, none⟩ (.int .i64 x)) b g S (d.wbot x) := by
  obtain ⟨cs, h1, h2, h3, h4, h5, h6⟩ := h.blk
  obtain ⟨cg, h7, h8, h9⟩ := h.row
  refine ⟨⟨_, blk_setCell h1, by simpa using h2, ?_, ?_, ?_, fun i hi => (h6 i hi).set (by omega) _⟩, ⟨cg, (Fr.set1 w b 1 _).blk h7 (fun e => h.ne e.symm), h8, h9⟩, h.pos, h.most, h.ne⟩
  · rw [Array.getElem?_setIfInBounds, if_neg (by omega)]; exact h3
  · rw [Array.getElem?_setIfInBounds, if_pos (by omega), if_pos (by omega)]; rfl
  · rw [Array.getElem?_setIfInBounds, if_neg (by omega)]; exact h5

theorem IsD.slay {w : World} {b g S : Nat} {d : Dq} (h : IsD w b g S d) (i : Nat) (x : Int) : IsD (w.setCell ⟨g, i, none⟩ (.int .i64 x)) b g S (d.lay i x) := by
  obtain ⟨cs, h1, h2⟩ := h.blk
  obtain ⟨cg, h7, h8, h9⟩ := h.row
  refine ⟨⟨cs, (Fr.set1 w g i _).blk h1 h.ne, h2⟩, ⟨_, blk_setCell h7, by simpa using h8, fun j hj => ?_⟩, h.pos, h.most, h.ne⟩
  rw [Array.getElem?_setIfInBounds]
  by_cases e : i = j
  · subst e; rw [if_pos rfl, if_pos (by omega)]; simp [Dq.lay]
  · rw [if_neg e, h9 j hj]; simp [Dq.lay, show ¬ j = i from fun h => e h.symm]

/-- what a step came to, as a value -/
def dnV (x : Dn) : Value := .agg #[.bool x.over, .int .i64 x.op, .int .i64 x.v, .int .i64 x.err]
/-- in a block of its own -/
def DnAt (w : World) (b : Nat) (x : Dn) : Prop := w.heap[b]? = some (.cells #[.bool x.over, .int .i64 x.op, .int .i64 x.v, .int .i64 x.err] 38 (0, 0))

theorem load_dn {w : World} {b : Nat} {x : Dn} (h : DnAt w b x) : (loadVar 38 ⟨b, 0, none⟩).run Try.prog w = .ok (dnV x) w := by
  refine run_loadVar_mid w b 0 38 [.bool x.over, .int .i64 x.op, .int .i64 x.v, .int .i64 x.err] _ ?_ Try.underlying38 rfl (by kernel_rfl)
  intro j v hv
  match j, hv with
  | 0, hv => simpa using (cell_at h 0).trans hv
  | 1, hv => simpa using (cell_at h 1).trans hv
  | 2, hv => simpa using (cell_at h 2).trans hv
  | 3, hv => simpa using (cell_at h 3).trans hv

theorem results_dn {fn : Func} {p : Tmp} (h : fn.results = #[.cell p 38]) (tmps : Array Value) (w : World) (b : Nat) (x : Dn) (hp : tmps.getD p undef = .pointer (some ⟨b, 0, none⟩))
    (hb : DnAt w b x) : (results fn tmps).run Try.prog w = .ok (dnV x) w := by
  have e : (results fn tmps).run Try.prog w = ((asAddr (tmps.getD p undef)).run Try.prog w).andThen fun a w₁ => ((loadVar 38 a).run Try.prog w₁).andThen fun x w₂ => .ok x w₂ := by
    simp only [results, h]
    simp [Sem.run_bind, Result.andThen]
    cases (asAddr (tmps[p]?.getD undef)).run Try.prog w with
    | halt h w => rfl
    | ok a w => dsimp only; cases (loadVar 38 a).run Try.prog w <;> rfl
  have := load_dn hb
  rw [e, hp]
  simp only [asAddr, Sem.run_pure, Result.andThen_ok, this]

theorem results_dn2 {fn : Func} {p u : Tmp} (h : fn.results = #[.cell p 38, .tmp u]) (tmps : Array Value) (w : World) (b : Nat) (x : Dn) (hp : tmps.getD p undef = .pointer (some ⟨b, 0, none⟩))
    (hb : DnAt w b x) : (results fn tmps).run Try.prog w = .ok (.tuple #[dnV x, tmps.getD u undef]) w := by
  rw [results_cell_tmp h, hp]
  have := load_dn hb
  simp only [asAddr, Sem.run_pure, Result.andThen_ok, this]

theorem DnAt.new (w : World) : DnAt (w.alloc (.cells #[.bool false, .int .i64 0, .int .i64 0, .int .i64 0] 38)) w.heap.size Dn.none := blk_new w _

theorem DnAt.set {w : World} {b : Nat} {x : Dn} (h : DnAt w b x) (y : Dn) :
    DnAt ((((w.setCell ⟨b, 0, none⟩ (.bool y.over)).setCell ⟨b, 1, none⟩ (.int .i64 y.op)).setCell ⟨b, 2, none⟩ (.int .i64 y.v)).setCell ⟨b, 3, none⟩ (.int .i64 y.err)) b y := by
  have h1 := blk_setCell (i := 0) (u := .bool y.over) h
  have h2 := blk_setCell (i := 1) (u := .int .i64 y.op) h1
  have h3 := blk_setCell (i := 2) (u := .int .i64 y.v) h2
  have h4 := blk_setCell (i := 3) (u := .int .i64 y.err) h3
  exact h4
theorem DnAt.fr {P : Nat → Prop} {w w' : World} {b : Nat} {x : Dn} (h : DnAt w b x) (hf : Fr P w w') (hb : ¬ P b) : DnAt w' b x := hf.blk h hb

theorem dn_fr (w : World) (b : Nat) (y : Dn) : Fr (fun k => k = b) w ((((w.setCell ⟨b, 0, none⟩ (.bool y.over)).setCell ⟨b, 1, none⟩ (.int .i64 y.op)).setCell ⟨b, 2, none⟩ (.int .i64 y.v)).setCell ⟨b, 3, none⟩ (.int .i64 y.err)) :=
  ((((Fr.refl (fun k => k = b) w).setAt _ _ _ (.inr rfl)).setAt _ _ _ (.inr rfl)).setAt _ _ _ (.inr rfl)).setAt _ _ _ (.inr rfl)

theorem IsD.al {w : World} {b g S : Nat} {d : Dq} (h : IsD w b g S d) (o : Obj) : IsD (w.alloc o) b g S d := h.fr ((Fr.refl (fun _ => False) w).alloc o) (fun h => h) (fun h => h)

theorem DnAt.cs {w : World} {b : Nat} {x : Dn} (h : DnAt w b x) : (w.cell? ⟨b, 0, none⟩ = some (.bool x.over) ∧ w.cell? ⟨b, 1, none⟩ = some (.int .i64 x.op) ∧ w.cell? ⟨b, 2, none⟩ = some (.int .i64 x.v) ∧ w.cell? ⟨b, 3, none⟩ = some (.int .i64 x.err)) ∧
    (w.frozen? ⟨b, 0, none⟩ = false ∧ w.frozen? ⟨b, 1, none⟩ = false ∧ w.frozen? ⟨b, 2, none⟩ = false ∧ w.frozen? ⟨b, 3, none⟩ = false) :=
  ⟨⟨(cell_at h 0).trans rfl, (cell_at h 1).trans rfl, (cell_at h 2).trans rfl, (cell_at h 3).trans rfl⟩, free_at h 0, free_at h 1, free_at h 2, free_at h 3⟩

set_option maxHeartbeats 1000000 in
theorem then_calls {w : World} {b g S : Nat} {d : Dq} (h : IsD w b g S d) {k o : Nat} (hk : k < 8) (ho : Hid (o = 3 + k * 5)) (p : Nat) {f : Nat} (hp : Hid (nx p = .func (.func f) #[] #[])) :
    Calls Try.prog 37 #[.pointer (some ⟨b, o, none⟩), .func (.func f) #[] #[]] w fun e w' => e = .returned (.agg #[.bool false, .int .i64 0, .int .i64 0, .int .i64 0]) ∧ IsD w' b g S (d.set k { d.th k with pc := p }) ∧ Fr (fun k => k = b) w w' := by
  have fo := h.free o
  have co := (h.ct hk (unhide ho)).1
  have hlt := h.lt
  obtain ⟨u, hu⟩ : ∃ u, nx (d.th k).pc = u := ⟨_, rfl⟩
  rw [hu] at co
  clear hu
  go_enter Try.func37, Try.ntmps37
  go_wp2
  have hD := (h.snx hk (unhide ho) p).al (.cells #[.bool false, .int .i64 0, .int .i64 0, .int .i64 0] 38)
  rw [unhide hp] at hD
  have hN := DnAt.new (w.setCell ⟨b, o, none⟩ (.func (.func f) #[] #[]))
  have hs : (w.setCell ⟨b, o, none⟩ (.func (.func f) #[] #[])).heap.size = w.heap.size := by simp
  rw [hs] at hN
  exact bodyPost_ret (results_dn rfl _ _ w.heap.size Dn.none rfl hN) rfl ⟨rfl, hD, ((Fr.refl (fun k => k = b) w).setAt b o _ (.inr rfl)).alloc _⟩

set_option maxHeartbeats 1000000 in
theorem over_calls {w : World} {b g S : Nat} {d : Dq} (h : IsD w b g S d) {k o : Nat} (hk : k < 8) (ho : Hid (o = 3 + k * 5)) (op v err : Int) :
    Calls Try.prog 41 #[.pointer (some ⟨b, o, none⟩), .int .i64 op, .int .i64 v, .int .i64 err] w fun e w' => e = .returned (.agg #[.bool true, .int .i64 op, .int .i64 v, .int .i64 err]) ∧ IsD w' b g S (d.set k Rn.zero) ∧ Fr (fun k => k = b) w w' := by
  have f0 := h.free o
  have f1 := h.free (o + 1)
  have f2 := h.free (o + 2)
  have f3 := h.free (o + 3)
  have f4 := h.free (o + 4)
  obtain ⟨c0, c1, c2, c3, c4⟩ := h.ct hk (unhide ho)
  have hlt := h.lt
  obtain ⟨u, hu⟩ : ∃ u, nx (d.th k).pc = u := ⟨_, rfl⟩
  rw [hu] at c0
  clear hu
  go_enter Try.func41, Try.ntmps41
  go_wp2
  have hD := (h.srun hk (unhide ho) Rn.zero).al (.cells #[.bool true, .int .i64 op, .int .i64 v, .int .i64 err] 38)
  have hN := blk_new (((((w.setCell ⟨b, o, none⟩ .nilFunc).setCell ⟨b, o + 1, none⟩ (.int .i64 0)).setCell ⟨b, o + 2, none⟩ (.int .i64 0)).setCell ⟨b, o + 3, none⟩ (.int .i64 0)).setCell ⟨b, o + 4, none⟩ (.bool false)) (.cells #[.bool true, .int .i64 op, .int .i64 v, .int .i64 err] 38)
  have hs : (((((w.setCell ⟨b, o, none⟩ .nilFunc).setCell ⟨b, o + 1, none⟩ (.int .i64 0)).setCell ⟨b, o + 2, none⟩ (.int .i64 0)).setCell ⟨b, o + 3, none⟩ (.int .i64 0)).setCell ⟨b, o + 4, none⟩ (.bool false)).heap.size = w.heap.size := by simp
  rw [hs] at hN
  exact bodyPost_ret (results_dn rfl _ _ w.heap.size ⟨true, op, v, err⟩ rfl hN) rfl ⟨rfl, hD, ((((((Fr.refl (fun k => k = b) w).setAt b o _ (.inr rfl)).setAt b (o + 1) _ (.inr rfl)).setAt b (o + 2) _ (.inr rfl)).setAt b (o + 3) _ (.inr rfl)).setAt b (o + 4) _ (.inr rfl)).alloc _⟩

set_option maxHeartbeats 1000000 in
theorem place_calls {w : World} {b g S : Nat} {d : Dq} (h : IsD w b g S d) (n : Int) (hn : 0 ≤ n ∧ n ≤ 1152921504606846976) {i : Nat} (hi : Hid (ix S n = i)) :
    Calls Try.prog 31 #[.pointer (some ⟨b, 0, none⟩), .int .i64 n] w fun e w' => e = .returned (.pointer (some ⟨g, i, none⟩)) ∧ ∃ nq, w' = w.drewN nq := by
  obtain ⟨n0, n1⟩ := hn
  have c2 := h.c2
  have h1 := h.pos
  have h2 := h.most
  have hS : ((S : Int) == 0) = false := by simp; omega
  have hm := ix_eq h1 n
  rw [unhide hi] at hm
  have hl : i < S := by rw [← unhide hi]; exact ix_lt h1 n
  have hI : n % (S : Int) = (i : Int) := hm.symm
  have hT : n.tmod (S : Int) = (i : Int) := by rw [Int.tmod_eq_emod_of_nonneg n0]; exact hI
  have hl' : (i : Int) < (S : Int) := by omega
  clear hm
  go_enter Try.func31, Try.ntmps31
  go_wp2
  go_quiet (fail)
  go_wp2
  go_ret
  exact ⟨rfl, _, rfl⟩

set_option maxHeartbeats 1000000 in
theorem move_yes {w : World} {b g S : Nat} {d : Dq} (h : IsD w b g S d) (n : Int) (hn : d.top = n) (ht : -1152921504606846976 ≤ n ∧ n ≤ 1152921504606846976) :
    Calls Try.prog 50 #[.pointer (some ⟨b, 0, none⟩), .int .i64 n] w fun e w' => e = .returned (.bool true) ∧ IsD w' b g S (d.wtop (n + 1)) ∧ Fr (fun k => k = b) w w' := by
  obtain ⟨t0, t1⟩ := ht
  have c0 := h.c0
  have f0 := h.free 0
  rw [hn] at c0
  go_enter Try.func50, Try.ntmps50
  go_wp2
  go_ret
  exact ⟨rfl, h.stop (n + 1), (Fr.refl (fun k => k = b) w).setAt b 0 _ (.inr rfl)⟩

set_option maxHeartbeats 1000000 in
theorem move_no {w : World} {b g S : Nat} {d : Dq} (h : IsD w b g S d) (n : Int) (hn : ¬ d.top = n) :
    Calls Try.prog 50 #[.pointer (some ⟨b, 0, none⟩), .int .i64 n] w fun e w' => e = .returned (.bool false) ∧ IsD w' b g S d ∧ Fr (fun k => k = b) w w' := by
  have c0 := h.c0
  have hne : (d.top == n) = false := by simpa using hn
  go_enter Try.func50, Try.ntmps50
  go_wp2
  go_ret
  exact ⟨rfl, h, Fr.refl _ w⟩

end Go.Proofs.Ytingpopcdihclaa
