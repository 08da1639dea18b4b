/-
  RingPlays: a ring holds, refuses and gives back what the document says.
-/
import Derived.Test.YtanmhjnelhjejaaRgRef
import Derived.Test.YtanmhjnelhjejaaRgBound
import Derived.Deep.RegionWith
import Derived.Deep.DeepCutAuto
namespace Go.Proofs.Ytanmhjnelhjejaa
open Go.RowKit
set_option linter.unusedVariables false
set_option maxRecDepth 8192

theorem quiet_same {P : Program} {f : FuncId} {args : Array Value} {w : World} {n : Nat} {v : Value}
    (h : Calls P f args (w.drewN n) fun e w' => e = .returned v ∧ w.drewN n = w') : Calls P f args (w.drewN n) fun e w'' => e = .returned v ∧ ∃ m, w'' = w.drewN m :=
  h.mono fun _ _ ⟨he, hm⟩ => ⟨he, n, hm.symm⟩

theorem Rg.drew {w : World} {b g S : Nat} {l : List Int} (h : Rg w b g S l) : Rg w.drew b g S l := h.fr (Fr.refl (fun _ => False) w).drew (fun h => h) (fun h => h)

theorem Sl.fr {w w' : World} {v : Value} {l : List Int} (h : Sl w v l) (hf : Fr (fun _ => False) w w') : Sl w' v l := by
  obtain ⟨a, c, h1, h2⟩ := h
  refine ⟨a, c, h1, fun i x hx => ?_⟩
  obtain ⟨b, off, g1, g2⟩ := h2 i x hx
  exact ⟨b, off, g1, cell_fr hf (fun h => h) g2⟩

/-- both rings, side by side -/
def P0 (w0 : World) (G M S : Nat) (l l' : List Int) (w : World) : Prop := Rg w (G + 1) G S l ∧ IsM w M S l' ∧ G + 1 < M ∧ Fr (fun _ => False) w0 w ∧ w0.heap.size ≤ G
/-- with the step that is done -/
def PS (w0 : World) (G M S bo : Nat) (kk x : Int) (l l' : List Int) (w : World) : Prop := P0 w0 G M S l l' w ∧ M < bo ∧ w.heap[bo]? = some (.cells #[.int .i64 kk, .int .i64 x] 33 (0, 0))

theorem P0.q {w0 w w' : World} {G M S : Nat} {l l' : List Int} (h : P0 w0 G M S l l' w) (hf : Fr (fun _ => False) w w') : P0 w0 G M S l l' w' :=
  ⟨h.1.fr hf (fun h => h) (fun h => h), h.2.1.fr hf (fun _ _ h => h), h.2.2.1, h.2.2.2.1.trans hf (fun _ _ h => h) (fun _ _ h => h), h.2.2.2.2⟩
theorem P0.r {w0 w w' : World} {G M S : Nat} {l l' l2 : List Int} (h : P0 w0 G M S l l' w) (hr : Rg w' (G + 1) G S l2) (hf : FrR (G + 1) G w w') : P0 w0 G M S l2 l' w' := by
  obtain ⟨h1, h2, h3, h4, h5⟩ := h
  exact ⟨hr, h2.fr hf (fun k hk e => by omega), h3, h4.ring hf (.inl (by omega)) (.inl h5), h5⟩
theorem P0.m {w0 w w' : World} {G M S : Nat} {l l' l2 : List Int} (h : P0 w0 G M S l l' w) (hm : IsM w' M S l2) (hf : FrM M w w') : P0 w0 G M S l l2 w' := by
  obtain ⟨h1, h2, h3, h4, h5⟩ := h
  have no : ∀ k, k < M → ¬ (k = M ∨ RowsOf w M 3 k) := fun k hk e => e.elim (fun e => by omega) (fun e => by have := e.1; omega)
  exact ⟨h1.fr hf (no _ h3) (no _ (by omega)), hm, h3, h4.trans hf (fun _ _ h => h) (fun i hi e => no i (by omega) e), h5⟩
theorem PS.q {w0 w w' : World} {G M S bo : Nat} {kk x : Int} {l l' : List Int} (h : PS w0 G M S bo kk x l l' w) (hf : Fr (fun _ => False) w w') : PS w0 G M S bo kk x l l' w' :=
  ⟨h.1.q hf, h.2.1, hf.blk h.2.2 (fun h => h)⟩
theorem PS.r {w0 w w' : World} {G M S bo : Nat} {kk x : Int} {l l' l2 : List Int} (h : PS w0 G M S bo kk x l l' w) (hr : Rg w' (G + 1) G S l2) (hf : FrR (G + 1) G w w') : PS w0 G M S bo kk x l2 l' w' :=
  ⟨h.1.r hr hf, h.2.1, hf.blk h.2.2 (fun e => by have := h.2.1; have := h.1.2.2.1; omega)⟩
theorem PS.m {w0 w w' : World} {G M S bo : Nat} {kk x : Int} {l l' l2 : List Int} (h : PS w0 G M S bo kk x l l' w) (hm : IsM w' M S l2) (hf : FrM M w w') : PS w0 G M S bo kk x l l2 w' :=
  ⟨h.1.m hm hf, h.2.1, hf.blk h.2.2 (fun e => e.elim (fun e => by have := h.2.1; omega) (not_row h.2.2 (by decide)))⟩
theorem PS.c0 {w0 w : World} {G M S bo : Nat} {kk x : Int} {l l' : List Int} (h : PS w0 G M S bo kk x l l' w) : w.cell? ⟨bo, 0, none⟩ = some (.int .i64 kk) := (cell_at h.2.2 0).trans rfl
theorem PS.c1 {w0 w : World} {G M S bo : Nat} {kk x : Int} {l l' : List Int} (h : PS w0 G M S bo kk x l l' w) : w.cell? ⟨bo, 1, none⟩ = some (.int .i64 x) := (cell_at h.2.2 1).trans rfl
theorem P0.v {w0 w : World} {G M S : Nat} {l l' : List Int} (h : P0 w0 G M S l l' w) : ∃ a c, w.cell? ⟨M, 0, none⟩ = some (.slice a l'.length c) ∧ w.cell? ⟨M, 1, none⟩ = some (.int .i64 (S : Int)) ∧ Sl w (.slice a l'.length c) l' := by
  obtain ⟨v, h1, h2, a, c, rfl⟩ := h.2.1.sl
  exact ⟨a, c, (cell_at h1 0).trans rfl, (cell_at h1 1).trans rfl, h2⟩

theorem ps_rput {w0 w : World} {G M S bo : Nat} {kk x : Int} {l : List Int} {l' : List Int} (h : PS w0 G M S bo kk x l l' w) (hl : l.length < S) :
    Calls Try.prog 14 #[.pointer (some ⟨G + 1, 0, none⟩), .int .i64 x] w fun e w' => e = .returned (.int .i64 0) ∧ PS w0 G M S bo kk x (l ++ [x]) l' w' :=
  (rput_ok h.1.1 hl _).mono fun e w' ⟨h1, h2, h3⟩ => ⟨h1, h.r h2 h3⟩

theorem ps_mput {w0 w : World} {G M S bo : Nat} {kk x : Int} {l : List Int} {l' : List Int} (h : PS w0 G M S bo kk x l' l w) (hl : l.length < S) :
    Calls Try.prog 15 #[.pointer (some ⟨M, 0, none⟩), .int .i64 x] w fun e w' => e = .returned (.int .i64 0) ∧ PS w0 G M S bo kk x l' (l ++ [x]) w' :=
  (mput_ok h.1.2.1 hl _).mono fun e w' ⟨h1, h2, h3⟩ => ⟨h1, h.m h2 h3⟩

theorem ps_rputf {w0 w : World} {G M S bo : Nat} {kk x : Int} {l : List Int} {l' : List Int} (h : PS w0 G M S bo kk x l l' w) (hl : ¬ l.length < S) :
    Calls Try.prog 14 #[.pointer (some ⟨G + 1, 0, none⟩), .int .i64 x] w fun e w' => e = .returned (.int .i64 7) ∧ PS w0 G M S bo kk x l l' w' :=
  (rput_full h.1.1 hl _).mono fun e w' ⟨h1, h2, h3⟩ => ⟨h1, h.r h2 h3⟩

theorem ps_mputf {w0 w : World} {G M S bo : Nat} {kk x : Int} {l : List Int} {l' : List Int} (h : PS w0 G M S bo kk x l' l w) (hl : ¬ l.length < S) :
    Calls Try.prog 15 #[.pointer (some ⟨M, 0, none⟩), .int .i64 x] w fun e w' => e = .returned (.int .i64 7) ∧ PS w0 G M S bo kk x l' l w' :=
  (mput_full h.1.2.1 hl _).mono fun e w' ⟨h1, h2, h3⟩ => ⟨h1, h.m h2 h3⟩

theorem ps_rpush {w0 w : World} {G M S bo : Nat} {kk x : Int} {l : List Int} {l' : List Int} (h : PS w0 G M S bo kk x l l' w) (hl : l.length < S) :
    Calls Try.prog 16 #[.pointer (some ⟨G + 1, 0, none⟩), .int .i64 x] w fun e w' => e = .returned (.int .i64 0) ∧ PS w0 G M S bo kk x (x :: l) l' w' :=
  (rpush_ok h.1.1 hl _).mono fun e w' ⟨h1, h2, h3⟩ => ⟨h1, h.r h2 h3⟩

theorem ps_mpush {w0 w : World} {G M S bo : Nat} {kk x : Int} {l : List Int} {l' : List Int} (h : PS w0 G M S bo kk x l' l w) (hl : l.length < S) :
    Calls Try.prog 17 #[.pointer (some ⟨M, 0, none⟩), .int .i64 x] w fun e w' => e = .returned (.int .i64 0) ∧ PS w0 G M S bo kk x l' (x :: l) w' :=
  (mpush_ok h.1.2.1 hl _).mono fun e w' ⟨h1, h2, h3⟩ => ⟨h1, h.m h2 h3⟩

theorem ps_rpushf {w0 w : World} {G M S bo : Nat} {kk x : Int} {l : List Int} {l' : List Int} (h : PS w0 G M S bo kk x l l' w) (hl : ¬ l.length < S) :
    Calls Try.prog 16 #[.pointer (some ⟨G + 1, 0, none⟩), .int .i64 x] w fun e w' => e = .returned (.int .i64 7) ∧ PS w0 G M S bo kk x l l' w' :=
  (rpush_full h.1.1 hl _).mono fun e w' ⟨h1, h2, h3⟩ => ⟨h1, h.r h2 h3⟩

theorem ps_mpushf {w0 w : World} {G M S bo : Nat} {kk x : Int} {l : List Int} {l' : List Int} (h : PS w0 G M S bo kk x l' l w) (hl : ¬ l.length < S) :
    Calls Try.prog 17 #[.pointer (some ⟨M, 0, none⟩), .int .i64 x] w fun e w' => e = .returned (.int .i64 7) ∧ PS w0 G M S bo kk x l' l w' :=
  (mpush_full h.1.2.1 hl _).mono fun e w' ⟨h1, h2, h3⟩ => ⟨h1, h.m h2 h3⟩

theorem ps_rtake {w0 w : World} {G M S bo : Nat} {kk x : Int} {y : Int} {l : List Int} {l' : List Int} (h : PS w0 G M S bo kk x (y :: l) l' w) :
    Calls Try.prog 18 #[.pointer (some ⟨G + 1, 0, none⟩)] w fun e w' => e = .returned (.tuple #[.int .i64 y, .bool true]) ∧ PS w0 G M S bo kk x l l' w' :=
  (rtake_some h.1.1).mono fun e w' ⟨h1, h2, h3⟩ => ⟨h1, h.r h2 h3⟩

theorem ps_mtake {w0 w : World} {G M S bo : Nat} {kk x : Int} {y : Int} {l : List Int} {l' : List Int} (h : PS w0 G M S bo kk x l' (y :: l) w) :
    Calls Try.prog 19 #[.pointer (some ⟨M, 0, none⟩)] w fun e w' => e = .returned (.tuple #[.int .i64 y, .bool true]) ∧ PS w0 G M S bo kk x l' l w' :=
  (mtake_some h.1.2.1).mono fun e w' ⟨h1, h2, h3⟩ => ⟨h1, h.m h2 h3⟩

theorem ps_rtaken {w0 w : World} {G M S bo : Nat} {kk x : Int}  {l' : List Int} (h : PS w0 G M S bo kk x [] l' w) :
    Calls Try.prog 18 #[.pointer (some ⟨G + 1, 0, none⟩)] w fun e w' => e = .returned (.tuple #[.int .i64 0, .bool false]) ∧ PS w0 G M S bo kk x [] l' w' :=
  (rtake_none h.1.1).mono fun e w' ⟨h1, h2, h3⟩ => ⟨h1, h.r h2 h3⟩

theorem ps_mtaken {w0 w : World} {G M S bo : Nat} {kk x : Int}  {l' : List Int} (h : PS w0 G M S bo kk x l' [] w) :
    Calls Try.prog 19 #[.pointer (some ⟨M, 0, none⟩)] w fun e w' => e = .returned (.tuple #[.int .i64 0, .bool false]) ∧ PS w0 G M S bo kk x l' [] w' :=
  (mtake_none h.1.2.1).mono fun e w' ⟨h1, h2, h3⟩ => ⟨h1, h.m h2 h3⟩

theorem ps_rpop {w0 w : World} {G M S bo : Nat} {kk x : Int} {y : Int} {l : List Int} {l' : List Int} (h : PS w0 G M S bo kk x (l ++ [y]) l' w) :
    Calls Try.prog 20 #[.pointer (some ⟨G + 1, 0, none⟩)] w fun e w' => e = .returned (.tuple #[.int .i64 y, .bool true]) ∧ PS w0 G M S bo kk x l l' w' :=
  (rpop_some h.1.1).mono fun e w' ⟨h1, h2, h3⟩ => ⟨h1, h.r h2 h3⟩

theorem ps_mpop {w0 w : World} {G M S bo : Nat} {kk x : Int} {y : Int} {l : List Int} {l' : List Int} (h : PS w0 G M S bo kk x l' (l ++ [y]) w) :
    Calls Try.prog 21 #[.pointer (some ⟨M, 0, none⟩)] w fun e w' => e = .returned (.tuple #[.int .i64 y, .bool true]) ∧ PS w0 G M S bo kk x l' l w' :=
  (mpop_some h.1.2.1).mono fun e w' ⟨h1, h2, h3⟩ => ⟨h1, h.m h2 h3⟩

theorem ps_rpopn {w0 w : World} {G M S bo : Nat} {kk x : Int}  {l' : List Int} (h : PS w0 G M S bo kk x [] l' w) :
    Calls Try.prog 20 #[.pointer (some ⟨G + 1, 0, none⟩)] w fun e w' => e = .returned (.tuple #[.int .i64 0, .bool false]) ∧ PS w0 G M S bo kk x [] l' w' :=
  (rpop_none h.1.1).mono fun e w' ⟨h1, h2, h3⟩ => ⟨h1, h.r h2 h3⟩

theorem ps_mpopn {w0 w : World} {G M S bo : Nat} {kk x : Int}  {l' : List Int} (h : PS w0 G M S bo kk x l' [] w) :
    Calls Try.prog 21 #[.pointer (some ⟨M, 0, none⟩)] w fun e w' => e = .returned (.tuple #[.int .i64 0, .bool false]) ∧ PS w0 G M S bo kk x l' [] w' :=
  (mpop_none h.1.2.1).mono fun e w' ⟨h1, h2, h3⟩ => ⟨h1, h.m h2 h3⟩

theorem ps_kind {w0 w : World} {G M S bo : Nat} {kk x c : Int} {l l' : List Int} (h : PS w0 G M S bo kk x l l' w) (hk : kd kk = c) :
    Calls Try.prog 13 #[.agg #[.int .i64 kk, .int .i64 x]] w fun e w' => e = .returned (.int .i64 c) ∧ PS w0 G M S bo kk x l l' w' :=
  (kind_val hk x w).mono fun e w' ⟨h1, h2⟩ => ⟨h1, h.q h2⟩

theorem rat_some {w : World} {b g S : Nat} {l : List Int} (h : Rg w b g S l) (i : Nat) (x : Int) (hx : l[i]? = some x) :
    Calls Try.prog 23 #[.pointer (some ⟨b, 0, none⟩), .int .i64 (i : Int)] w fun e w' => e = .returned (.tuple #[.int .i64 x, .bool true]) ∧ Fr (fun _ => False) w w' := by
  obtain ⟨f, h⟩ := h
  refine (at_some h i x hx).mono ?_
  rintro e w' ⟨rfl, nq, rfl⟩
  exact ⟨rfl, (Fr.refl _ w).drewN nq⟩

theorem rat_none {w : World} {b g S : Nat} {l : List Int} (h : Rg w b g S l) (i : Int) (hi : i < 0 ∨ i ≥ l.length) :
    Calls Try.prog 23 #[.pointer (some ⟨b, 0, none⟩), .int .i64 i] w fun e w' => e = .returned (.tuple #[.int .i64 0, .bool false]) ∧ w = w' := h.elim fun f h => at_none h i hi

theorem mnew2 {n : Int} {S : Nat} (h : clamp n = S) (w : World) :
    Calls Try.prog 11 #[.int .i64 n] w fun e w' => ∃ M, Hid (w.heap.size = M) ∧ e = .returned (.pointer (some ⟨M, 0, none⟩)) ∧ IsM w' M S [] ∧ Fr (fun _ => False) w w' :=
  (mnew_calls n w).mono fun e w' ⟨h1, h2, h3⟩ => ⟨_, hide rfl, h1, h ▸ h2, h3⟩

end Go.Proofs.Ytanmhjnelhjejaa
