/-
  The document's deque in memory, and its small functions walked.
-/
import Derived.Test.YtingpopcdihclaaDqLinPlain
import Derived.Test.YtingpopcdihclaaDqAlone
namespace Go.Proofs.Ytingpopcdihclaa
open Go.RowKit
set_option linter.unusedVariables false
set_option maxRecDepth 8192

/-- the document's thread -/
structure Mt where
  on : Bool
  op : Int
  made : Int
  v : Int
  t : Int
  b : Int
  won : Bool
def Mt.zero : Mt := ⟨false, 0, 0, 0, 0, 0, false⟩
structure Mq where
  top : Int
  bot : Int
  pl : Nat → Int
  th : Nat → Mt
def Mq.set (d : Mq) (k : Nat) (r : Mt) : Mq := { d with th := fun i => if i = k then r else d.th i }
def Mq.lay (d : Mq) (i : Nat) (x : Int) : Mq := { d with pl := fun j => if j = i then x else d.pl j }
def Mq.wtop (d : Mq) (x : Int) : Mq := { d with top := x }
def Mq.wbot (d : Mq) (x : Int) : Mq := { d with bot := x }
theorem mset_th (d : Mq) (k : Nat) (r : Mt) : (d.set k r).th k = r := by simp [Mq.set]
theorem mset_ne (d : Mq) {k i : Nat} (r : Mt) (h : i ≠ k) : (d.set k r).th i = d.th i := by simp [Mq.set, h]

/-- a thread's seven cells -/
def MC (cs : Array Value) (o : Nat) (r : Mt) : Prop :=
  cs[o]? = some (.bool r.on) ∧ cs[o + 1]? = some (.int .i64 r.op) ∧ cs[o + 2]? = some (.int .i64 r.made) ∧ cs[o + 3]? = some (.int .i64 r.v) ∧ cs[o + 4]? = some (.int .i64 r.t) ∧ cs[o + 5]? = some (.int .i64 r.b) ∧ cs[o + 6]? = some (.bool r.won)

/-- the document's deque at block b, its places in block g, its threads in block h -/
structure IsM (w : World) (b g h S : Nat) (d : Mq) : Prop where
  blk : w.heap[b]? = some (.cells #[.int .i64 d.top, .int .i64 d.bot, .slice (some ⟨g, 0, none⟩) S S, .slice (some ⟨h, 0, none⟩) 8 8] 32 (0, 0))
  row : ∃ cs : Array Value, w.heap[g]? = some (.cells cs 2 (0, 0)) ∧ cs.size = S ∧ ∀ i, i < S → cs[i]? = some (.int .i64 (d.pl i))
  ths : ∃ cs : Array Value, w.heap[h]? = some (.cells cs 45 (0, 0)) ∧ cs.size = 56 ∧ ∀ k, k < 8 → MC cs (k * 7) (d.th k)
  pos : 0 < S
  most : S ≤ 64
  bg : b ≠ g
  bh : b ≠ h
  gh : g ≠ h

abbrev FrM (b g h : Nat) := Fr (fun k => k = b ∨ k = g ∨ k = h)

theorem IsM.fr {P : Nat → Prop} {w w' : World} {b g h S : Nat} {d : Mq} (m : IsM w b g h S d) (hf : Fr P w w') (hb : ¬ P b) (hg : ¬ P g) (hh : ¬ P h) : IsM w' b g h S d := by
  obtain ⟨cg, h3, h4⟩ := m.row
  obtain ⟨ch, h5, h6⟩ := m.ths
  exact ⟨hf.blk m.blk hb, ⟨cg, hf.blk h3 hg, h4⟩, ⟨ch, hf.blk h5 hh, h6⟩, m.pos, m.most, m.bg, m.bh, m.gh⟩
theorem IsM.same {w w' : World} {b g h S : Nat} {d : Mq} (m : IsM w b g h S d) (e : w'.heap = w.heap) : IsM w' b g h S d := by
  obtain ⟨h1, h2, h3, h4, h5, h6, h7, h8⟩ := m
  exact ⟨by rw [e]; exact h1, by rw [e]; exact h2, by rw [e]; exact h3, h4, h5, h6, h7, h8⟩
theorem IsM.drewN {w : World} {b g h S : Nat} {d : Mq} (m : IsM w b g h S d) (n : Nat) : IsM (w.drewN n) b g h S d := m.same rfl
theorem IsM.al {w : World} {b g h S : Nat} {d : Mq} (m : IsM w b g h S d) (o : Obj) : IsM (w.alloc o) b g h S d := m.fr ((Fr.refl (fun _ => False) w).alloc o) (fun h => h) (fun h => h) (fun h => h)
theorem IsM.ltb {w : World} {b g h S : Nat} {d : Mq} (m : IsM w b g h S d) : b < w.heap.size := lt_of_blk m.blk
theorem IsM.ltg {w : World} {b g h S : Nat} {d : Mq} (m : IsM w b g h S d) : g < w.heap.size := by obtain ⟨cs, h1, _⟩ := m.row; exact lt_of_blk h1
theorem IsM.lth {w : World} {b g h S : Nat} {d : Mq} (m : IsM w b g h S d) : h < w.heap.size := by obtain ⟨cs, h1, _⟩ := m.ths; exact lt_of_blk h1
theorem IsM.fb {w : World} {b g h S : Nat} {d : Mq} (m : IsM w b g h S d) (i : Nat) : w.frozen? ⟨b, i, none⟩ = false := free_at m.blk i
theorem IsM.fg {w : World} {b g h S : Nat} {d : Mq} (m : IsM w b g h S d) (i : Nat) : w.frozen? ⟨g, i, none⟩ = false := by obtain ⟨cs, h1, _⟩ := m.row; exact free_at h1 i
theorem IsM.fh {w : World} {b g h S : Nat} {d : Mq} (m : IsM w b g h S d) (i : Nat) : w.frozen? ⟨h, i, none⟩ = false := by obtain ⟨cs, h1, _⟩ := m.ths; exact free_at h1 i
theorem IsM.c0 {w : World} {b g h S : Nat} {d : Mq} (m : IsM w b g h S d) : w.cell? ⟨b, 0, none⟩ = some (.int .i64 d.top) := (cell_at m.blk 0).trans rfl
theorem IsM.c1 {w : World} {b g h S : Nat} {d : Mq} (m : IsM w b g h S d) : w.cell? ⟨b, 1, none⟩ = some (.int .i64 d.bot) := (cell_at m.blk 1).trans rfl
theorem IsM.c2 {w : World} {b g h S : Nat} {d : Mq} (m : IsM w b g h S d) : w.cell? ⟨b, 2, none⟩ = some (.slice (some ⟨g, 0, none⟩) S S) := (cell_at m.blk 2).trans rfl
theorem IsM.c3 {w : World} {b g h S : Nat} {d : Mq} (m : IsM w b g h S d) : w.cell? ⟨b, 3, none⟩ = some (.slice (some ⟨h, 0, none⟩) 8 8) := (cell_at m.blk 3).trans rfl
theorem IsM.cg {w : World} {b g h S : Nat} {d : Mq} (m : IsM w b g h S d) {i : Nat} (hi : i < S) : w.cell? ⟨g, i, none⟩ = some (.int .i64 (d.pl i)) := by obtain ⟨cs, h1, h2, h3⟩ := m.row; rw [cell_at h1]; exact h3 i hi
theorem IsM.ct {w : World} {b g h S : Nat} {d : Mq} (m : IsM w b g h S d) {k o : Nat} (hk : k < 8) (ho : o = k * 7) :
    w.cell? ⟨h, o, none⟩ = some (.bool (d.th k).on) ∧ w.cell? ⟨h, o + 1, none⟩ = some (.int .i64 (d.th k).op) ∧ w.cell? ⟨h, o + 2, none⟩ = some (.int .i64 (d.th k).made) ∧ w.cell? ⟨h, o + 3, none⟩ = some (.int .i64 (d.th k).v) ∧ w.cell? ⟨h, o + 4, none⟩ = some (.int .i64 (d.th k).t) ∧ w.cell? ⟨h, o + 5, none⟩ = some (.int .i64 (d.th k).b) ∧ w.cell? ⟨h, o + 6, none⟩ = some (.bool (d.th k).won) := by
  obtain ⟨cs, h1, _, h2⟩ := m.ths
  subst ho
  have := h2 k hk
  simp only [cell_at h1]
  exact this

theorem MC.set {cs : Array Value} {o : Nat} {r : Mt} (h : MC cs o r) {i : Nat} (hi : i < o ∨ o + 7 ≤ i) (u : Value) : MC (cs.setIfInBounds i u) o r := by
  obtain ⟨h1, h2, h3, h4, h5, h6, h7⟩ := h
  refine ⟨?_, ?_, ?_, ?_, ?_, ?_, ?_⟩ <;> (rw [Array.getElem?_setIfInBounds, if_neg (by omega)]; assumption)

/-- a thread's cells, all seven -/
def mset7 (w : World) (h o : Nat) (r : Mt) : World :=
  ((((((w.setCell ⟨h, o, none⟩ (.bool r.on)).setCell ⟨h, o + 1, none⟩ (.int .i64 r.op)).setCell ⟨h, o + 2, none⟩ (.int .i64 r.made)).setCell ⟨h, o + 3, none⟩ (.int .i64 r.v)).setCell ⟨h, o + 4, none⟩ (.int .i64 r.t)).setCell ⟨h, o + 5, none⟩ (.int .i64 r.b)).setCell ⟨h, o + 6, none⟩ (.bool r.won)

theorem mset7_fr (w : World) (h o : Nat) (r : Mt) : Fr (fun k => k = h) w (mset7 w h o r) :=
  ((((((((Fr.refl (fun k => k = h) w).setAt _ _ _ (.inr rfl)).setAt _ _ _ (.inr rfl)).setAt _ _ _ (.inr rfl)).setAt _ _ _ (.inr rfl)).setAt _ _ _ (.inr rfl)).setAt _ _ _ (.inr rfl)).setAt _ _ _ (.inr rfl))

theorem IsM.sth {w : World} {b g h S : Nat} {d : Mq} (m : IsM w b g h S d) {k o : Nat} (hk : k < 8) (ho : o = k * 7) (r : Mt) : IsM (mset7 w h o r) b g h S (d.set k r) := by
  subst ho
  obtain ⟨cg, h3, h4⟩ := m.row
  obtain ⟨cs, h5, h6, h7⟩ := m.ths
  have hf := mset7_fr w h (k * 7) r
  refine ⟨hf.blk m.blk m.bh, ⟨cg, hf.blk h3 m.gh, h4⟩, ?_, m.pos, m.most, m.bg, m.bh, m.gh⟩
  have b1 := blk_setCell (i := k * 7) (u := .bool r.on) h5
  have b2 := blk_setCell (i := k * 7 + 1) (u := .int .i64 r.op) b1
  have b3 := blk_setCell (i := k * 7 + 2) (u := .int .i64 r.made) b2
  have b4 := blk_setCell (i := k * 7 + 3) (u := .int .i64 r.v) b3
  have b5 := blk_setCell (i := k * 7 + 4) (u := .int .i64 r.t) b4
  have b6 := blk_setCell (i := k * 7 + 5) (u := .int .i64 r.b) b5
  have b7 := blk_setCell (i := k * 7 + 6) (u := .bool r.won) b6
  refine ⟨_, b7, by simpa using h6, fun i hi => ?_⟩
  by_cases e : i = k
  · subst e
    rw [mset_th]
    refine ⟨?_, ?_, ?_, ?_, ?_, ?_, ?_⟩ <;> (simp only [Array.getElem?_setIfInBounds, Array.size_setIfInBounds]; simp; try omega)
  · rw [mset_ne d r e]
    exact (((((((h7 i hi).set (by omega) _).set (by omega) _).set (by omega) _).set (by omega) _).set (by omega) _).set (by omega) _).set (by omega) _

theorem IsM.stop {w : World} {b g h S : Nat} {d : Mq} (m : IsM w b g h S d) (x : Int) : IsM (w.setCell ⟨b, 0, none⟩ (.int .i64 x)) b g h S (d.wtop x) := by
  obtain ⟨cg, h3, h4⟩ := m.row
  obtain ⟨cs, h5, h6⟩ := m.ths
  have hf := Fr.set1 w b 0 (.int .i64 x)
  exact ⟨by rw [blk_setCell m.blk]; simp [Mq.wtop], ⟨cg, hf.blk h3 (fun e => m.bg e.symm), h4⟩, ⟨cs, hf.blk h5 (fun e => m.bh e.symm), h6⟩, m.pos, m.most, m.bg, m.bh, m.gh⟩
theorem IsM.sbot {w : World} {b g h S : Nat} {d : Mq} (m : IsM w b g h S d) (x : Int) : IsM (w.setCell ⟨b, 1, none⟩ (.int .i64 x)) b g h S (d.wbot x) := by
  obtain ⟨cg, h3, h4⟩ := m.row
  obtain ⟨cs, h5, h6⟩ := m.ths
  have hf := Fr.set1 w b 1 (.int .i64 x)
  exact ⟨by rw [blk_setCell m.blk]; simp [Mq.wbot], ⟨cg, hf.blk h3 (fun e => m.bg e.symm), h4⟩, ⟨cs, hf.blk h5 (fun e => m.bh e.symm), h6⟩, m.pos, m.most, m.bg, m.bh, m.gh⟩
theorem IsM.slay {w : World} {b g h S : Nat} {d : Mq} (m : IsM w b g h S d) (i : Nat) (x : Int) : IsM (w.setCell ⟨g, i, none⟩ (.int .i64 x)) b g h S (d.lay i x) := by
  obtain ⟨cg, h3, h4, h5⟩ := m.row
  obtain ⟨cs, h6, h7⟩ := m.ths
  have hf := Fr.set1 w g i (.int .i64 x)
  refine ⟨hf.blk m.blk m.bg, ⟨_, blk_setCell h3, by simpa using h4, fun j hj => ?_⟩, ⟨cs, hf.blk h6 (fun e => m.gh e.symm), h7⟩, m.pos, m.most, m.bg, m.bh, m.gh⟩
  rw [Array.getElem?_setIfInBounds]
  by_cases e : i = j
  · subst e; rw [if_pos rfl, if_pos (by omega)]; simp [Mq.lay]
  · rw [if_neg e, h5 j hj]; simp [Mq.lay, show ¬ j = i from fun h => e h.symm]

/-- what a step came to, in a block of its own (the document's) -/
def DmAt (w : World) (b : Nat) (x : Dn) : Prop := w.heap[b]? = some (.cells #[.bool x.over, .int .i64 x.op, .int .i64 x.v, .int .i64 x.err] 41 (0, 0))

theorem load_dm {w : World} {b : Nat} {x : Dn} (h : DmAt w b x) : (loadVar 41 ⟨b, 0, none⟩).run Try.prog w = .ok (dnV x) w := by
  refine run_loadVar_mid w b 0 41 [.bool x.over, .int .i64 x.op, .int .i64 x.v, .int .i64 x.err] _ ?_ Try.underlying41 rfl (by kernel_rfl)
  intro j v hv
  match j, hv with
  | 0, hv => simpa using (cell_at h 0).trans hv
  | 1, hv => simpa using (cell_at h 1).trans hv
  | 2, hv => simpa using (cell_at h 2).trans hv
  | 3, hv => simpa using (cell_at h 3).trans hv

theorem results_dm {fn : Func} {p : Tmp} (h : fn.results = #[.cell p 41]) (tmps : Array Value) (w : World) (b : Nat) (x : Dn) (hp : tmps.getD p undef = .pointer (some ⟨b, 0, none⟩))
    (hb : DmAt w b x) : (results fn tmps).run Try.prog w = .ok (dnV x) w := by
  have e : (results fn tmps).run Try.prog w = ((asAddr (tmps.getD p undef)).run Try.prog w).andThen fun a w₁ => ((loadVar 41 a).run Try.prog w₁).andThen fun x w₂ => .ok x w₂ := by
    simp only [results, h]
    simp [Sem.run_bind, Result.andThen]
    cases (asAddr (tmps[p]?.getD undef)).run Try.prog w with
    | halt h w => rfl
    | ok a w => dsimp only; cases (loadVar 41 a).run Try.prog w <;> rfl
  have := load_dm hb
  rw [e, hp]
  simp only [asAddr, Sem.run_pure, Result.andThen_ok, this]

theorem results_dm2 {fn : Func} {p u : Tmp} (h : fn.results = #[.cell p 41, .tmp u]) (tmps : Array Value) (w : World) (b : Nat) (x : Dn) (hp : tmps.getD p undef = .pointer (some ⟨b, 0, none⟩))
    (hb : DmAt w b x) : (results fn tmps).run Try.prog w = .ok (.tuple #[dnV x, tmps.getD u undef]) w := by
  rw [results_cell_tmp h, hp]
  have := load_dm hb
  simp only [asAddr, Sem.run_pure, Result.andThen_ok, this]

theorem DmAt.new (w : World) : DmAt (w.alloc (.cells #[.bool false, .int .i64 0, .int .i64 0, .int .i64 0] 41)) w.heap.size Dn.none := blk_new w _

theorem DmAt.set {w : World} {b : Nat} {x : Dn} (h : DmAt w b x) (y : Dn) :
    DmAt ((((w.setCell ⟨b, 0, none⟩ (.bool y.over)).setCell ⟨b, 1, none⟩ (.int .i64 y.op)).setCell ⟨b, 2, none⟩ (.int .i64 y.v)).setCell ⟨b, 3, none⟩ (.int .i64 y.err)) b y := by
  have h1 := blk_setCell (i := 0) (u := .bool y.over) h
  have h2 := blk_setCell (i := 1) (u := .int .i64 y.op) h1
  have h3 := blk_setCell (i := 2) (u := .int .i64 y.v) h2
  have h4 := blk_setCell (i := 3) (u := .int .i64 y.err) h3
  exact h4
theorem DmAt.fr {P : Nat → Prop} {w w' : World} {b : Nat} {x : Dn} (h : DmAt w b x) (hf : Fr P w w') (hb : ¬ P b) : DmAt w' b x := hf.blk h hb

theorem DmAt.cs {w : World} {b : Nat} {x : Dn} (h : DmAt w b x) : (w.cell? ⟨b, 0, none⟩ = some (.bool x.over) ∧ w.cell? ⟨b, 1, none⟩ = some (.int .i64 x.op) ∧ w.cell? ⟨b, 2, none⟩ = some (.int .i64 x.v) ∧ w.cell? ⟨b, 3, none⟩ = some (.int .i64 x.err)) ∧
    (w.frozen? ⟨b, 0, none⟩ = false ∧ w.frozen? ⟨b, 1, none⟩ = false ∧ w.frozen? ⟨b, 2, none⟩ = false ∧ w.frozen? ⟨b, 3, none⟩ = false) :=
  ⟨⟨(cell_at h 0).trans rfl, (cell_at h 1).trans rfl, (cell_at h 2).trans rfl, (cell_at h 3).trans rfl⟩, free_at h 0, free_at h 1, free_at h 2, free_at h 3⟩

theorem DmAt.new2 {W : World} {n : Nat} (hs : W.heap.size = n) : DmAt (W.alloc (.cells #[.bool false, .int .i64 0, .int .i64 0, .int .i64 0] 41)) n Dn.none := by subst hs; exact blk_new W _

set_option maxHeartbeats 1000000 in
theorem at_calls {w : World} {b g h S : Nat} {d : Mq} (m : IsM w b g h S d) (n : Int) (hn : 0 ≤ n ∧ n ≤ 1152921504606846976) {i : Nat} (hi : Hid (ix S n = i)) :
    Calls Try.prog 32 #[.pointer (some ⟨b, 0, none⟩), .int .i64 n] w fun e w' => e = .returned (.int .i64 (i : Int)) ∧ w = w' := by
  obtain ⟨n0, n1⟩ := hn
  have c2 := m.c2
  have h1 := m.pos
  have h2 := m.most
  have hS : ((S : Int) == 0) = false := by simp; omega
  have hm := ix_eq h1 n
  rw [unhide hi] at hm
  have hI : n % (S : Int) = (i : Int) := hm.symm
  have hT : n.tmod (S : Int) = (i : Int) := by rw [Int.tmod_eq_emod_of_nonneg n0]; exact hI
  clear hm
  go_enter Try.func32, Try.ntmps32
  go_wp2
  go_ret
  exact ⟨rfl, rfl⟩

set_option maxHeartbeats 2000000 in
theorem mover_calls {w : World} {b g h S : Nat} {d : Mq} (m : IsM w b g h S d) {k : Nat} (hk : k < 8) (op v err : Int) (hop : Hid ((d.th k).op = op)) :
    Calls Try.prog 36 #[.pointer (some ⟨b, 0, none⟩), .int .i64 (k : Int), .int .i64 v, .int .i64 err] w fun e w' => e = .returned (.agg #[.bool true, .int .i64 op, .int .i64 v, .int .i64 err]) ∧ IsM w' b g h S (d.set k Mt.zero) ∧ Fr (fun k => k = h) w w' := by
  obtain ⟨o, ho⟩ : ∃ o, o = k * 7 := ⟨_, rfl⟩
  obtain ⟨t0, t1, t2, t3, t4, t5, t6⟩ := m.ct hk rfl
  rw [unhide hop] at t1
  have c3 := m.c3
  have f0 := m.fh (k * 7)
  have f1 := m.fh (k * 7 + 1)
  have f2 := m.fh (k * 7 + 2)
  have f3 := m.fh (k * 7 + 3)
  have f4 := m.fh (k * 7 + 4)
  have f5 := m.fh (k * 7 + 5)
  have f6 := m.fh (k * 7 + 6)
  have hlt := m.lth
  have hltb := m.ltb
  have hk' : (k : Int) < 8 := by omega
  go_enter Try.func36, Try.ntmps36
  go_wp2
  have hD := (m.sth hk rfl Mt.zero).al (.cells #[.bool true, .int .i64 op, .int .i64 v, .int .i64 err] 41)
  have hN := blk_new (mset7 w h (k * 7) Mt.zero) (.cells #[.bool true, .int .i64 op, .int .i64 v, .int .i64 err] 41)
  have hs : (mset7 w h (k * 7) Mt.zero).heap.size = w.heap.size := by unfold mset7; simp
  rw [hs] at hN
  exact bodyPost_ret (results_dm rfl _ _ w.heap.size ⟨true, op, v, err⟩ rfl hN) rfl ⟨rfl, hD, (mset7_fr w h (k * 7) Mt.zero).alloc _⟩

end Go.Proofs.Ytingpopcdihclaa
