/-
  An access of the owner's against a plain list (Owner.goes), walked way by way.
-/
import Derived.Test.YtingpopcdihclaaDqAlone
import Derived.Test.YtingpopcdihclaaDqLinPlain
import Derived.Deep.RegionLaw
namespace Go.Proofs.Ytingpopcdihclaa
open Go.RowKit
set_option linter.unusedVariables false
set_option maxRecDepth 8192

/-- a slice whose numbers are K, in blocks from lo on -/
def SK (w : World) (lo : Nat) (v : Value) (K : List Int) : Prop := ∃ a c, v = .slice a K.length c ∧ ∀ i x, K[i]? = some x → ∃ b off, a = some ⟨b, off, none⟩ ∧ lo ≤ b ∧ w.cell? ⟨b, off + i, none⟩ = some (.int .i64 x)

theorem SK.fr {P : Nat → Prop} {w w' : World} {lo : Nat} {v : Value} {K : List Int} (h : SK w lo v K) (hf : Fr P w w') (hP : ∀ k, lo ≤ k → ¬ P k) : SK w' lo v K := by
  obtain ⟨a, c, h1, h2⟩ := h
  refine ⟨a, c, h1, fun i x hx => ?_⟩
  obtain ⟨b, off, g1, g2, g3⟩ := h2 i x hx
  exact ⟨b, off, g1, g2, cell_fr hf (hP b g2) g3⟩
theorem SK.nil (w : World) (lo : Nat) (a : Option Addr) (c : Nat) : SK w lo (.slice a 0 c) [] := ⟨a, c, rfl, fun i x hx => by simp at hx⟩
theorem LS.sk {w : World} {lo : Nat} {v : Value} {l : List Int} (h : LS w lo v l) : SK w lo v l := by
  obtain ⟨a, cap, rfl, hcap, hmax, hc⟩ := h.cell
  refine ⟨a, cap, rfl, fun i x hx => ?_⟩
  have hil := (List.getElem?_eq_some_iff.1 hx).1
  obtain ⟨g, off, rfl, hbg, hcells, hvs⟩ := hc (by omega)
  exact ⟨g, off, rfl, hbg, hvs i _ (by unfold rowV2; rw [List.getElem?_map, hx]; rfl)⟩

/-- what the law knows of the owner's operation, in block bo -/
def OB (w : World) (bo : Nat) (pop : Bool) (md : Nat) (tv : Value) : Prop := w.heap[bo]? = some (.cells #[.bool pop, .int .i64 (md : Int), tv] 57 (0, 0))

/-- of what was there only the deque, the owner's block and rows of numbers behind it have turned -/
abbrev FrG (G bo : Nat) (w w' : World) := Fr (fun k => k = G + 1 ∨ k = G ∨ k = bo ∨ RowsOf w (bo + 1) 2 k) w w'

/-- what goes leaves -/
def GP (w : World) (G bo S : Nat) (d2 : Dq) (pop : Bool) (md : Nat) (L2 K2 : List Int) (e : Ending) (w' : World) : Prop :=
  ∃ lv tv, e = .returned (.tuple #[lv, .bool true]) ∧ IsD w' (G + 1) G S d2 ∧ OB w' bo pop (md + 1) tv ∧ (0 < (d2.th 0).pc → SK w' (bo + 1) tv K2) ∧ LS w' (bo + 1) lv L2 ∧ FrG G bo w w'

theorem OB.set1 {w : World} {bo md : Nat} {pop : Bool} {tv : Value} (h : OB w bo pop md tv) : OB (w.setCell ⟨bo, 1, none⟩ (.int .i64 ((md : Int) + 1))) bo pop (md + 1) tv := by
  have := blk_setCell (i := 1) (u := .int .i64 ((md : Int) + 1)) h
  unfold OB
  rw [this]
  simp
theorem OB.set2 {w : World} {bo md : Nat} {pop : Bool} {tv : Value} (h : OB w bo pop md tv) (tv' : Value) : OB (w.setCell ⟨bo, 2, none⟩ tv') bo pop md tv' := by
  have := blk_setCell (i := 2) (u := tv') h
  unfold OB
  rw [this]
  simp
theorem OB.fr {P : Nat → Prop} {w w' : World} {bo md : Nat} {pop : Bool} {tv : Value} (h : OB w bo pop md tv) (hf : Fr P w w') (hP : ¬ P bo) : OB w' bo pop md tv := hf.blk h hP
theorem OB.cs {w : World} {bo md : Nat} {pop : Bool} {tv : Value} (h : OB w bo pop md tv) : (w.cell? ⟨bo, 0, none⟩ = some (.bool pop) ∧ w.cell? ⟨bo, 1, none⟩ = some (.int .i64 (md : Int)) ∧ w.cell? ⟨bo, 2, none⟩ = some tv) ∧ (w.frozen? ⟨bo, 1, none⟩ = false ∧ w.frozen? ⟨bo, 2, none⟩ = false) :=
  ⟨⟨(cell_at h 0).trans rfl, (cell_at h 1).trans rfl, (cell_at h 2).trans rfl⟩, free_at h 1, free_at h 2⟩

theorem g_fr {w w1 : World} {G bo : Nat} (u : Value) (h : FrD (G + 1) G (w.setCell ⟨bo, 1, none⟩ u) w1) : FrG G bo w w1 :=
  ((Fr.refl (fun k => k = G + 1 ∨ k = G ∨ k = bo ∨ RowsOf w (bo + 1) 2 k) w).setAt bo 1 u (.inr (.inr (.inr (.inl rfl))))).trans h (fun _ _ h => h) (fun _ _ h => h.elim .inl (fun h => .inr (.inl h)))

theorem step_append_os {P : Program} {ops : Array Oper} {o : Oper} {a : Act} {w : World} {K : Act → World → Prop} {Q : Exit → Act → World → Prop} {E : Prop}
    (hg : o.guard = none) (s x : Operand) (t : TypeId) (ho : o.op = .call { callee := .builtin .append, args := #[s, x], argTypes := #[t, t] })
    (e : TypeId) (z : Value) (sz bytes : Nat) (ht : P.underlying t = some (.slice e)) (hin : (P.info? e).map (fun i => (i.zero, i.size, i.bytes)) = some (some z, sz, bytes)) (hzs : z.cells.size = sz)
    (lo : Nat) (v : Value) (n : Nat) (vs : List Value) (hsv : a.eval s = v) (h : OS w lo e sz v n vs) (y : Value) (m : Nat) (news : List Value) (hx : a.eval x = y) (hs : Src P sz t y m news w)
    (h63 : n + m ≤ maxLen) (hbytes : (n + m) * bytes ≤ 140737488355328) (hlo : lo ≤ w.heap.size)
    (hK : ∀ v' w', OS w' lo e sz v' (n + m) (vs ++ news) → Fr (RowsOf w lo e) w w' → K (a.put o.dst v') w') :
    if Region.wanted o (yielded ops a.tmps) = true then Oper.wp P o a w K Q else E := by
  have hw : Region.wanted o (yielded ops a.tmps) = true := by simp [Region.wanted, hg]
  rw [if_pos hw]
  obtain ⟨i, h2, h3, h4, h5⟩ := info_parts hin
  obtain ⟨v', w', hr, r1, r2⟩ := run_append_os (P := P) w t o.type e i z sz bytes ht h2 h3 h4 h5 hzs lo v n vs h y m news hs h63 hbytes hlo
  unfold Oper.wp execOp
  simp only [ho, resolve, invoke, builtin, Sem.run_bind, Sem.run_pure, Result.andThen_ok, List.map_toArray, List.map_cons, List.map_nil, hsv, hx, hr]
  exact hK v' w' r1 r2

theorem one_at {W W' : World} {x : Value} {T : TypeId} (e : W'.heap = (W.alloc (.cells #[x] T)).heap) : ∀ (j : Nat) (u : Value), [x][j]? = some u → W'.cell? ((⟨W.heap.size, 0, none⟩ : Addr).add j) = some u := by
  intro j u h
  have hb : W'.heap[W.heap.size]? = some (.cells #[x] T (0, 0)) := by rw [e]; exact blk_new W _
  rw [Addr.add_lit, cell_at hb (0 + j)]
  simpa using h

theorem one_keep {W W0 wA : World} {x : Value} {T : TypeId} (hF : Fr (fun _ => False) W0 wA) (e : W0.heap = (W.alloc (.cells #[x] T)).heap) : ∀ (j : Nat) (u : Value), [x][j]? = some u → wA.cell? ((⟨W.heap.size, 0, none⟩ : Addr).add j) = some u := by
  intro j u h
  have hb : W0.heap[W.heap.size]? = some (.cells #[x] T (0, 0)) := by rw [e]; exact blk_new W _
  rw [Addr.add_lit, cell_at (hF.blk hb (fun h => h)) (0 + j)]
  simpa using h

theorem OS.al {w w' : World} {lo : Nat} {e : TypeId} {sz : Nat} {v : Value} {n : Nat} {vs : List Value} (h : OS w lo e sz v n vs) (o : Obj) (he : w'.heap = (w.alloc o).heap) : OS w' lo e sz v n vs := by
  have := h.fr ((Fr.refl (fun _ => False) w).alloc o) (fun _ _ h => h)
  unfold OS at *
  rw [he]
  exact this

set_option maxHeartbeats 2000000 in
theorem g_push1 {w : World} {G bo S : Nat} {d d2 : Dq} {md : Nat} {L K : List Int} {y : Dn} {ta la : Option Addr} {tc lc : Nat} (hD : IsD w (G + 1) G S d) (hs : Sd d 0) (h2 : (stp S d 0).1 = d2) (hy : (stp S d 0).2 = y) (hG : G + 1 < bo)
    (hB : OB w bo false md (.slice ta K.length tc)) (hT : SK w (bo + 1) (.slice ta K.length tc) K) (hO : LS w (bo + 1) (.slice la L.length lc) L) (hmd : md ≤ 5) (hlen : L.length ≤ 64) (e : y = Dn.none) :
    Calls Try.prog 25 #[.pointer (some ⟨bo, 0, none⟩), .pointer (some ⟨G + 1, 0, none⟩), .slice la L.length lc] w (GP w G bo S d2 false md L K) := by
  have HS0 := fun (w1 : World) (h1 : IsD w1 (G + 1) G S d) => step_busy h1 (k := 0) (by omega) hs
  rw [h2, hy] at HS0
  obtain ⟨top0, top1⟩ := hs.top
  obtain ⟨bot0, bot1⟩ := hs.bot
  clear h2 hy hs
  subst e
  have HST := hide HS0
  clear HS0
  obtain ⟨⟨b0, b1, b2⟩, f1, f2⟩ := hB.cs
  have hD1 := hD.fr (Fr.set1 w bo 1 (.int .i64 ((md : Int) + 1))) (show ¬ G + 1 = bo by omega) (show ¬ G = bo by omega)
  have hB1 := hB.set1
  have hlt := lt_of_blk hB
  go_enter Try.func25, Try.ntmps25
  go_wp2_with (first
    | (go_at_call 17; refine (dtop hD1).mono ?_; rintro e w' ⟨rfl, rfl⟩)
    | (go_at_call 17; refine (dtop (hD3.al _)).mono ?_; rintro e w' ⟨rfl, rfl⟩)
    | (go_at_call 15; refine (unhide HST _ hD1).mono ?_; rintro e w3 ⟨rfl, hD3, hF3⟩; unfold dnV; (try unfold Dn.none); dsimp only; have hB3 := hB1.fr hF3 (show ¬ (bo = G + 1 ∨ bo = G) by omega); obtain ⟨⟨e0, e1, e2⟩, g1, g2⟩ := hB3.cs; have hlt3 := lt_of_blk hB3; have hGF := g_fr _ hF3)
    | (go_at_call 18; refine (dbot (hD3.al _)).mono ?_; rintro e w' ⟨rfl, rfl⟩)
    | (go_at_call 12; refine (dsize (hD3.al _)).mono ?_; rintro e w' ⟨rfl, rfl⟩))
  go_ret2
  exact ⟨_, _, rfl, hD3.al _, hB3.fr ((Fr.refl (fun _ => False) _).alloc _) (fun h => h), fun _ => ((hT.fr (Fr.set1 w bo 1 _) (fun k hk => by omega)).fr hF3 (fun k hk => by omega)).fr ((Fr.refl (fun _ => False) _).alloc _) (fun _ _ h => h), ((hO.fr (Fr.set1 w bo 1 _) (fun k hk e => by have := hk.1; omega)).fr hF3 (fun k hk => by have := hk.1; omega)).fr ((Fr.refl (fun _ => False) _).alloc _) (fun _ _ h => h), hGF.alloc _⟩

set_option maxHeartbeats 2000000 in
theorem g_pop1 {w : World} {G bo S : Nat} {d d2 : Dq} {md : Nat} {L K : List Int} {y : Dn} {ta la : Option Addr} {tc lc : Nat} (hD : IsD w (G + 1) G S d) (hs : Sd d 0) (h2 : (stp S d 0).1 = d2) (hy : (stp S d 0).2 = y) (hG : G + 1 < bo)
    (hB : OB w bo true md (.slice ta K.length tc)) (hT : SK w (bo + 1) (.slice ta K.length tc) K) (hO : LS w (bo + 1) (.slice la L.length lc) L) (hmd : md ≤ 5) (hlen : L.length ≤ 64) (e : y = Dn.none) (m1 : md + 1 ≠ 3) (m2 : md + 1 ≠ 5) :
    Calls Try.prog 25 #[.pointer (some ⟨bo, 0, none⟩), .pointer (some ⟨G + 1, 0, none⟩), .slice la L.length lc] w (GP w G bo S d2 true md L K) := by
  have HS0 := fun (w1 : World) (h1 : IsD w1 (G + 1) G S d) => step_busy h1 (k := 0) (by omega) hs
  rw [h2, hy] at HS0
  obtain ⟨top0, top1⟩ := hs.top
  obtain ⟨bot0, bot1⟩ := hs.bot
  clear h2 hy hs
  subst e
  have HST := hide HS0
  clear HS0
  obtain ⟨⟨b0, b1, b2⟩, f1, f2⟩ := hB.cs
  have hD1 := hD.fr (Fr.set1 w bo 1 (.int .i64 ((md : Int) + 1))) (show ¬ G + 1 = bo by omega) (show ¬ G = bo by omega)
  have hB1 := hB.set1
  have hlt := lt_of_blk hB
  have m3 : (((md : Int) + 1) == 3) = false := by simp; omega
  have m5 : (((md : Int) + 1) == 5) = false := by simp; omega
  clear m1 m2
  go_enter Try.func25, Try.ntmps25
  go_wp2_with (first
    | (go_at_call 17; refine (dtop hD1).mono ?_; rintro e w' ⟨rfl, rfl⟩)
    | (go_at_call 17; refine (dtop (hD3.al _)).mono ?_; rintro e w' ⟨rfl, rfl⟩)
    | (go_at_call 15; refine (unhide HST _ hD1).mono ?_; rintro e w3 ⟨rfl, hD3, hF3⟩; unfold dnV; (try unfold Dn.none); dsimp only; have hB3 := hB1.fr hF3 (show ¬ (bo = G + 1 ∨ bo = G) by omega); obtain ⟨⟨e0, e1, e2⟩, g1, g2⟩ := hB3.cs; have hlt3 := lt_of_blk hB3; have hGF := g_fr _ hF3)
    | (go_at_call 18; refine (dbot (hD3.al _)).mono ?_; rintro e w' ⟨rfl, rfl⟩)
    | (go_at_call 12; refine (dsize (hD3.al _)).mono ?_; rintro e w' ⟨rfl, rfl⟩))
  go_ret2
  exact ⟨_, _, rfl, hD3.al _, hB3.fr ((Fr.refl (fun _ => False) _).alloc _) (fun h => h), fun _ => ((hT.fr (Fr.set1 w bo 1 _) (fun k hk => by omega)).fr hF3 (fun k hk => by omega)).fr ((Fr.refl (fun _ => False) _).alloc _) (fun _ _ h => h), ((hO.fr (Fr.set1 w bo 1 _) (fun k hk e => by have := hk.1; omega)).fr hF3 (fun k hk => by have := hk.1; omega)).fr ((Fr.refl (fun _ => False) _).alloc _) (fun _ _ h => h), hGF.alloc _⟩

set_option maxHeartbeats 2000000 in
theorem g_pop3n {w : World} {G bo S : Nat} {d d2 : Dq} {md : Nat} {L K : List Int} {y : Dn} {ta la : Option Addr} {tc lc : Nat} (hD : IsD w (G + 1) G S d) (hs : Sd d 0) (h2 : (stp S d 0).1 = d2) (hy : (stp S d 0).2 = y) (hG : G + 1 < bo)
    (hB : OB w bo true md (.slice ta K.length tc)) (hT : SK w (bo + 1) (.slice ta K.length tc) K) (hO : LS w (bo + 1) (.slice la L.length lc) L) (hmd : md ≤ 5) (hlen : L.length ≤ 64) (e : y = Dn.none) (m1 : md = 2) (h1 : d.bot - d.top ≤ 0) (h3 : (L.length : Int) = d.bot - d.top + 1) (h4 : d2.bot = d.bot) :
    Calls Try.prog 25 #[.pointer (some ⟨bo, 0, none⟩), .pointer (some ⟨G + 1, 0, none⟩), .slice la L.length lc] w (GP w G bo S d2 true md L K) := by
  have HS0 := fun (w1 : World) (h1 : IsD w1 (G + 1) G S d) => step_busy h1 (k := 0) (by omega) hs
  rw [h2, hy] at HS0
  obtain ⟨top0, top1⟩ := hs.top
  obtain ⟨bot0, bot1⟩ := hs.bot
  clear h2 hy hs
  subst e
  have HST := hide HS0
  clear HS0
  obtain ⟨⟨b0, b1, b2⟩, f1, f2⟩ := hB.cs
  have hD1 := hD.fr (Fr.set1 w bo 1 (.int .i64 ((md : Int) + 1))) (show ¬ G + 1 = bo by omega) (show ¬ G = bo by omega)
  have hB1 := hB.set1
  have hlt := lt_of_blk hB
  obtain ⟨nL, hnL⟩ : ∃ nL, L.length = nL := ⟨_, rfl⟩
  have HNL := hide hnL
  rw [hnL] at h3 ⊢
  have hn1 : (nL : Int) ≤ 1 := by omega
  have hl : d.bot - d.top = (nL : Int) - 1 := by omega
  clear hnL h1 h3
  have m3 : (((md : Int) + 1) == 3) = true := by simp; omega
  have m5 : (((md : Int) + 1) == 5) = false := by simp; omega
  clear m1
  go_enter Try.func25, Try.ntmps25
  go_wp2_with (first
    | (go_at_call 17; refine (dtop hD1).mono ?_; rintro e w' ⟨rfl, rfl⟩)
    | (go_at_call 17; refine (dtop (hD3.al _)).mono ?_; rintro e w' ⟨rfl, rfl⟩)
    | (go_at_call 15; refine (unhide HST _ hD1).mono ?_; rintro e w3 ⟨rfl, hD3, hF3⟩; unfold dnV; (try unfold Dn.none); dsimp only; have hB3 := hB1.fr hF3 (show ¬ (bo = G + 1 ∨ bo = G) by omega); obtain ⟨⟨e0, e1, e2⟩, g1, g2⟩ := hB3.cs; have hlt3 := lt_of_blk hB3; have hGF := g_fr _ hF3)
    | (go_at_call 18; refine (dbot (hD3.al _)).mono ?_; rintro e w' ⟨rfl, rfl⟩)
    | (go_at_call 12; refine (dsize (hD3.al _)).mono ?_; rintro e w' ⟨rfl, rfl⟩))
  go_ret2
  unfold GP
  rw [← HNL.out]
  exact ⟨_, _, rfl, hD3.al _, hB3.fr ((Fr.refl (fun _ => False) _).alloc _) (fun h => h), fun _ => ((hT.fr (Fr.set1 w bo 1 _) (fun k hk => by omega)).fr hF3 (fun k hk => by omega)).fr ((Fr.refl (fun _ => False) _).alloc _) (fun _ _ h => h), ((hO.fr (Fr.set1 w bo 1 _) (fun k hk e => by have := hk.1; omega)).fr hF3 (fun k hk => by have := hk.1; omega)).fr ((Fr.refl (fun _ => False) _).alloc _) (fun _ _ h => h), hGF.alloc _⟩

set_option maxHeartbeats 2000000 in
theorem g_pop5n {w : World} {G bo S : Nat} {d d2 : Dq} {md : Nat} {L K : List Int} {y : Dn} {ta la : Option Addr} {tc lc : Nat} (hD : IsD w (G + 1) G S d) (hs : Sd d 0) (h2 : (stp S d 0).1 = d2) (hy : (stp S d 0).2 = y) (hG : G + 1 < bo)
    (hB : OB w bo true md (.slice ta K.length tc)) (hT : SK w (bo + 1) (.slice ta K.length tc) K) (hO : LS w (bo + 1) (.slice la L.length lc) L) (hmd : md ≤ 5) (hlen : L.length ≤ 64) (e : y = Dn.none) (m1 : md = 4) (h4 : d2.top = d.top) :
    Calls Try.prog 25 #[.pointer (some ⟨bo, 0, none⟩), .pointer (some ⟨G + 1, 0, none⟩), .slice la L.length lc] w (GP w G bo S d2 true md L K) := by
  have HS0 := fun (w1 : World) (h1 : IsD w1 (G + 1) G S d) => step_busy h1 (k := 0) (by omega) hs
  rw [h2, hy] at HS0
  obtain ⟨top0, top1⟩ := hs.top
  obtain ⟨bot0, bot1⟩ := hs.bot
  clear h2 hy hs
  subst e
  have HST := hide HS0
  clear HS0
  obtain ⟨⟨b0, b1, b2⟩, f1, f2⟩ := hB.cs
  have hD1 := hD.fr (Fr.set1 w bo 1 (.int .i64 ((md : Int) + 1))) (show ¬ G + 1 = bo by omega) (show ¬ G = bo by omega)
  have hB1 := hB.set1
  have hlt := lt_of_blk hB
  have m3 : (((md : Int) + 1) == 3) = false := by simp; omega
  have m5 : (((md : Int) + 1) == 5) = true := by simp; omega
  clear m1
  go_enter Try.func25, Try.ntmps25
  go_wp2_with (first
    | (go_at_call 17; refine (dtop hD1).mono ?_; rintro e w' ⟨rfl, rfl⟩)
    | (go_at_call 17; refine (dtop (hD3.al _)).mono ?_; rintro e w' ⟨rfl, rfl⟩)
    | (go_at_call 15; refine (unhide HST _ hD1).mono ?_; rintro e w3 ⟨rfl, hD3, hF3⟩; unfold dnV; (try unfold Dn.none); dsimp only; have hB3 := hB1.fr hF3 (show ¬ (bo = G + 1 ∨ bo = G) by omega); obtain ⟨⟨e0, e1, e2⟩, g1, g2⟩ := hB3.cs; have hlt3 := lt_of_blk hB3; have hGF := g_fr _ hF3)
    | (go_at_call 18; refine (dbot (hD3.al _)).mono ?_; rintro e w' ⟨rfl, rfl⟩)
    | (go_at_call 12; refine (dsize (hD3.al _)).mono ?_; rintro e w' ⟨rfl, rfl⟩))
  go_ret2
  exact ⟨_, _, rfl, hD3.al _, hB3.fr ((Fr.refl (fun _ => False) _).alloc _) (fun h => h), fun _ => ((hT.fr (Fr.set1 w bo 1 _) (fun k hk => by omega)).fr hF3 (fun k hk => by omega)).fr ((Fr.refl (fun _ => False) _).alloc _) (fun _ _ h => h), ((hO.fr (Fr.set1 w bo 1 _) (fun k hk e => by have := hk.1; omega)).fr hF3 (fun k hk => by have := hk.1; omega)).fr ((Fr.refl (fun _ => False) _).alloc _) (fun _ _ h => h), hGF.alloc _⟩

set_option maxHeartbeats 2000000 in
theorem g_full {w : World} {G bo S : Nat} {d d2 : Dq} {md : Nat} {L K : List Int} {y : Dn} {v : Int} {ta la : Option Addr} {tc lc : Nat} (hD : IsD w (G + 1) G S d) (hs : Sd d 0) (h2 : (stp S d 0).1 = d2) (hy : (stp S d 0).2 = y) (hG : G + 1 < bo)
    (hB : OB w bo false md (.slice ta K.length tc)) (hT : SK w (bo + 1) (.slice ta K.length tc) K) (hO : LS w (bo + 1) (.slice la L.length lc) L) (hmd : md ≤ 5) (hlen : L.length ≤ 64) (e : y = ⟨true, 0, v, 7⟩) (h1 : L.length = S) :
    Calls Try.prog 25 #[.pointer (some ⟨bo, 0, none⟩), .pointer (some ⟨G + 1, 0, none⟩), .slice la L.length lc] w (GP w G bo S d2 false md L K) := by
  have HS0 := fun (w1 : World) (h1 : IsD w1 (G + 1) G S d) => step_busy h1 (k := 0) (by omega) hs
  rw [h2, hy] at HS0
  obtain ⟨top0, top1⟩ := hs.top
  obtain ⟨bot0, bot1⟩ := hs.bot
  clear h2 hy hs
  subst e h1
  have HST := hide HS0
  clear HS0
  obtain ⟨⟨b0, b1, b2⟩, f1, f2⟩ := hB.cs
  have hD1 := hD.fr (Fr.set1 w bo 1 (.int .i64 ((md : Int) + 1))) (show ¬ G + 1 = bo by omega) (show ¬ G = bo by omega)
  have hB1 := hB.set1
  have hlt := lt_of_blk hB
  go_enter Try.func25, Try.ntmps25
  go_wp2_with (first
    | (go_at_call 17; refine (dtop hD1).mono ?_; rintro e w' ⟨rfl, rfl⟩)
    | (go_at_call 17; refine (dtop (hD3.al _)).mono ?_; rintro e w' ⟨rfl, rfl⟩)
    | (go_at_call 15; refine (unhide HST _ hD1).mono ?_; rintro e w3 ⟨rfl, hD3, hF3⟩; unfold dnV; (try unfold Dn.none); dsimp only; have hB3 := hB1.fr hF3 (show ¬ (bo = G + 1 ∨ bo = G) by omega); obtain ⟨⟨e0, e1, e2⟩, g1, g2⟩ := hB3.cs; have hlt3 := lt_of_blk hB3; have hGF := g_fr _ hF3)
    | (go_at_call 18; refine (dbot (hD3.al _)).mono ?_; rintro e w' ⟨rfl, rfl⟩)
    | (go_at_call 12; refine (dsize (hD3.al _)).mono ?_; rintro e w' ⟨rfl, rfl⟩))
  go_ret2
  exact ⟨_, _, rfl, hD3.al _, hB3.fr ((Fr.refl (fun _ => False) _).alloc _) (fun h => h), fun _ => ((hT.fr (Fr.set1 w bo 1 _) (fun k hk => by omega)).fr hF3 (fun k hk => by omega)).fr ((Fr.refl (fun _ => False) _).alloc _) (fun _ _ h => h), ((hO.fr (Fr.set1 w bo 1 _) (fun k hk e => by have := hk.1; omega)).fr hF3 (fun k hk => by have := hk.1; omega)).fr ((Fr.refl (fun _ => False) _).alloc _) (fun _ _ h => h), hGF.alloc _⟩

set_option maxHeartbeats 2000000 in
theorem g_popped {w : World} {G bo S : Nat} {d d2 : Dq} {md : Nat} {L K : List Int} {y : Dn} {v : Int} {ta la : Option Addr} {tc lc : Nat} (hD : IsD w (G + 1) G S d) (hs : Sd d 0) (h2 : (stp S d 0).1 = d2) (hy : (stp S d 0).2 = y) (hG : G + 1 < bo)
    (hB : OB w bo true md (.slice ta K.length tc)) (hT : SK w (bo + 1) (.slice ta K.length tc) K) (hO : LS w (bo + 1) (.slice la L.length lc) L) (hmd : md ≤ 5) (hlen : L.length ≤ 64) (eK : K = [v]) (e : y = ⟨true, 1, v, 0⟩) (m1 : md + 1 ≠ 3) (m2 : md + 1 ≠ 5) (h9 : (d2.th 0).pc = 0) :
    Calls Try.prog 25 #[.pointer (some ⟨bo, 0, none⟩), .pointer (some ⟨G + 1, 0, none⟩), .slice la L.length lc] w (GP w G bo S d2 true md L []) := by
  have HS0 := fun (w1 : World) (h1 : IsD w1 (G + 1) G S d) => step_busy h1 (k := 0) (by omega) hs
  rw [h2, hy] at HS0
  obtain ⟨top0, top1⟩ := hs.top
  obtain ⟨bot0, bot1⟩ := hs.bot
  clear h2 hy hs
  subst e eK
  simp only [List.length_singleton] at hB hT
  have HST := hide HS0
  clear HS0
  obtain ⟨⟨b0, b1, b2⟩, f1, f2⟩ := hB.cs
  have hD1 := hD.fr (Fr.set1 w bo 1 (.int .i64 ((md : Int) + 1))) (show ¬ G + 1 = bo by omega) (show ¬ G = bo by omega)
  have hB1 := hB.set1
  have hlt := lt_of_blk hB
  have m3 : (((md : Int) + 1) == 3) = false := by simp; omega
  have m5 : (((md : Int) + 1) == 5) = false := by simp; omega
  clear m1 m2
  go_enter Try.func25, Try.ntmps25
  have HO3 : Hid (SK w (bo + 1) (.slice ta 1 tc) [v]) := hide hT
  obtain ⟨a9, c9, e9, hcel⟩ := hT
  simp at e9
  obtain ⟨rfl, rfl⟩ := e9
  obtain ⟨bl, ol, rfl, hbl, hcv⟩ := hcel 0 v rfl
  have d0 := cell_fr (Fr.set1 w bo 1 (.int .i64 ((md : Int) + 1))) (show ¬ bl = bo by omega) hcv
  have hlb := World.block_lt_of_cell? w ⟨bl, ol + 0, none⟩ hcv
  simp at hlb
  clear hcel
  go_wp2_with (first
    | (go_at_call 17; refine (dtop hD1).mono ?_; rintro e w' ⟨rfl, rfl⟩)
    | (go_at_call 17; refine (dtop (hD3.al _)).mono ?_; rintro e w' ⟨rfl, rfl⟩)
    | (go_at_call 15; refine (unhide HST _ hD1).mono ?_; rintro e w3 ⟨rfl, hD3, hF3⟩; unfold dnV; (try unfold Dn.none); dsimp only; have hB3 := hB1.fr hF3 (show ¬ (bo = G + 1 ∨ bo = G) by omega); obtain ⟨⟨e0, e1, e2⟩, g1, g2⟩ := hB3.cs; have hlt3 := lt_of_blk hB3; have hGF := g_fr _ hF3; have d3 := cell_fr hF3 (show ¬ (bl = G + 1 ∨ bl = G) by omega) d0; rw [Nat.add_zero] at d3; have hl3 : bl < w3.heap.size := World.block_lt_of_cell? w3 ⟨bl, ol, none⟩ d3)
    | (go_at_call 18; refine (dbot (hD3.al _)).mono ?_; rintro e w' ⟨rfl, rfl⟩)
    | (go_at_call 12; refine (dsize (hD3.al _)).mono ?_; rintro e w' ⟨rfl, rfl⟩))
  go_quiet (fail)
  go_wp2
  go_ret2
  exact ⟨_, _, rfl, (hD3.al _).drewN _, (hB3.fr ((Fr.refl (fun _ => False) _).alloc _) (fun h => h)).fr ((Fr.refl (fun _ => False) _).drewN _) (fun h => h), fun h => absurd h (by omega), LS.drewN (((hO.fr (Fr.set1 w bo 1 _) (fun k hk e => by have := hk.1; omega)).fr hF3 (fun k hk => by have := hk.1; omega)).fr ((Fr.refl (fun _ => False) _).alloc _) (fun _ _ h => h)) _, (hGF.alloc _).drewN _⟩

set_option maxHeartbeats 2000000 in
theorem g_empty {w : World} {G bo S : Nat} {d d2 : Dq} {md : Nat} {L K : List Int} {y : Dn} {ta la : Option Addr} {tc lc : Nat} (hD : IsD w (G + 1) G S d) (hs : Sd d 0) (h2 : (stp S d 0).1 = d2) (hy : (stp S d 0).2 = y) (hG : G + 1 < bo)
    (hB : OB w bo true md (.slice ta K.length tc)) (hT : SK w (bo + 1) (.slice ta K.length tc) K) (hO : LS w (bo + 1) (.slice la L.length lc) L) (hmd : md ≤ 5) (hlen : L.length ≤ 64) (eL : L = []) (eK : K = []) (e : y = ⟨true, 1, 0, 8⟩) (m1 : md + 1 ≠ 3) (m2 : md + 1 ≠ 5) :
    Calls Try.prog 25 #[.pointer (some ⟨bo, 0, none⟩), .pointer (some ⟨G + 1, 0, none⟩), .slice la L.length lc] w (GP w G bo S d2 true md [] []) := by
  have HS0 := fun (w1 : World) (h1 : IsD w1 (G + 1) G S d) => step_busy h1 (k := 0) (by omega) hs
  rw [h2, hy] at HS0
  obtain ⟨top0, top1⟩ := hs.top
  obtain ⟨bot0, bot1⟩ := hs.bot
  clear h2 hy hs
  subst e eK eL
  simp only [List.length_nil] at hB hT hO ⊢
  have HST := hide HS0
  clear HS0
  obtain ⟨⟨b0, b1, b2⟩, f1, f2⟩ := hB.cs
  have hD1 := hD.fr (Fr.set1 w bo 1 (.int .i64 ((md : Int) + 1))) (show ¬ G + 1 = bo by omega) (show ¬ G = bo by omega)
  have hB1 := hB.set1
  have hlt := lt_of_blk hB
  have m3 : (((md : Int) + 1) == 3) = false := by simp; omega
  have m5 : (((md : Int) + 1) == 5) = false := by simp; omega
  clear m1 m2
  go_enter Try.func25, Try.ntmps25
  go_wp2_with (first
    | (go_at_call 17; refine (dtop hD1).mono ?_; rintro e w' ⟨rfl, rfl⟩)
    | (go_at_call 17; refine (dtop (hD3.al _)).mono ?_; rintro e w' ⟨rfl, rfl⟩)
    | (go_at_call 15; refine (unhide HST _ hD1).mono ?_; rintro e w3 ⟨rfl, hD3, hF3⟩; unfold dnV; (try unfold Dn.none); dsimp only; have hB3 := hB1.fr hF3 (show ¬ (bo = G + 1 ∨ bo = G) by omega); obtain ⟨⟨e0, e1, e2⟩, g1, g2⟩ := hB3.cs; have hlt3 := lt_of_blk hB3; have hGF := g_fr _ hF3)
    | (go_at_call 18; refine (dbot (hD3.al _)).mono ?_; rintro e w' ⟨rfl, rfl⟩)
    | (go_at_call 12; refine (dsize (hD3.al _)).mono ?_; rintro e w' ⟨rfl, rfl⟩))
  go_quiet (fail)
  go_wp2
  go_ret2
  exact ⟨_, _, rfl, (hD3.al _).drewN _, (hB3.fr ((Fr.refl (fun _ => False) _).alloc _) (fun h => h)).fr ((Fr.refl (fun _ => False) _).drewN _) (fun h => h), fun h => ⟨_, _, rfl, fun i x hx => by simp at hx⟩, LS.drewN (((hO.fr (Fr.set1 w bo 1 _) (fun k hk e => by have := hk.1; omega)).fr hF3 (fun k hk => by have := hk.1; omega)).fr ((Fr.refl (fun _ => False) _).alloc _) (fun _ _ h => h)) _, (hGF.alloc _).drewN _⟩

set_option maxHeartbeats 2000000 in
theorem g_pop5y {w : World} {G bo S : Nat} {d d2 : Dq} {md : Nat} {L K : List Int} {y : Dn} {x : Int} {ta la : Option Addr} {tc lc : Nat} (hD : IsD w (G + 1) G S d) (hs : Sd d 0) (h2 : (stp S d 0).1 = d2) (hy : (stp S d 0).2 = y) (hG : G + 1 < bo)
    (hB : OB w bo true md (.slice ta K.length tc)) (hT : SK w (bo + 1) (.slice ta K.length tc) K) (hO : LS w (bo + 1) (.slice la L.length lc) L) (hmd : md ≤ 5) (hlen : L.length ≤ 64) (eL : L = [x]) (e : y = Dn.none) (m1 : md = 4) (h4 : d2.top ≠ d.top) :
    Calls Try.prog 25 #[.pointer (some ⟨bo, 0, none⟩), .pointer (some ⟨G + 1, 0, none⟩), .slice la L.length lc] w (GP w G bo S d2 true md [] [x]) := by
  have HS0 := fun (w1 : World) (h1 : IsD w1 (G + 1) G S d) => step_busy h1 (k := 0) (by omega) hs
  rw [h2, hy] at HS0
  obtain ⟨top0, top1⟩ := hs.top
  obtain ⟨bot0, bot1⟩ := hs.bot
  clear h2 hy hs
  subst e eL
  simp only [List.length_singleton] at hO ⊢
  have HST := hide HS0
  clear HS0
  obtain ⟨⟨b0, b1, b2⟩, f1, f2⟩ := hB.cs
  have hD1 := hD.fr (Fr.set1 w bo 1 (.int .i64 ((md : Int) + 1))) (show ¬ G + 1 = bo by omega) (show ¬ G = bo by omega)
  have hB1 := hB.set1
  have hlt := lt_of_blk hB
  have m3 : (((md : Int) + 1) == 3) = false := by simp; omega
  have m5 : (((md : Int) + 1) == 5) = true := by simp; omega
  have m6 : (d2.top == d.top) = false := by simpa using h4
  clear m1 h4
  go_enter Try.func25, Try.ntmps25
  go_wp2_with (first
    | (go_at_call 17; refine (dtop hD1).mono ?_; rintro e w' ⟨rfl, rfl⟩)
    | (go_at_call 17; refine (dtop (hD3.al _)).mono ?_; rintro e w' ⟨rfl, rfl⟩)
    | (go_at_call 15; refine (unhide HST _ hD1).mono ?_; rintro e w3 ⟨rfl, hD3, hF3⟩; unfold dnV; (try unfold Dn.none); dsimp only; have hB3 := hB1.fr hF3 (show ¬ (bo = G + 1 ∨ bo = G) by omega); obtain ⟨⟨e0, e1, e2⟩, g1, g2⟩ := hB3.cs; have hlt3 := lt_of_blk hB3; have hGF := g_fr _ hF3)
    | (go_at_call 18; refine (dbot (hD3.al _)).mono ?_; rintro e w' ⟨rfl, rfl⟩)
    | (go_at_call 12; refine (dsize (hD3.al _)).mono ?_; rintro e w' ⟨rfl, rfl⟩))
  go_ret2
  have hO3 := (hO.fr (Fr.set1 w bo 1 _) (fun k hk e => by have := hk.1; omega)).fr hF3 (fun k hk => by have := hk.1; omega)
  have hO4 : LS ((w3.setCell ⟨bo, 2, none⟩ (.slice la 1 lc)).alloc (.cells #[.bool false, .int .i64 0, .int .i64 0, .int .i64 0] 38)) (bo + 1) (.slice la 1 lc) [x] := (hO3.fr (Fr.set1 w3 bo 2 _) (fun k hk e => by have := hk.1; omega)).fr ((Fr.refl (fun _ => False) _).alloc _) (fun _ _ h => h)
  exact ⟨.slice none 0 0, .slice la 1 lc, rfl, (hD3.fr (Fr.set1 w3 bo 2 (.slice la 1 lc)) (show ¬ G + 1 = bo by omega) (show ¬ G = bo by omega)).al _, (hB3.set2 (.slice la 1 lc)).fr ((Fr.refl (fun _ => False) _).alloc _) (fun h => h), fun _ => hO4.sk, OS.nil _ _ _ _, (hGF.setAt bo 2 _ (.inr (.inr (.inr (.inl rfl))))).alloc _⟩

set_option maxHeartbeats 2000000 in
theorem g_pop3y {w : World} {G bo S : Nat} {d d2 : Dq} {md : Nat} {L K : List Int} {y : Dn} {x : Int} {L2 : List Int} {ta la : Option Addr} {tc lc : Nat} (hD : IsD w (G + 1) G S d) (hs : Sd d 0) (h2 : (stp S d 0).1 = d2) (hy : (stp S d 0).2 = y) (hG : G + 1 < bo)
    (hB : OB w bo true md (.slice ta K.length tc)) (hT : SK w (bo + 1) (.slice ta K.length tc) K) (hO : LS w (bo + 1) (.slice la L.length lc) L) (hmd : md ≤ 5) (hlen : L.length ≤ 64) (eL : L = L2 ++ [x]) (e : y = Dn.none) (m1 : md = 2) (h1 : 0 < d.bot - d.top) (h3 : (L2.length : Int) = d.bot - d.top) (h4 : d2.bot = d.bot) :
    Calls Try.prog 25 #[.pointer (some ⟨bo, 0, none⟩), .pointer (some ⟨G + 1, 0, none⟩), .slice la L.length lc] w (GP w G bo S d2 true md L2 [x]) := by
  have HS0 := fun (w1 : World) (h1 : IsD w1 (G + 1) G S d) => step_busy h1 (k := 0) (by omega) hs
  rw [h2, hy] at HS0
  obtain ⟨top0, top1⟩ := hs.top
  obtain ⟨bot0, bot1⟩ := hs.bot
  clear h2 hy hs
  subst e eL
  obtain ⟨l2, hl2⟩ : ∃ l2, L2.length = l2 := ⟨_, rfl⟩
  have hl1 : (L2 ++ [x]).length = l2 + 1 := by simp [hl2]
  rw [hl2] at h3
  have HL2 := hide hl2
  rw [hl1] at hlen ⊢
  unfold LS at hO
  rw [hl1] at hO
  clear hl2 hl1
  have HST := hide HS0
  clear HS0
  obtain ⟨⟨b0, b1, b2⟩, f1, f2⟩ := hB.cs
  have hD1 := hD.fr (Fr.set1 w bo 1 (.int .i64 ((md : Int) + 1))) (show ¬ G + 1 = bo by omega) (show ¬ G = bo by omega)
  have hB1 := hB.set1
  have hlt := lt_of_blk hB
  have m3 : (((md : Int) + 1) == 3) = true := by simp; omega
  have m5 : (((md : Int) + 1) == 5) = false := by simp; omega
  have hl : d.bot - d.top = (l2 : Int) := h3.symm
  have hl0 : (0 : Int) < (l2 : Int) := by omega
  clear m1 h1 h3
  go_enter Try.func25, Try.ntmps25
  obtain ⟨a8, c8, e8, hT8⟩ := hO.take l2 (by omega)
  simp at e8
  obtain ⟨rfl, rfl⟩ := e8
  obtain ⟨a9, c9, e9, hcap, hmax, hcel⟩ := hO.cell
  simp at e9
  obtain ⟨rfl, rfl⟩ := e9
  obtain ⟨gl, ol, rfl, hbl, _, hvs⟩ := hcel (by omega)
  have hx0 := hvs l2 (.int .i64 x) (by unfold rowV2; rw [List.map_append, List.getElem?_append_right (by simp [HL2.out])]; simp [HL2.out])
  have hx1 := cell_fr (Fr.set1 w bo 1 (.int .i64 ((md : Int) + 1))) (show ¬ gl = bo by omega) hx0
  have eT : (rowV2 (L2 ++ [x])).take (l2 * 1) = rowV2 L2 := by unfold rowV2; rw [List.map_append, List.take_left' (by simp [HL2.out])]
  rw [eT] at hT8
  have HT8 := hide hT8
  have HX1 := hide hx1
  have hcI : (l2 : Int) + 1 ≤ (lc : Int) := by omega
  have hcN : l2 ≤ lc := by omega
  have hcJ : (l2 : Int) ≤ (lc : Int) := by omega
  clear hcel hvs hx0 eT hmax hT8 hx1 hO
  go_wp2_with (first
    | (go_at_call 17; refine (dtop hD1).mono ?_; rintro e w' ⟨rfl, rfl⟩)
    | (go_at_call 17; refine (dtop (hD3.al _)).mono ?_; rintro e w' ⟨rfl, rfl⟩)
    | (go_at_call 15; refine (unhide HST _ hD1).mono ?_; rintro e w3 ⟨rfl, hD3, hF3⟩; unfold dnV; (try unfold Dn.none); dsimp only; have hB3 := hB1.fr hF3 (show ¬ (bo = G + 1 ∨ bo = G) by omega); obtain ⟨⟨e0, e1, e2⟩, g1, g2⟩ := hB3.cs; have hlt3 := lt_of_blk hB3; have hGF := g_fr _ hF3)
    | (go_at_call 18; refine (dbot (hD3.al _)).mono ?_; rintro e w' ⟨rfl, rfl⟩)
    | (go_at_call 12; refine (dsize (hD3.al _)).mono ?_; rintro e w' ⟨rfl, rfl⟩))
  go_ret2
  have hx3 := cell_fr (Fr.set1 w3 bo 2 (.slice (some ⟨gl, ol + l2, none⟩) 1 (lc - l2))) (show ¬ gl = bo by omega) (cell_fr hF3 (show ¬ (gl = G + 1 ∨ gl = G) by omega) HX1.out)
  have hT9 := ((HT8.out.fr (Fr.set1 w bo 1 (.int .i64 ((md : Int) + 1))) (fun k hk e => by have := hk.1; omega)).fr hF3 (fun k hk => by have := hk.1; omega)).fr (Fr.set1 w3 bo 2 (.slice (some ⟨gl, ol + l2, none⟩) 1 (lc - l2))) (fun k hk e => by have := hk.1; omega)
  have hL2 : LS ((w3.setCell ⟨bo, 2, none⟩ (.slice (some ⟨gl, ol + l2, none⟩) 1 (lc - l2))).alloc (.cells #[.bool false, .int .i64 0, .int .i64 0, .int .i64 0] 38)) (bo + 1) (.slice (some ⟨gl, ol, none⟩) l2 lc) L2 := by unfold LS; rw [HL2.out]; exact hT9.fr ((Fr.refl (fun _ => False) _).alloc (.cells #[.bool false, .int .i64 0, .int .i64 0, .int .i64 0] 38)) (fun _ _ h => h)
  refine ⟨.slice (some ⟨gl, ol, none⟩) l2 lc, .slice (some ⟨gl, ol + l2, none⟩) 1 (lc - l2), rfl, (hD3.fr (Fr.set1 w3 bo 2 (.slice (some ⟨gl, ol + l2, none⟩) 1 (lc - l2))) (show ¬ G + 1 = bo by omega) (show ¬ G = bo by omega)).al _, (hB3.set2 (.slice (some ⟨gl, ol + l2, none⟩) 1 (lc - l2))).fr ((Fr.refl (fun _ => False) _).alloc _) (fun h => h), fun _ => ⟨_, _, rfl, fun i u hu => ?_⟩, hL2, (hGF.setAt bo 2 _ (.inr (.inr (.inr (.inl rfl))))).alloc _⟩
  have hi := (List.getElem?_eq_some_iff.1 hu).1
  simp at hi
  subst hi
  simp at hu
  subst hu
  exact ⟨gl, ol + l2, rfl, hbl, cell_fr ((Fr.refl (fun _ => False) _).alloc _) (fun h => h) hx3⟩

set_option maxHeartbeats 2000000 in
theorem g_pushed {w : World} {G bo S : Nat} {d d2 : Dq} {md : Nat} {L K : List Int} {y : Dn} {v : Int} {ta la : Option Addr} {tc lc : Nat} (hD : IsD w (G + 1) G S d) (hs : Sd d 0) (h2 : (stp S d 0).1 = d2) (hy : (stp S d 0).2 = y) (hG : G + 1 < bo)
    (hB : OB w bo false md (.slice ta K.length tc)) (hT : SK w (bo + 1) (.slice ta K.length tc) K) (hO : LS w (bo + 1) (.slice la L.length lc) L) (hmd : md ≤ 5) (hlen : L.length ≤ 64) (eK : K = []) (e : y = ⟨true, 0, v, 0⟩) (h9 : (d2.th 0).pc = 0) :
    Calls Try.prog 25 #[.pointer (some ⟨bo, 0, none⟩), .pointer (some ⟨G + 1, 0, none⟩), .slice la L.length lc] w (GP w G bo S d2 false md (L ++ [v]) []) := by
  have HS0 := fun (w1 : World) (h1 : IsD w1 (G + 1) G S d) => step_busy h1 (k := 0) (by omega) hs
  rw [h2, hy] at HS0
  obtain ⟨top0, top1⟩ := hs.top
  obtain ⟨bot0, bot1⟩ := hs.bot
  clear h2 hy hs
  subst e eK
  have HST := hide HS0
  clear HS0
  obtain ⟨⟨b0, b1, b2⟩, f1, f2⟩ := hB.cs
  have hD1 := hD.fr (Fr.set1 w bo 1 (.int .i64 ((md : Int) + 1))) (show ¬ G + 1 = bo by omega) (show ¬ G = bo by omega)
  have hB1 := hB.set1
  have hlt := lt_of_blk hB
  go_enter Try.func25, Try.ntmps25
  go_wp2_with (first
    | (go_at_call 17; refine (dtop hD1).mono ?_; rintro e w' ⟨rfl, rfl⟩)
    | (go_at_call 17; refine (dtop (hD3.al _)).mono ?_; rintro e w' ⟨rfl, rfl⟩)
    | (go_at_call 15; refine (unhide HST _ hD1).mono ?_; rintro e w3 ⟨rfl, hD3, hF3⟩; unfold dnV; (try unfold Dn.none); dsimp only; have hB3 := hB1.fr hF3 (show ¬ (bo = G + 1 ∨ bo = G) by omega); obtain ⟨⟨e0, e1, e2⟩, g1, g2⟩ := hB3.cs; have hlt3 := lt_of_blk hB3; have hGF := g_fr _ hF3; have hO3 := (hO.fr (Fr.set1 w bo 1 _) (fun k hk e => by have := hk.1; omega)).fr hF3 (fun k hk => by have := hk.1; omega); have hX3 : DnAt _ w3.heap.size ⟨true, 0, v, 0⟩ := blk_new w3 (.cells #[.bool true, .int .i64 0, .int .i64 v, .int .i64 0] 38))
    | (go_at_call 18; refine (dbot (hD3.al _)).mono ?_; rintro e w' ⟨rfl, rfl⟩)
    | (go_at_call 12; refine (dsize (hD3.al _)).mono ?_; rintro e w' ⟨rfl, rfl⟩))
  have hO5 : LS (w3.alloc (.cells #[.bool true, .int .i64 0, .int .i64 v, .int .i64 0] 38)) (bo + 1) (.slice la L.length lc) L := hO3.fr ((Fr.refl (fun _ => False) _).alloc _) (fun _ _ h => h)
  have x2 : (w3.alloc (.cells #[.bool true, .int .i64 0, .int .i64 v, .int .i64 0] 38)).cell? ⟨w3.heap.size, 2, none⟩ = some (.int .i64 v) := (cell_at hX3 2).trans rfl
  have hD5 := hD3.al (.cells #[.bool true, .int .i64 0, .int .i64 v, .int .i64 0] 38)
  have hB5 := hB3.fr ((Fr.refl (fun _ => False) _).alloc (.cells #[.bool true, .int .i64 0, .int .i64 v, .int .i64 0] 38)) (fun h => h)
  have hG5 := hGF.alloc (.cells #[.bool true, .int .i64 0, .int .i64 v, .int .i64 0] 38)
  have hsz : (w3.alloc (.cells #[.bool true, .int .i64 0, .int .i64 v, .int .i64 0] 38)).heap.size = w3.heap.size + 1 := World.size_alloc _ _
  generalize hW : w3.alloc (.cells #[.bool true, .int .i64 0, .int .i64 v, .int .i64 0] 38) = w5 at *
  have hX5 := lt_of_blk hX3
  have hbo5 := lt_of_blk hB5
  obtain ⟨nL, hnL⟩ : ∃ nL, L.length = nL := ⟨_, rfl⟩
  unfold LS at hO5
  rw [hnL] at hO5 hlen ⊢
  have HO5 := hide hO5
  have HNL := hide hnL
  have hone : ∀ u ∈ rowV2 L, u.oneCell' = true := by unfold rowV2; simp [Value.oneCell']
  have HON := hide hone
  clear hW hO3 hO5 hone hD3 hB3 hGF hF3 hD1 hB1 hsz
  clear hnL
  go_region_law (first
    | (refine step_append_os rfl _ _ 29 rfl 2 (.int .i64 0) 1 8 Try.underlying29 Try.infoLong rfl _ (.slice none 0 0) 0 [] rfl (OS.nil _ _ _ _) (.slice la nL lc) nL (rowV2 L) rfl (by first | exact OS.src HO5.out Try.underlying29 HON.out | exact OS.src (OS.al HO5.out (.cells #[.int .i64 v] 2) rfl) Try.underlying29 HON.out) (by unfold maxLen; omega) (by omega) (Nat.le_refl _) ?_; intro vA wA hOA hFA0; have hFA := hFA0.mono (T := fun _ => False) (fun i hi h => absurd h.1 (by omega)); rw [Nat.zero_add, List.nil_append] at hOA; obtain ⟨aA, cA, rfl, _⟩ := hOA.cell; (try have x2A := cell_fr hFA (fun h => h) x2); have HOA := hide hOA)
    | (refine step_append_os rfl _ _ 29 rfl 2 (.int .i64 0) 1 8 Try.underlying29 Try.infoLong rfl _ (.slice aA nL cA) nL (rowV2 L) rfl (by first | exact HOA.out | exact OS.al HOA.out (.cells #[.int .i64 v] 2) rfl) _ 1 [.int .i64 v] rfl (by first | exact Src.ofSlice _ Try.underlying29 _ 1 1 _ rfl (one_at (W := wA) rfl) (by simp [Value.oneCell']) | exact Src.ofSlice _ Try.underlying29 _ 1 1 _ rfl (one_keep (W := w5) hFA rfl) (by simp [Value.oneCell'])) (by unfold maxLen; omega) (by omega) (by have := hFA.size; simp at *; omega) ?_; intro vB wB hOB hFB; obtain ⟨aB, cB, rfl, _⟩ := hOB.cell))
  all_goals
    have hZ : Fr (fun _ => False) w5 wB := by
      first
        | exact ((⟨hFA.os, hFA.tape, hFA.output, hFA.size, hFA.block⟩ : Fr (fun _ => False) w5 wA).alloc (.cells #[.int .i64 v] 2)).trans hFB (fun _ _ h => h) (fun i hi h => absurd h.1 (Nat.not_le.2 hi))
        | exact (((((Fr.refl (fun _ => False) w5).alloc (.cells #[.int .i64 v] 2)).drew).trans hFA (fun _ _ h => h) (fun _ _ h => h)).trans hFB (fun _ _ h => h) (fun i hi h => absurd (Nat.le_trans (show w5.heap.size ≤ (w5.alloc (.cells #[.int .i64 v] 2)).heap.size by rw [World.size_alloc]; omega) h.1) (Nat.not_le.2 hi)))
    have hl : (L ++ [v]).length = nL + 1 := by simp [HNL.out]
    have e : rowV2 (L ++ [v]) = rowV2 L ++ [.int .i64 v] := by simp [rowV2]
    have hLB : LS wB (bo + 1) (.slice aB (nL + 1) cB) (L ++ [v]) := by
      unfold LS
      rw [hl, e]
      first
        | exact OS.lower hOB (show bo + 1 ≤ w5.heap.size by omega)
        | exact OS.lower hOB (Nat.le_trans (show bo + 1 ≤ w5.heap.size by omega) (show w5.heap.size ≤ (w5.alloc (.cells #[.int .i64 v] 2)).heap.size by rw [World.size_alloc]; omega))
    go_wp2
    go_ret2
    exact ⟨_, _, rfl, hD5.fr hZ (fun h => h) (fun h => h), hB5.fr hZ (fun h => h), fun h => absurd h (by omega), hLB, hG5.trans hZ (fun _ _ h => h) (fun _ _ h => h.elim)⟩


end Go.Proofs.Ytingpopcdihclaa
