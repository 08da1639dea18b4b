/-
  What each access of the document's queue does.
-/
import Derived.Test.YtingpopcdihclabMrMem
import Derived.Deep.RegionHeld3
namespace Go.Proofs.Ytingpopcdihclab
open Go.RowKit
set_option linter.unusedVariables false
set_option maxRecDepth 8192

/-- of the blocks that were there none but the document's queue's has turned -/
abbrev FrR4 (b h gv gn : Nat) := Fr (fun k => k = b ∨ k = h ∨ k = gv ∨ k = gn)

def AR (w : World) (lo b h gv gn cv cn : Nat) (R' : Rf) (y : Qn) (e : Ending) (w' : World) : Prop := e = .returned (qnV y) ∧ IsR w' lo b h gv gn cv cn R' ∧ FrR4 b h gv gn w w'

theorem QmAt.al2 {W : World} {n : Nat} (hs : W.heap.size = n) (o : Obj) (y : Qn) : QmAt ((W.alloc o).alloc (.cells #[.bool y.over, .bool y.take, .int .i64 y.v, .int .i64 y.err] 36)) (n + 1) y := by
  subst hs
  have := blk_new (W.alloc o) (.cells #[.bool y.over, .bool y.take, .int .i64 y.v, .int .i64 y.err] 36)
  rw [World.size_alloc] at this
  exact this
theorem QmAt.dr {w : World} {b : Nat} {y : Qn} (h : QmAt w b y) : QmAt w.drew b y := h
theorem IsR.dr {w : World} {lo b h gv gn cv cn : Nat} {R : Rf} (m : IsR w lo b h gv gn cv cn R) : IsR w.drew lo b h gv gn cv cn R := m.same rfl
theorem QmAt.same {w w' : World} {b : Nat} {y : Qn} (h : QmAt w b y) (e : w'.heap = w.heap) : QmAt w' b y := by unfold QmAt at *; rw [e]; exact h

set_option maxHeartbeats 2000000 in
theorem rput1 {w : World} {lo b h gv gn cv cn : Nat} {R : Rf} (m : IsR w lo b h gv gn cv cn R) {k : Nat} (hk : k < 8) {node x : Nat} (prev : Nat) (hn : R.N[node]? = some x) :
    Calls Try.prog 24 #[.pointer (some ⟨b, 0, none⟩), .int .i64 (k : Int), .agg #[.bool true, .int .i64 (((1 : Nat) : Int)), .int .i64 (node : Int), .int .i64 (prev : Int)]] w (AR w lo b h gv gn cv cn ((R.wN node 0).set k ⟨true, 1, node, prev⟩) Qn.none) := by
  have c0 := m.c0
  have c1 := m.c1
  have c2 := m.c2
  have c3 := m.c3
  have c4 := m.c4
  have fb2 := m.fb 2
  have fb3 := m.fb 3
  obtain ⟨t0, t1, t2, t3⟩ := m.ct hk
  have f0 := m.fh (k * 4)
  have f1 := m.fh (k * 4 + 1)
  have f2 := m.fh (k * 4 + 2)
  have f3 := m.fh (k * 4 + 3)
  have hk' : (k : Int) < 8 := by omega
  have hb := m.ltb
  have hh := m.lth
  have hgv := m.rv.lt
  have hgn := m.rn.lt
  have n1 : ¬ b = gn := m.nbn
  have n2 : ¬ h = gn := m.nhn
  have n3 : ¬ gn = h := fun e => m.nhn e.symm
  have n4 : ¬ gn = b := fun e => m.nbn e.symm
  have n5 : ¬ b = h := m.nbh
  have n6 : ¬ h = b := fun e => m.nbh e.symm
  have n7 : ¬ gv = h := fun e => m.nhv e.symm
  have n8 : ¬ gv = b := fun e => m.nbv e.symm
  have n9 : ¬ gv = gn := m.ne
  have n10 : ¬ h = gv := m.nhv
  have n11 : ¬ b = gv := m.nbv
  obtain ⟨oo, ho⟩ : ∃ oo, (R.th k).on = oo := ⟨_, rfl⟩
  rw [ho] at t0
  clear ho
  have hl := (List.getElem?_eq_some_iff.1 hn).1
  have hl' : (node : Int) < (R.N.length : Int) := by omega
  have d0 := m.cn' hn
  have fn := m.rn.free node
  have HE := hide ((m.sN hl 0).sth hk ⟨true, 1, node, prev⟩)
  go_enter Try.func24, Try.ntmps24
  go_wp2
  go_region
  all_goals
    go_wp2
    go_region
  all_goals go_wp2
  all_goals
    refine bodyPost_ret (results_qm rfl _ _ (w.heap.size + 1) (Qn.none) rfl ?_) rfl ⟨rfl, ?_, ?_⟩
    · refine (QmAt.dr (QmAt.dr (QmAt.al2 ?_ _ (Qn.none))))
      simp
    · exact (IsR.dr (IsR.dr (((unhide HE).al _).al _)))
    · exact (Fr.drew (Fr.drew ((((((((Fr.refl (fun k => k = b ∨ k = h ∨ k = gv ∨ k = gn) w).setAt gn node _ (.inr (.inr (.inr (.inr rfl))))).setAt h (k * 4) _ (.inr (.inr (.inl rfl)))).setAt h (k * 4 + 1) _ (.inr (.inr (.inl rfl)))).setAt h (k * 4 + 2) _ (.inr (.inr (.inl rfl)))).setAt h (k * 4 + 3) _ (.inr (.inr (.inl rfl)))).alloc _).alloc _)))

set_option maxHeartbeats 2000000 in
theorem rput2 {w : World} {lo b h gv gn cv cn : Nat} {R : Rf} (m : IsR w lo b h gv gn cv cn R) {k : Nat} (hk : k < 8) (node prev : Nat) :
    Calls Try.prog 24 #[.pointer (some ⟨b, 0, none⟩), .int .i64 (k : Int), .agg #[.bool true, .int .i64 (((2 : Nat) : Int)), .int .i64 (node : Int), .int .i64 (prev : Int)]] w (AR w lo b h gv gn cv cn ((R.whead node).set k ⟨true, 2, node, R.head⟩) Qn.none) := by
  have c0 := m.c0
  have c1 := m.c1
  have c2 := m.c2
  have c3 := m.c3
  have c4 := m.c4
  have fb2 := m.fb 2
  have fb3 := m.fb 3
  obtain ⟨t0, t1, t2, t3⟩ := m.ct hk
  have f0 := m.fh (k * 4)
  have f1 := m.fh (k * 4 + 1)
  have f2 := m.fh (k * 4 + 2)
  have f3 := m.fh (k * 4 + 3)
  have hk' : (k : Int) < 8 := by omega
  have hb := m.ltb
  have hh := m.lth
  have hgv := m.rv.lt
  have hgn := m.rn.lt
  have n1 : ¬ b = gn := m.nbn
  have n2 : ¬ h = gn := m.nhn
  have n3 : ¬ gn = h := fun e => m.nhn e.symm
  have n4 : ¬ gn = b := fun e => m.nbn e.symm
  have n5 : ¬ b = h := m.nbh
  have n6 : ¬ h = b := fun e => m.nbh e.symm
  have n7 : ¬ gv = h := fun e => m.nhv e.symm
  have n8 : ¬ gv = b := fun e => m.nbv e.symm
  have n9 : ¬ gv = gn := m.ne
  have n10 : ¬ h = gv := m.nhv
  have n11 : ¬ b = gv := m.nbv
  obtain ⟨oo, ho⟩ : ∃ oo, (R.th k).on = oo := ⟨_, rfl⟩
  rw [ho] at t0
  clear ho
  have HE := hide ((m.shead node).sth hk ⟨true, 2, node, R.head⟩)
  go_enter Try.func24, Try.ntmps24
  go_wp2
  go_region
  all_goals go_wp2
  all_goals
    refine bodyPost_ret (results_qm rfl _ _ (w.heap.size + 1) (Qn.none) rfl ?_) rfl ⟨rfl, ?_, ?_⟩
    · refine (QmAt.dr (QmAt.al2 ?_ _ (Qn.none)))
      simp
    · exact (IsR.dr (((unhide HE).al _).al _))
    · exact (Fr.drew ((((((((Fr.refl (fun k => k = b ∨ k = h ∨ k = gv ∨ k = gn) w).setAt b 2 _ (.inr (.inl rfl))).setAt h (k * 4) _ (.inr (.inr (.inl rfl)))).setAt h (k * 4 + 1) _ (.inr (.inr (.inl rfl)))).setAt h (k * 4 + 2) _ (.inr (.inr (.inl rfl)))).setAt h (k * 4 + 3) _ (.inr (.inr (.inl rfl)))).alloc _).alloc _))

set_option maxHeartbeats 2000000 in
theorem rput3 {w : World} {lo b h gv gn cv cn : Nat} {R : Rf} (m : IsR w lo b h gv gn cv cn R) {k : Nat} (hk : k < 8) {node prev x : Nat} {v : Int} (hn : R.N[prev]? = some x) (hv : R.V[node]? = some v) :
    Calls Try.prog 24 #[.pointer (some ⟨b, 0, none⟩), .int .i64 (k : Int), .agg #[.bool true, .int .i64 (((3 : Nat) : Int)), .int .i64 (node : Int), .int .i64 (prev : Int)]] w (AR w lo b h gv gn cv cn ((R.wN prev node).set k Rt.zero) ⟨true, false, v, 0⟩) := by
  have c0 := m.c0
  have c1 := m.c1
  have c2 := m.c2
  have c3 := m.c3
  have c4 := m.c4
  have fb2 := m.fb 2
  have fb3 := m.fb 3
  obtain ⟨t0, t1, t2, t3⟩ := m.ct hk
  have f0 := m.fh (k * 4)
  have f1 := m.fh (k * 4 + 1)
  have f2 := m.fh (k * 4 + 2)
  have f3 := m.fh (k * 4 + 3)
  have hk' : (k : Int) < 8 := by omega
  have hb := m.ltb
  have hh := m.lth
  have hgv := m.rv.lt
  have hgn := m.rn.lt
  have n1 : ¬ b = gn := m.nbn
  have n2 : ¬ h = gn := m.nhn
  have n3 : ¬ gn = h := fun e => m.nhn e.symm
  have n4 : ¬ gn = b := fun e => m.nbn e.symm
  have n5 : ¬ b = h := m.nbh
  have n6 : ¬ h = b := fun e => m.nbh e.symm
  have n7 : ¬ gv = h := fun e => m.nhv e.symm
  have n8 : ¬ gv = b := fun e => m.nbv e.symm
  have n9 : ¬ gv = gn := m.ne
  have n10 : ¬ h = gv := m.nhv
  have n11 : ¬ b = gv := m.nbv
  obtain ⟨oo, ho⟩ : ∃ oo, (R.th k).on = oo := ⟨_, rfl⟩
  rw [ho] at t0
  clear ho
  have hl := (List.getElem?_eq_some_iff.1 hn).1
  have hl' : (prev : Int) < (R.N.length : Int) := by omega
  have d0 := m.cn' hn
  have fn := m.rn.free prev
  have d1 := m.cv' hv
  have hv1 := (List.getElem?_eq_some_iff.1 hv).1
  have hv2 : (node : Int) < (R.V.length : Int) := by omega
  have HE := hide ((m.sN hl node).sth hk Rt.zero)
  go_enter Try.func24, Try.ntmps24
  go_wp2
  go_region
  all_goals
    go_wp2
    go_region
  all_goals go_wp2
  all_goals
    refine bodyPost_ret (results_qm rfl _ _ (w.heap.size + 1) (⟨true, false, v, 0⟩) rfl ?_) rfl ⟨rfl, ?_, ?_⟩
    · refine (QmAt.dr (QmAt.dr (QmAt.al2 ?_ _ (⟨true, false, v, 0⟩))))
      simp
    · exact (IsR.dr (IsR.dr (((unhide HE).al _).al _)))
    · exact (Fr.drew (Fr.drew ((((((((Fr.refl (fun k => k = b ∨ k = h ∨ k = gv ∨ k = gn) w).setAt gn prev _ (.inr (.inr (.inr (.inr rfl))))).setAt h (k * 4) _ (.inr (.inr (.inl rfl)))).setAt h (k * 4 + 1) _ (.inr (.inr (.inl rfl)))).setAt h (k * 4 + 2) _ (.inr (.inr (.inl rfl)))).setAt h (k * 4 + 3) _ (.inr (.inr (.inl rfl)))).alloc _).alloc _)))

set_option maxHeartbeats 2000000 in
theorem rtake1 {w : World} {lo b h gv gn cv cn : Nat} {R : Rf} (m : IsR w lo b h gv gn cv cn R) {node x : Nat} (prev : Nat) (hn : R.N[R.tail]? = some x) :
    Calls Try.prog 25 #[.pointer (some ⟨b, 0, none⟩), .agg #[.bool true, .int .i64 (((1 : Nat) : Int)), .int .i64 (node : Int), .int .i64 (prev : Int)]] w (AR w lo b h gv gn cv cn (R.set 0 ⟨true, 1, x, prev⟩) Qn.none) := by
  have hk : 0 < 8 := by omega
  have c0 := m.c0
  have c1 := m.c1
  have c2 := m.c2
  have c3 := m.c3
  have c4 := m.c4
  have fb2 := m.fb 2
  have fb3 := m.fb 3
  obtain ⟨t0, t1, t2, t3⟩ := m.ct (k := 0) hk
  have f0 := m.fh 0
  have f1 := m.fh 1
  have f2 := m.fh 2
  have f3 := m.fh 3
  have hb := m.ltb
  have hh := m.lth
  have hgv := m.rv.lt
  have hgn := m.rn.lt
  have n1 : ¬ b = gn := m.nbn
  have n2 : ¬ h = gn := m.nhn
  have n3 : ¬ gn = h := fun e => m.nhn e.symm
  have n4 : ¬ gn = b := fun e => m.nbn e.symm
  have n5 : ¬ b = h := m.nbh
  have n6 : ¬ h = b := fun e => m.nbh e.symm
  have n7 : ¬ gv = h := fun e => m.nhv e.symm
  have n8 : ¬ gv = b := fun e => m.nbv e.symm
  have n9 : ¬ gv = gn := m.ne
  have n10 : ¬ h = gv := m.nhv
  have n11 : ¬ b = gv := m.nbv
  obtain ⟨oo, ho⟩ : ∃ oo, (R.th 0).on = oo := ⟨_, rfl⟩
  rw [ho] at t0
  clear ho
  have hl := (List.getElem?_eq_some_iff.1 hn).1
  have hl' : (R.tail : Int) < (R.N.length : Int) := by omega
  have d0 := m.cn' hn
  have fn := m.rn.free R.tail
  have HE := hide (m.sth (k := 0) hk ⟨true, 1, x, prev⟩)
  go_enter Try.func25, Try.ntmps25
  go_wp2
  go_region
  all_goals
    go_wp2
    go_region
  all_goals go_wp2
  all_goals
    refine bodyPost_ret (results_qm rfl _ _ (w.heap.size + 1) (Qn.none) rfl ?_) rfl ⟨rfl, ?_, ?_⟩
    · refine (QmAt.dr (QmAt.dr (QmAt.al2 ?_ _ (Qn.none))))
      simp
    · exact (IsR.dr (IsR.dr (((unhide HE).al _).al _)))
    · exact (Fr.drew (Fr.drew (((((((Fr.refl (fun k => k = b ∨ k = h ∨ k = gv ∨ k = gn) w).setAt h 0 _ (.inr (.inr (.inl rfl)))).setAt h 1 _ (.inr (.inr (.inl rfl)))).setAt h 2 _ (.inr (.inr (.inl rfl)))).setAt h 3 _ (.inr (.inr (.inl rfl)))).alloc _).alloc _)))

set_option maxHeartbeats 2000000 in
theorem rtake2 {w : World} {lo b h gv gn cv cn : Nat} {R : Rf} (m : IsR w lo b h gv gn cv cn R) {node : Nat} (prev : Nat) {v : Int} (hp : 0 < node) (hv : R.V[node]? = some v) :
    Calls Try.prog 25 #[.pointer (some ⟨b, 0, none⟩), .agg #[.bool true, .int .i64 (((2 : Nat) : Int)), .int .i64 (node : Int), .int .i64 (prev : Int)]] w (AR w lo b h gv gn cv cn ((R.set 0 Rt.zero).wtail node) ⟨true, true, v, 0⟩) := by
  have hk : 0 < 8 := by omega
  have c0 := m.c0
  have c1 := m.c1
  have c2 := m.c2
  have c3 := m.c3
  have c4 := m.c4
  have fb2 := m.fb 2
  have fb3 := m.fb 3
  obtain ⟨t0, t1, t2, t3⟩ := m.ct (k := 0) hk
  have f0 := m.fh 0
  have f1 := m.fh 1
  have f2 := m.fh 2
  have f3 := m.fh 3
  have hb := m.ltb
  have hh := m.lth
  have hgv := m.rv.lt
  have hgn := m.rn.lt
  have n1 : ¬ b = gn := m.nbn
  have n2 : ¬ h = gn := m.nhn
  have n3 : ¬ gn = h := fun e => m.nhn e.symm
  have n4 : ¬ gn = b := fun e => m.nbn e.symm
  have n5 : ¬ b = h := m.nbh
  have n6 : ¬ h = b := fun e => m.nbh e.symm
  have n7 : ¬ gv = h := fun e => m.nhv e.symm
  have n8 : ¬ gv = b := fun e => m.nbv e.symm
  have n9 : ¬ gv = gn := m.ne
  have n10 : ¬ h = gv := m.nhv
  have n11 : ¬ b = gv := m.nbv
  obtain ⟨oo, ho⟩ : ∃ oo, (R.th 0).on = oo := ⟨_, rfl⟩
  rw [ho] at t0
  clear ho
  have d1 := m.cv' hv
  have hv1 := (List.getElem?_eq_some_iff.1 hv).1
  have hv2 : (node : Int) < (R.V.length : Int) := by omega
  have hp' : (0 : Int) < (node : Int) := by omega
  have HE := hide ((m.sth (k := 0) hk Rt.zero).stail node)
  go_enter Try.func25, Try.ntmps25
  go_wp2
  go_region
  all_goals go_wp2
  all_goals
    refine bodyPost_ret (results_qm rfl _ _ (w.heap.size + 1) (⟨true, true, v, 0⟩) rfl ?_) rfl ⟨rfl, ?_, ?_⟩
    · refine (QmAt.dr (QmAt.al2 ?_ _ (⟨true, true, v, 0⟩)))
      simp
    · exact (IsR.dr (((unhide HE).al _).al _))
    · exact (Fr.drew ((((((((Fr.refl (fun k => k = b ∨ k = h ∨ k = gv ∨ k = gn) w).setAt h 0 _ (.inr (.inr (.inl rfl)))).setAt h 1 _ (.inr (.inr (.inl rfl)))).setAt h 2 _ (.inr (.inr (.inl rfl)))).setAt h 3 _ (.inr (.inr (.inl rfl)))).setAt b 3 _ (.inr (.inl rfl))).alloc _).alloc _))

set_option maxHeartbeats 2000000 in
theorem rtake3 {w : World} {lo b h gv gn cv cn : Nat} {R : Rf} (m : IsR w lo b h gv gn cv cn R) (prev : Nat) (hc : R.head = R.tail) :
    Calls Try.prog 25 #[.pointer (some ⟨b, 0, none⟩), .agg #[.bool true, .int .i64 (((2 : Nat) : Int)), .int .i64 ((0 : Nat) : Int), .int .i64 (prev : Int)]] w (AR w lo b h gv gn cv cn (R.set 0 Rt.zero) ⟨true, true, 0, 8⟩) := by
  have hk : 0 < 8 := by omega
  have c0 := m.c0
  have c1 := m.c1
  have c2 := m.c2
  have c3 := m.c3
  have c4 := m.c4
  have fb2 := m.fb 2
  have fb3 := m.fb 3
  obtain ⟨t0, t1, t2, t3⟩ := m.ct (k := 0) hk
  have f0 := m.fh 0
  have f1 := m.fh 1
  have f2 := m.fh 2
  have f3 := m.fh 3
  have hb := m.ltb
  have hh := m.lth
  have hgv := m.rv.lt
  have hgn := m.rn.lt
  have n1 : ¬ b = gn := m.nbn
  have n2 : ¬ h = gn := m.nhn
  have n3 : ¬ gn = h := fun e => m.nhn e.symm
  have n4 : ¬ gn = b := fun e => m.nbn e.symm
  have n5 : ¬ b = h := m.nbh
  have n6 : ¬ h = b := fun e => m.nbh e.symm
  have n7 : ¬ gv = h := fun e => m.nhv e.symm
  have n8 : ¬ gv = b := fun e => m.nbv e.symm
  have n9 : ¬ gv = gn := m.ne
  have n10 : ¬ h = gv := m.nhv
  have n11 : ¬ b = gv := m.nbv
  obtain ⟨oo, ho⟩ : ∃ oo, (R.th 0).on = oo := ⟨_, rfl⟩
  rw [ho] at t0
  clear ho
  rw [hc] at c2
  have HE := hide (m.sth (k := 0) hk Rt.zero)
  go_enter Try.func25, Try.ntmps25
  go_wp2
  go_region
  all_goals go_wp2
  all_goals
    refine bodyPost_ret (results_qm rfl _ _ (w.heap.size + 1) (⟨true, true, 0, 8⟩) rfl ?_) rfl ⟨rfl, ?_, ?_⟩
    · refine (QmAt.dr (QmAt.al2 ?_ _ (⟨true, true, 0, 8⟩)))
      simp
    · exact (IsR.dr (((unhide HE).al _).al _))
    · exact (Fr.drew (((((((Fr.refl (fun k => k = b ∨ k = h ∨ k = gv ∨ k = gn) w).setAt h 0 _ (.inr (.inr (.inl rfl)))).setAt h 1 _ (.inr (.inr (.inl rfl)))).setAt h 2 _ (.inr (.inr (.inl rfl)))).setAt h 3 _ (.inr (.inr (.inl rfl)))).alloc _).alloc _))

set_option maxHeartbeats 2000000 in
theorem rtake4 {w : World} {lo b h gv gn cv cn : Nat} {R : Rf} (m : IsR w lo b h gv gn cv cn R) (prev : Nat) (hc : R.head ≠ R.tail) :
    Calls Try.prog 25 #[.pointer (some ⟨b, 0, none⟩), .agg #[.bool true, .int .i64 (((2 : Nat) : Int)), .int .i64 ((0 : Nat) : Int), .int .i64 (prev : Int)]] w (AR w lo b h gv gn cv cn (R.set 0 Rt.zero) ⟨true, true, 0, 14⟩) := by
  have hk : 0 < 8 := by omega
  have c0 := m.c0
  have c1 := m.c1
  have c2 := m.c2
  have c3 := m.c3
  have c4 := m.c4
  have fb2 := m.fb 2
  have fb3 := m.fb 3
  obtain ⟨t0, t1, t2, t3⟩ := m.ct (k := 0) hk
  have f0 := m.fh 0
  have f1 := m.fh 1
  have f2 := m.fh 2
  have f3 := m.fh 3
  have hb := m.ltb
  have hh := m.lth
  have hgv := m.rv.lt
  have hgn := m.rn.lt
  have n1 : ¬ b = gn := m.nbn
  have n2 : ¬ h = gn := m.nhn
  have n3 : ¬ gn = h := fun e => m.nhn e.symm
  have n4 : ¬ gn = b := fun e => m.nbn e.symm
  have n5 : ¬ b = h := m.nbh
  have n6 : ¬ h = b := fun e => m.nbh e.symm
  have n7 : ¬ gv = h := fun e => m.nhv e.symm
  have n8 : ¬ gv = b := fun e => m.nbv e.symm
  have n9 : ¬ gv = gn := m.ne
  have n10 : ¬ h = gv := m.nhv
  have n11 : ¬ b = gv := m.nbv
  obtain ⟨oo, ho⟩ : ∃ oo, (R.th 0).on = oo := ⟨_, rfl⟩
  rw [ho] at t0
  clear ho
  have hc' : ((R.head : Int) == (R.tail : Int)) = false := by simp; omega
  have HE := hide (m.sth (k := 0) hk Rt.zero)
  go_enter Try.func25, Try.ntmps25
  go_wp2
  go_region
  all_goals go_wp2
  all_goals
    refine bodyPost_ret (results_qm rfl _ _ (w.heap.size + 1) (⟨true, true, 0, 14⟩) rfl ?_) rfl ⟨rfl, ?_, ?_⟩
    · refine (QmAt.dr (QmAt.al2 ?_ _ (⟨true, true, 0, 14⟩)))
      simp
    · exact (IsR.dr (((unhide HE).al _).al _))
    · exact (Fr.drew (((((((Fr.refl (fun k => k = b ∨ k = h ∨ k = gv ∨ k = gn) w).setAt h 0 _ (.inr (.inr (.inl rfl)))).setAt h 1 _ (.inr (.inr (.inl rfl)))).setAt h 2 _ (.inr (.inr (.inl rfl)))).setAt h 3 _ (.inr (.inr (.inl rfl)))).alloc _).alloc _))

end Go.Proofs.Ytingpopcdihclab
