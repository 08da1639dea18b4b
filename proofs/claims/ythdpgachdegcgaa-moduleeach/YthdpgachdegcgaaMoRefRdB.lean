/-
  The document's reader of a module's parts: readTables.
-/
import Derived.Test.YthdpgachdegcgaaMoRefRdC
import Derived.Deep.RegionLaw
namespace Go.Proofs.Ythdpgachdegcgaa
open Go.RowKit
set_option linter.unusedVariables false
set_option maxRecDepth 100000

/-- the places of a list that is appended to: each has blocks of its own, from lo on, none of them the list's -/
def Nest {α : Type} (PV : Nat → Nat → World → List Value → α → Prop) (sz lo : Nat) (v : Value) (w : World) (cells : List Value) (l : List α) : Prop :=
  ∀ (i : Nat) x, l[i]? = some x → ∃ (vs : List Value) (lo' hi' : Nat), (∀ (j : Nat) u, vs[j]? = some u → cells[i * sz + j]? = some u) ∧ lo ≤ lo' ∧ hi' ≤ w.heap.size ∧ (∀ g, v.ownBlock = some g → g < lo' ∨ hi' ≤ g) ∧ PV lo' hi' w vs x

section
variable {α : Type} {PV : Nat → Nat → World → List Value → α → Prop} {sz lo : Nat} {v v' : Value} {w w' : World} {cells : List Value} {l : List α}

theorem Nest.nil : Nest PV sz lo v w cells [] := fun i x h => by simp at h

theorem Nest.fr (N : Nice PV) (h : Nest PV sz lo v w cells l) {S : Nat → Prop} (hf : Fr S w w') (hS : ∀ k, S k → k < lo ∨ w.heap.size ≤ k) : Nest PV sz lo v w' cells l := by
  intro i x hx
  obtain ⟨vs, lo', hi', h1, h2, h3, h4, h5⟩ := h i x hx
  exact ⟨vs, lo', hi', h1, h2, Nat.le_trans h3 hf.size, h4, N.fr h5 hf (fun k hk => by have := hS k hk; omega)⟩

theorem frGrown {row : Option Nat} (hg : w.grownBy w' row) : Fr (fun k => some k = row) w w' := ⟨hg.os, hg.tape, hg.output, hg.size, fun k hk hn => hg.block k hk hn⟩

theorem Nest.snoc (N : Nice PV) (h : Nest PV sz lo v w cells l) (hc : cells.length = l.length * sz) (hg : w.grownBy w' v.ownBlock) (ha : v'.ownBlock = v.ownBlock ∨ v'.ownBlock = some w.heap.size)
    {vs : List Value} {x : α} {lo' hi' : Nat} (hs : vs.length = sz) (h1 : lo ≤ lo') (h2 : hi' ≤ w.heap.size) (h3 : ∀ g, v.ownBlock = some g → g < lo' ∨ hi' ≤ g) (h4 : PV lo' hi' w vs x) :
    Nest PV sz lo v' w' (cells ++ vs) (l ++ [x]) := by
  have sep : ∀ {lo' hi' : Nat}, hi' ≤ w.heap.size → (∀ g, v.ownBlock = some g → g < lo' ∨ hi' ≤ g) → (∀ g, v'.ownBlock = some g → g < lo' ∨ hi' ≤ g) := by
    intro lo' hi' hh h g hg'
    rcases ha with e | e
    · rw [e] at hg'; exact h g hg'
    · rw [e] at hg'; cases hg'; omega
  intro i y hy
  by_cases hi : i < l.length
  · rw [List.getElem?_append_left hi] at hy
    obtain ⟨us, lo2, hi2, g1, g2, g3, g4, g5⟩ := h i y hy
    refine ⟨us, lo2, hi2, fun j u hu => ?_, g2, Nat.le_trans g3 hg.size, sep g3 g4, N.fr g5 (frGrown hg) (fun k hk => g4 k hk.symm)⟩
    have := g1 j u hu
    rw [List.getElem?_append_left (List.getElem?_eq_some_iff.1 this).1]; exact this
  · have e : i = l.length := by
      have := (List.getElem?_eq_some_iff.1 hy).1
      simp at this; omega
    subst e
    simp at hy
    subst hy
    refine ⟨vs, lo', hi', fun j u hu => ?_, h1, Nat.le_trans h2 hg.size, sep h2 h3, N.fr h4 (frGrown hg) (fun k hk => h3 k hk.symm)⟩
    rw [← hc, List.getElem?_append_right (by omega)]
    simpa using hu

theorem Nest.arr (N : Nice PV) (h : Nest PV sz lo v w cells l) {e : TypeId} {n : Nat} (ho : w.ownsRow 0 e sz v n cells) (hl : l.length = n) (hlo : ∀ k, v.ownBlock = some k → lo ≤ k) (hs : n ≤ 9223372036854775807) :
    ∃ a c, v = .slice a n c ∧ Arr (PV lo w.heap.size) sz lo w.heap.size w a n l :=
  owns_arr (PV := PV lo w.heap.size) ho hl (fun i x hx => by
    obtain ⟨vs, lo', hi', h1, h2, h3, h4, h5⟩ := h i x hx
    exact ⟨vs, h1, N.wide h5 h2 h3⟩) hlo hs
end

/-- append as one step of a region that draws -/
theorem step_append_info {P : Program} {ops : Array Oper} {o : Oper} {a : Act} {w : World} {K : Act → World → Prop} {Q : Exit → Act → World → Prop} {E : Prop}
    (hg : o.guard = none) (s x : Operand) (t : TypeId) (ho : o.op = .call { callee := .builtin .append, args := #[s, x], argTypes := #[t, t] })
    (e : TypeId) (z : Value) (size bytes : Nat) (ht : P.underlying t = some (.slice e)) (hin : (P.info? e).map (fun i => (i.zero, i.size, i.bytes)) = some (some z, size, bytes)) (hzs : z.cells.size = size) (hsz : 0 < size)
    (v : Value) (n : Nat) (xs : List Value) (hs : a.eval s = v) (hown : w.ownsRow 0 e size v n xs)
    (ad : Addr) (m c : Nat) (news : List Value) (hx : a.eval x = .slice (some ad) m c) (hl : news.length = m * size) (hnews : ∀ j u, news[j]? = some u → w.cell? (ad.add j) = some u) (h1 : ∀ u ∈ news, u.oneCell' = true)
    (h63 : n + m ≤ maxLen) (hbytes : (n + m) * bytes ≤ 140737488355328)
    (h : ∀ v' w', w'.ownsRow 0 e size v' (n + m) (xs ++ news) → w.grownBy w' v.ownBlock → (v'.ownBlock = v.ownBlock ∨ v'.ownBlock = some w.heap.size) → K (a.put o.dst v') w') :
    if Region.wanted o (yielded ops a.tmps) = true then Oper.wp P o a w K Q else E := by
  have hw : Region.wanted o (yielded ops a.tmps) = true := by simp [Region.wanted, hg]
  rw [if_pos hw]
  obtain ⟨i0, hi, hz0, hz1, hz2⟩ := info_parts hin
  exact wp_append_foot w s x t ho e i0 z size bytes ht hi hz0 hz1 hz2 hzs hsz v n xs hs hown ad m c news hx hl hnews h1 h63 hbytes h

theorem xR_step {α : Type} (f : XS → α × XS) (k : Nat) (s : XS) : xR f (k + 1) s = ((f s).1 :: (xR f k (f s).2).1, (xR f k (f s).2).2) := rfl

theorem two_one {x y : Value} (hx : x.oneCell' = true) (hy : y.oneCell' = true) : ∀ (u : Value), u ∈ [x, y] → u.oneCell' = true := by
  intro u h
  simp only [List.mem_cons, List.not_mem_nil, or_false] at h
  rcases h with rfl | rfl <;> assumption

theorem xtime_calls {w : World} {b : Nat} {s : XS} (h : XM w b s) :
    Calls Try.prog 39 #[.pointer (some ⟨b, 0, none⟩)] w fun e w' => e = .returned (.int .i64 (sgn (rnum s.1 s.2).1)) ∧ XM w' b (rnum s.1 s.2).2 ∧ Fr (fun k => k = b) w w' := by
  have hl := h.len
  refine (mint_calls h.rd (by omega)).mono ?_
  rintro e w' ⟨rfl, hR, hF⟩
  exact ⟨rfl, ⟨hR, suf_len (rnum_suf s.1 s.2) hl⟩, hF⟩

theorem slice_of {w : World} {e : TypeId} {size : Nat} {v : Value} {n : Nat} {xs : List Value} (h : w.ownsRow 0 e size v n xs) : ∃ a c, v = .slice a n c := by
  rcases h.2 with ⟨rfl, h0⟩ | ⟨g, cap, cur, rfl, _⟩
  · exact ⟨none, 0, by rw [h0]⟩
  · exact ⟨_, _, rfl⟩

theorem owns_lt {w : World} {e : TypeId} {size : Nat} {v : Value} {n : Nat} {xs : List Value} (h : w.ownsRow 0 e size v n xs) : ∀ g, v.ownBlock = some g → g < w.heap.size := by
  intro g hg
  rcases h.2 with ⟨rfl, h0⟩ | ⟨g', cap, cur, rfl, _, hb, _⟩
  · simp [Value.ownBlock] at hg
  · simp [Value.ownBlock] at hg; subst hg; exact lt_of_blk hb

/-- what stands where a table is appended -/
theorem tab_parts {w wo w6 : World} {b : Nat} {v : Value} {pre : List (List (Int × Int) × Int)} {cells : List Value} {a2 : Option Addr} {c2 : Nat} {pre2 : List (Int × Int)} {s6 : XS} {x : Int} {T C : TypeId}
    (hF : Fr (fun k => k = b) w wo) (hbl : b < w.heap.size) (hO : wo.ownsRow 0 T 2 v pre.length cells) (hL : ∀ g, v.ownBlock = some g → w.heap.size ≤ g) (hN : Nest TbV 2 w.heap.size v wo cells pre)
    (hF6 : Fr (fun k => k = b) wo w6) (hT : w6.heap[wo.heap.size]? = some (.cells #[.slice a2 pre2.length c2, .int .i64 0] T (0, 0))) (hO2 : w6.ownsRow 0 C 2 (.slice a2 pre2.length c2) pre2.length (pairV pre2))
    (hL2 : ∀ g, (Value.slice a2 pre2.length c2).ownBlock = some g → wo.heap.size < g) (hI2 : ∀ p ∈ pre2, (-9223372036854775808 ≤ p.1 ∧ p.1 ≤ 9223372036854775807) ∧ (-9223372036854775808 ≤ p.2 ∧ p.2 ≤ 9223372036854775807))
    (hM : XM w6 b s6) (hx : -9223372036854775808 ≤ x ∧ x ≤ 9223372036854775807) (hlen : pre2.length ≤ 1000) {W : World} (hW : W = (w6.setCell ⟨wo.heap.size, 1, none⟩ (.int .i64 x)).alloc (.cells #[.slice a2 pre2.length c2, .int .i64 x] T)) :
    W.ownsRow 0 T 2 v pre.length cells ∧ Nest TbV 2 w.heap.size v W cells pre ∧ XM W b s6 ∧ TbV wo.heap.size W.heap.size W [.slice a2 pre2.length c2, .int .i64 x] (pre2, x) ∧ Fr (fun k => k = b) w W ∧ wo.heap.size ≤ W.heap.size := by
  have hwo := hF.size
  have f7 : Fr (fun k => k = wo.heap.size) w6 W := by rw [hW]; exact ((Fr.refl (fun k => k = wo.heap.size) w6).setAt _ _ _ (.inr rfl)).alloc _
  have f8 : Fr (fun k => k = b) wo W := hF6.trans f7 (fun _ _ h => h) (fun i hi e => by omega)
  have hz := f8.size
  refine ⟨owns_fr hO f8 (fun g hg e => by have := hL g hg; omega), hN.fr niceTb f8 (fun k hk => .inl (by omega)), hM.fr f7 (by omega), ?_, hF.trans f8 (fun _ _ h => h) (fun _ _ h => h), hz⟩
  have ho := owns_fr hO2 f7 (fun g hg e => by have := hL2 g hg; omega)
  obtain ⟨a', c', e, hA⟩ := owns_arr (PV := PrV) (lo := wo.heap.size) (l := pre2) ho rfl (fun i y hy => ⟨[.int .i64 y.1, .int .i64 y.2], pairV_at pre2 i y hy, rfl, hI2 y (List.mem_of_getElem? hy)⟩) (fun k hk => by have := hL2 k hk; omega) (by omega)
  simp only [Value.slice.injEq] at e
  obtain ⟨rfl, _, rfl⟩ := e
  exact ⟨_, _, _, rfl, hA, hx⟩

theorem tab_end {w wo W w' : World} {b : Nat} {v v' : Value} {pre : List (List (Int × Int) × Int)} {cells vs : List Value} {s6 : XS} {x : List (Int × Int) × Int} {T : TypeId} {j N : Nat} {s1 : XS}
    (PP : W.ownsRow 0 T 2 v pre.length cells ∧ Nest TbV 2 w.heap.size v W cells pre ∧ XM W b s6 ∧ TbV wo.heap.size W.heap.size W vs x ∧ Fr (fun k => k = b) w W ∧ wo.heap.size ≤ W.heap.size) (hvs : vs.length = 2)
    (hc : cells.length = pre.length * 2) (hL : ∀ g, v.ownBlock = some g → w.heap.size ≤ g) (hlt : ∀ g, v.ownBlock = some g → g < wo.heap.size) (hwo : w.heap.size ≤ wo.heap.size)
    (ho : w'.ownsRow 0 T 2 v' (pre.length + 1) (cells ++ vs)) (hgr : W.grownBy w' v.ownBlock) (ha : v'.ownBlock = v.ownBlock ∨ v'.ownBlock = some W.heap.size)
    (e1 : pre ++ x :: (xW xTable j s6).1 = (xW xTable N s1).1) (e2 : (xW xTable j s6).2 = (xW xTable N s1).2) (hbl : b < w.heap.size) :
    w'.ownsRow 0 T 2 v' (pre ++ [x]).length (cells ++ vs) ∧ (∀ g, v'.ownBlock = some g → w.heap.size ≤ g) ∧ Nest TbV 2 w.heap.size v' w' (cells ++ vs) (pre ++ [x]) ∧ XM w' b s6 ∧
      (pre ++ [x]) ++ (xW xTable j s6).1 = (xW xTable N s1).1 ∧ (xW xTable j s6).2 = (xW xTable N s1).2 ∧ Fr (fun k => k = b) w w' := by
  obtain ⟨p1, p2, p3, p4, p5, p6⟩ := PP
  refine ⟨by simpa using ho, fun g hg => ?_, p2.snoc niceTb hc hgr ha hvs hwo (Nat.le_refl _) (fun g hg => .inl (hlt g hg)) p4, ?_, by simpa using e1, e2, p5.grown hgr (fun k hk => .inl (hL k hk))⟩
  · rcases ha with e | e
    · rw [e] at hg; exact hL g hg
    · rw [e] at hg; cases hg; omega
  · refine p3.fr (frGrown hgr) ?_
    intro e; have := hL b e.symm; omega

theorem cl_end {wo w5 w6 w' : World} {b : Nat} {v v' : Value} {pre2 : List (Int × Int)} {s4 : XS} {T C : TypeId} {o : Obj} {tag to : Nat} {j K : Nat} {s2 : XS}
    (F5 : Fr (fun k => k = b) wo w5) (hF6 : Fr (fun k => k = b) w5.drew w6) (hbl : b < wo.heap.size) (hM : XM w6 b s4) (hL : ∀ g, v.ownBlock = some g → wo.heap.size < g) (h5 : wo.heap.size < w5.heap.size)
    (hI : ∀ p ∈ pre2, (-9223372036854775808 ≤ p.1 ∧ p.1 ≤ 9223372036854775807) ∧ (-9223372036854775808 ≤ p.2 ∧ p.2 ≤ 9223372036854775807)) (ht : tag ≤ 8) (ht2 : to ≤ 200)
    (ho : w'.ownsRow 0 C 2 v' (pre2.length + 1) (pairV pre2 ++ [.int .i64 tag, .int .i64 to])) (hgr : (w6.alloc o).grownBy w' v.ownBlock) (ha : v'.ownBlock = v.ownBlock ∨ v'.ownBlock = some (w6.alloc o).heap.size)
    (hT : w'.heap[wo.heap.size]? = some (.cells #[v, .int .i64 0] T (0, 0)))
    (f1 : pre2 ++ ((tag : Int), (to : Int)) :: (xR xClause j s4).1 = (xR xClause K s2).1) (f2 : (xR xClause j s4).2 = (xR xClause K s2).2) :
    (w'.setCell ⟨wo.heap.size, 0, none⟩ v').heap[wo.heap.size]? = some (.cells #[v', .int .i64 0] T (0, 0)) ∧ (w'.setCell ⟨wo.heap.size, 0, none⟩ v').ownsRow 0 C 2 v' (pre2 ++ [((tag : Int), (to : Int))]).length (pairV (pre2 ++ [((tag : Int), (to : Int))])) ∧
      (∀ g, v'.ownBlock = some g → wo.heap.size < g) ∧ (∀ p ∈ pre2 ++ [((tag : Int), (to : Int))], (-9223372036854775808 ≤ p.1 ∧ p.1 ≤ 9223372036854775807) ∧ (-9223372036854775808 ≤ p.2 ∧ p.2 ≤ 9223372036854775807)) ∧ XM (w'.setCell ⟨wo.heap.size, 0, none⟩ v') b s4 ∧
      (pre2 ++ [((tag : Int), (to : Int))]) ++ (xR xClause j s4).1 = (xR xClause K s2).1 ∧ (xR xClause j s4).2 = (xR xClause K s2).2 ∧ Fr (fun k => k = b) wo (w'.setCell ⟨wo.heap.size, 0, none⟩ v') := by
  have fs : Fr (fun k => k = wo.heap.size) w' (w'.setCell ⟨wo.heap.size, 0, none⟩ v') := (Fr.refl (fun k => k = wo.heap.size) w').setAt _ _ _ (.inr rfl)
  have h6 : w5.heap.size ≤ w6.heap.size := hF6.size
  have hza : (w6.alloc o).heap.size = w6.heap.size + 1 := by simp
  have hL' : ∀ g, v'.ownBlock = some g → wo.heap.size < g := by
    intro g hg
    rcases ha with e | e
    · rw [e] at hg; exact hL g hg
    · rw [e] at hg; cases hg; omega
  refine ⟨by rw [blk_setCell hT]; rfl, ?_, hL', ?_, ?_, by simpa using f1, f2, ?_⟩
  · have e : pairV (pre2 ++ [((tag : Int), (to : Int))]) = pairV pre2 ++ [.int .i64 tag, .int .i64 to] := by simp [pairV, List.flatMap_append]
    rw [e, List.length_append]
    exact owns_fr ho fs (fun g hg e => by have := hL' g hg; omega)
  · intro y hy
    simp only [List.mem_append, List.mem_singleton] at hy
    rcases hy with hy | rfl
    · exact hI y hy
    · dsimp only; omega
  · refine ((hM.fr ((Fr.refl (fun _ => False) w6).alloc o) (fun h => h)).fr (frGrown hgr) ?_).fr fs (by omega)
    intro e; have := hL b e.symm; omega
  · have q1 : Fr (fun k => k = b) wo (w6.alloc o) := ((F5.drew).trans hF6 (fun _ _ h => h) (fun _ _ h => h)).alloc o
    exact (q1.grown hgr (fun k hk => .inl (by have := hL k hk; omega))).trans fs (fun _ _ h => h) (fun i hi e => by omega)

set_option maxHeartbeats 8000000 in
theorem xtables_calls {w : World} {b : Nat} {s : XS} (h : XM w b s) :
    Calls Try.prog 20 #[.pointer (some ⟨b, 0, none⟩)] w fun e w' => ∃ a n c, e = .returned (.slice a n c) ∧ TbA w.heap.size w'.heap.size w' a n (xTables s).1 ∧ XM w' b (xTables s).2 ∧ Fr (fun k => k = b) w w' := by
  have hle := xUp_le 8 s
  have hup := xcount_calls h 8 (by omega)
  have hbl := h.lt
  unfold xTables
  generalize xUp 8 s = p at *
  obtain ⟨N, s1⟩ := p
  dsimp only at *
  have HU := hide hup
  clear hup h
  go_enter Try.func20, Try.ntmps20
  go_wp2_with (go_at_call 17; refine (unhide HU).mono ?_; rintro e w2 ⟨rfl, hM2, hF2⟩; have HM2 := hide hM2; clear hM2)
  go_loopw [3, 4] (fun lv nv w' => ∃ (k : Nat) (pre : List (List (Int × Int) × Int)) (cells : List Value) (cur : XS), pre.length + k ≤ N ∧ nv = .int .i64 k ∧ w'.ownsRow 0 87 2 lv pre.length cells ∧ (∀ g, lv.ownBlock = some g → w.heap.size ≤ g) ∧
      Nest TbV 2 w.heap.size lv w' cells pre ∧ XM w' b cur ∧ pre ++ (xW xTable k cur).1 = (xW xTable N s1).1 ∧ (xW xTable k cur).2 = (xW xTable N s1).2 ∧ Fr (fun k => k = b) w w') (fun lv nv w' => (intOf nv).toNat)
  case atStart => exact ⟨N, [], [], s1, by simp, rfl, World.ownsRow_nil _ _ _ _, fun g hg => by simp [Value.ownBlock] at hg, Nest.nil, unhide HM2, rfl, rfl, hF2⟩
  case round =>
    clear hF2
    obtain ⟨k, pre, cells, cur, hk, rfl, hown, hlo, hne, hM, e1, e2, hF⟩ := hrel
    have HO := hide hown
    have HM := hide hM
    have HL := hide hlo
    have HN := hide hne
    have r1 := hM.rd.c1
    have hlv : ∃ a c, u3 = .slice a pre.length c := by
      rcases hown.2 with ⟨rfl, h0⟩ | ⟨g, cap, cur, rfl, _⟩
      · exact ⟨none, 0, by rw [h0]⟩
      · exact ⟨_, _, rfl⟩
    by_cases hend : k = 0 ∨ cur.2 ≠ 0
    · rw [xW_stop _ _ _ hend] at e1 e2
      have E1 := hide e1
      have E2 := hide e2
      have FIN := hide (Nest.arr niceTb hne hown rfl hlo (by omega))
      clear e1 e2 hown hM hlo hne hlv
      have hb : k = 0 ∨ ((cur.2 == 0) = false ∧ (k : Int) > 0) := by
        by_cases h0 : k = 0
        · exact .inl h0
        · exact .inr ⟨beq_eq_false_iff_ne.2 (hend.resolve_left h0), by omega⟩
      clear hend
      rcases hb with rfl | ⟨hb, hk0⟩
      · go_wp2
        go_ret
        obtain ⟨a, c, rfl, hA⟩ := unhide FIN
        refine ⟨a, pre.length, ⟨c, rfl⟩, ?_, ?_, hF⟩
        · rw [← unhide E1]; simpa using hA
        · rw [← unhide E2]; exact unhide HM
      · go_wp2
        go_ret
        obtain ⟨a, c, rfl, hA⟩ := unhide FIN
        refine ⟨a, pre.length, ⟨c, rfl⟩, ?_, ?_, hF⟩
        · rw [← unhide E1]; simpa using hA
        · rw [← unhide E2]; exact unhide HM
    · have hE0 : cur.2 = 0 := by
        rcases Classical.em (cur.2 = 0) with h | h
        · exact h
        · exact absurd (.inr h) hend
      obtain ⟨j, rfl⟩ : ∃ j, k = j + 1 := ⟨k - 1, by omega⟩
      have hgt : ((j + 1 : Nat) : Int) > 0 := by omega
      rw [xW_step _ _ _ hE0] at e1 e2
      rw [hE0] at r1
      have E1 := hide e1
      have E2 := hide e2
      obtain ⟨av, cv, rfl⟩ := hlv
      have hblr := (unhide HM).lt
      have qa : Fr (fun _ => False) wr (wr.alloc (.cells #[.slice none 0 0, .int .i64 0] 87)) := (Fr.refl _ wr).alloc _
      have HT0 := hide (blk_new wr (.cells #[.slice none 0 0, .int .i64 0] 87))
      have hup := xcount_calls (hM.fr qa (fun h => h)) 8 (by omega)
      have hle2 := xUp_le 8 cur
      have hX : xTable cur = ((((xR xClause (xUp 8 cur).1 (xUp 8 cur).2).1, (xTime (xR xClause (xUp 8 cur).1 (xUp 8 cur).2).2).1)), (xTime (xR xClause (xUp 8 cur).1 (xUp 8 cur).2).2).2) := rfl
      rw [hX] at E1 E2
      clear e1 e2 hown hM hlo hne hend hX
      generalize xUp 8 cur = p2 at *
      obtain ⟨K, s2⟩ := p2
      dsimp only at *
      have HU2 := hide hup
      clear hup
      have zA : (wr.alloc (.cells #[.slice none 0 0, .int .i64 0] 87)).heap.size = wr.heap.size + 1 := by simp
      go_wp2_with fail
      refine (unhide HU2).mono ?_
      rintro e w3 ⟨rfl, hM3, hF3⟩
      have HM3 := hide hM3
      have HT3 := hide (hF3.blk (unhide HT0) (by show ¬ wr.heap.size = b; omega))
      have FA : Fr (fun k => k = b) wr w3 := qa.trans hF3 (fun _ _ h => h.elim) (fun _ _ h => h)
      clear hM3 HT0 HU2 qa hF3
      go_wp2
      generalize wr = wo at *
      go_loopw [6] (fun nv w' => ∃ (k : Nat) (pre2 : List (Int × Int)) (cur2 : XS) (lv : Value), pre2.length + k = K ∧ nv = .int .i64 k ∧ w'.heap[wo.heap.size]? = some (.cells #[lv, .int .i64 0] 87 (0, 0)) ∧ w'.ownsRow 0 89 2 lv pre2.length (pairV pre2) ∧
          (∀ g, lv.ownBlock = some g → wo.heap.size < g) ∧ (∀ p ∈ pre2, (-9223372036854775808 ≤ p.1 ∧ p.1 ≤ 9223372036854775807) ∧ (-9223372036854775808 ≤ p.2 ∧ p.2 ≤ 9223372036854775807)) ∧ XM w' b cur2 ∧
          pre2 ++ (xR xClause k cur2).1 = (xR xClause K s2).1 ∧ (xR xClause k cur2).2 = (xR xClause K s2).2 ∧ Fr (fun k => k = b) wo w') (fun nv w' => (intOf nv).toNat)
      case atStart => exact ⟨K, [], s2, .slice none 0 0, by simp, rfl, unhide HT3, World.ownsRow_nil _ _ _ _, fun g hg => by simp [Value.ownBlock] at hg, fun t ht => by simp at ht, unhide HM3, rfl, rfl, FA⟩
      case round =>
        clear FA HT3 HM3
        obtain ⟨k2, pre2, cur2, lv, hk2, rfl, hT, hown2, hlo2, hin2, hM4, f1, f2, hF4⟩ := hrel
        have HL2 := hide hlo2
        have HI2 := hide hin2
        have HO2 := hide hown2
        have HM4 := hide hM4
        have HT := hide hT
        obtain ⟨a2, c2, rfl⟩ := slice_of hown2
        have hz4 := hF4.size
        have htl := lt_of_blk hT
        have t0 := cell_at hT 0
        have t1 := cell_at hT 1
        simp at t0 t1
        by_cases hk0 : k2 = 0
        · subst hk0
          have F1 : pre2 = (xR xClause K s2).1 := by simpa [xR] using f1
          have F2 : cur2 = (xR xClause K s2).2 := f2
          rw [← F1, ← F2] at E1
          rw [← F2] at E2
          have HI := hide (xtime_calls hM4)
          have hsx := sgn_fits _ (rnum_lt cur2.1 cur2.2)
          unfold xTime at E1 E2
          clear F1 F2 f1 f2 hlo2 hin2 hown2 hM4 hT
          generalize rnum cur2.1 cur2.2 = q at *
          obtain ⟨y, ly, Ey⟩ := q
          dsimp only at *
          generalize sgn (y : Int) = x at *
          by_cases u1 : x < -1
          · have ht : timeB x = false := by unfold timeB; simp; omega
            rw [ht] at E1 E2
            simp only [Bool.false_eq_true, if_false] at E1 E2
            clear ht
            go_wp2_with fail
            refine (unhide HI).mono ?_
            rintro e w5 ⟨rfl, hM5, hF5⟩
            have r5 := hM5.rd.c1
            have g5 := free_at hM5.rd 1
            have fE : Fr (fun k => k = b) w5 (w5.setCell ⟨b, 1, none⟩ (.int .i64 4)) := (Fr.refl (fun k => k = b) w5).setAt _ _ _ (.inr rfl)
            have hM6 : XM (w5.setCell ⟨b, 1, none⟩ (.int .i64 4)) b (ly, 4) := ⟨(hM5.rd.setE (E' := 4)).1, hM5.len⟩
            have hF6 := hF5.trans (T := fun k => k = b) fE (fun _ _ h => h) (fun _ _ h => h)
            have hT5 := hF6.blk (unhide HT) (by show ¬ wo.heap.size = b; omega)
            have hb5 := free_at hT5 1
            have t5 := cell_at hT5 0
            have t6 := cell_at hT5 1
            simp at t5 t6
            have F5 : Fr (fun k => k = b) wo (w5.setCell ⟨b, 1, none⟩ (.int .i64 4)) := hF4.trans hF6 (fun _ _ h => h) (fun _ _ h => h)
            have PP := hide (tab_parts (x := x) hF hbl (unhide HO) (unhide HL) (unhide HN) F5 hT5 (owns_fr (unhide HO2) hF6 (fun g hg e => by have := unhide HL2 g hg; omega)) (unhide HL2) (unhide HI2) hM6 hsx (by omega) rfl)
            have hz5 := hF5.size
            have hzE : (w5.setCell ⟨b, 1, none⟩ (.int .i64 4)).heap.size = w5.heap.size := by simp [World.setCell]
            clear hM5 hF5 hT5 F5 fE hF6 hM6
            go_wp2_with (at_builtin; refine wpList_append_info _ rfl _ _ 40 rfl 87 (.agg #[.slice none 0 0, .int .i64 0]) 2 32 Try.underlying40 infoTb rfl (by decide) _ _ _ rfl (unhide PP).1 ⟨w5.heap.size, 0, none⟩ 1 1 [.slice a2 pre2.length c2, .int .i64 x] rfl rfl ?c1 (two_one rfl rfl) ?c3 ?c4 ?_)
            case c1 =>
              have := two_c1 ((w5.setCell ⟨b, 1, none⟩ (.int .i64 4)).setCell ⟨wo.heap.size, 1, none⟩ (.int .i64 x)) (.slice a2 pre2.length c2) (.int .i64 x) 87
              simpa [World.setCell] using this
            case c3 => unfold maxLen; omega
            case c4 => omega
            intro v' w' ho hgr ha
            go_wp2
            go_roundw
            case rel => exact ⟨j, pre ++ [(pre2, x)], cells ++ [.slice a2 pre2.length c2, .int .i64 x], (ly, 4), by simp; omega, by go_num, tab_end (unhide PP) rfl (unhide HO).1 (unhide HL) (owns_lt (unhide HO)) hF.size ho hgr (by rcases ha with e | e; exact .inl e; exact .inr (by rw [e]; simp [World.setCell])) (unhide E1) (unhide E2) hbl⟩
            case measure => simp [intOf]
          · by_cases u2 : x ≥ 200
            · have ht : timeB x = false := by unfold timeB; simp; omega
              rw [ht] at E1 E2
              simp only [Bool.false_eq_true, if_false] at E1 E2
              clear ht
              go_wp2_with fail
              refine (unhide HI).mono ?_
              rintro e w5 ⟨rfl, hM5, hF5⟩
              have r5 := hM5.rd.c1
              have g5 := free_at hM5.rd 1
              have fE : Fr (fun k => k = b) w5 (w5.setCell ⟨b, 1, none⟩ (.int .i64 4)) := (Fr.refl (fun k => k = b) w5).setAt _ _ _ (.inr rfl)
              have hM6 : XM (w5.setCell ⟨b, 1, none⟩ (.int .i64 4)) b (ly, 4) := ⟨(hM5.rd.setE (E' := 4)).1, hM5.len⟩
              have hF6 := hF5.trans (T := fun k => k = b) fE (fun _ _ h => h) (fun _ _ h => h)
              have hT5 := hF6.blk (unhide HT) (by show ¬ wo.heap.size = b; omega)
              have hb5 := free_at hT5 1
              have t5 := cell_at hT5 0
              have t6 := cell_at hT5 1
              simp at t5 t6
              have F5 : Fr (fun k => k = b) wo (w5.setCell ⟨b, 1, none⟩ (.int .i64 4)) := hF4.trans hF6 (fun _ _ h => h) (fun _ _ h => h)
              have PP := hide (tab_parts (x := x) hF hbl (unhide HO) (unhide HL) (unhide HN) F5 hT5 (owns_fr (unhide HO2) hF6 (fun g hg e => by have := unhide HL2 g hg; omega)) (unhide HL2) (unhide HI2) hM6 hsx (by omega) rfl)
              have hz5 := hF5.size
              have hzE : (w5.setCell ⟨b, 1, none⟩ (.int .i64 4)).heap.size = w5.heap.size := by simp [World.setCell]
              clear hM5 hF5 hT5 F5 fE hF6 hM6
              go_wp2_with (at_builtin; refine wpList_append_info _ rfl _ _ 40 rfl 87 (.agg #[.slice none 0 0, .int .i64 0]) 2 32 Try.underlying40 infoTb rfl (by decide) _ _ _ rfl (unhide PP).1 ⟨w5.heap.size, 0, none⟩ 1 1 [.slice a2 pre2.length c2, .int .i64 x] rfl rfl ?c1 (two_one rfl rfl) ?c3 ?c4 ?_)
              case c1 =>
                have := two_c1 ((w5.setCell ⟨b, 1, none⟩ (.int .i64 4)).setCell ⟨wo.heap.size, 1, none⟩ (.int .i64 x)) (.slice a2 pre2.length c2) (.int .i64 x) 87
                simpa [World.setCell] using this
              case c3 => unfold maxLen; omega
              case c4 => omega
              intro v' w' ho hgr ha
              go_wp2
              go_roundw
              case rel => exact ⟨j, pre ++ [(pre2, x)], cells ++ [.slice a2 pre2.length c2, .int .i64 x], (ly, 4), by simp; omega, by go_num, tab_end (unhide PP) rfl (unhide HO).1 (unhide HL) (owns_lt (unhide HO)) hF.size ho hgr (by rcases ha with e | e; exact .inl e; exact .inr (by rw [e]; simp [World.setCell])) (unhide E1) (unhide E2) hbl⟩
              case measure => simp [intOf]
            · have ht : timeB x = true := by unfold timeB; simp; omega
              rw [ht] at E1 E2
              simp only [if_true] at E1 E2
              clear ht
              go_wp2_with fail
              refine (unhide HI).mono ?_
              rintro e w5 ⟨rfl, hM5, hF5⟩
              have hT5 := hF5.blk (unhide HT) (by show ¬ wo.heap.size = b; omega)
              have hb5 := free_at hT5 1
              have t5 := cell_at hT5 0
              have t6 := cell_at hT5 1
              simp at t5 t6
              have F5 : Fr (fun k => k = b) wo w5 := hF4.trans hF5 (fun _ _ h => h) (fun _ _ h => h)
              have PP := hide (tab_parts (x := x) hF hbl (unhide HO) (unhide HL) (unhide HN) F5 hT5 (owns_fr (unhide HO2) hF5 (fun g hg e => by have := unhide HL2 g hg; omega)) (unhide HL2) (unhide HI2) hM5 hsx (by omega) rfl)
              have hz5 := hF5.size
              clear hM5 hF5 hT5 F5
              go_wp2_with (at_builtin; refine wpList_append_info _ rfl _ _ 40 rfl 87 (.agg #[.slice none 0 0, .int .i64 0]) 2 32 Try.underlying40 infoTb rfl (by decide) _ _ _ rfl (unhide PP).1 ⟨w5.heap.size, 0, none⟩ 1 1 [.slice a2 pre2.length c2, .int .i64 x] rfl rfl ?c1 (two_one rfl rfl) ?c3 ?c4 ?_)
              case c1 =>
                have := two_c1 (w5.setCell ⟨wo.heap.size, 1, none⟩ (.int .i64 x)) (.slice a2 pre2.length c2) (.int .i64 x) 87
                simpa [World.setCell] using this
              case c3 => unfold maxLen; omega
              case c4 => omega
              intro v' w' ho hgr ha
              go_wp2
              go_roundw
              case rel => exact ⟨j, pre ++ [(pre2, x)], cells ++ [.slice a2 pre2.length c2, .int .i64 x], (ly, Ey), by simp; omega, by go_num, tab_end (unhide PP) rfl (unhide HO).1 (unhide HL) (owns_lt (unhide HO)) hF.size ho hgr (by rcases ha with e | e; exact .inl e; exact .inr (by rw [e]; simp [World.setCell])) (unhide E1) (unhide E2) hbl⟩
              case measure => simp [intOf]
        · obtain ⟨j2, rfl⟩ : ∃ j2, k2 = j2 + 1 := ⟨k2 - 1, by omega⟩
          have hgt2 : ((j2 + 1 : Nat) : Int) > 0 := by omega
          rw [xR_step] at f1 f2
          have hX : xClause cur2 = ((((xUp 8 cur2).1 : Int), ((xUp 200 (xUp 8 cur2).2).1 : Int)), (xUp 200 (xUp 8 cur2).2).2) := rfl
          rw [hX] at f1 f2
          have F1 := hide f1
          have F2 := hide f2
          have HC1 := hide (xcount_calls hM4 8 (by omega))
          have hq1 := xUp_le 8 cur2
          have hq2 := xUp_le 200 (xUp 8 cur2).2
          have HC2 := hide (fun (w' : World) (h : XM w' b (xUp 8 cur2).2) => xcount_calls h 200 (by omega))
          clear f1 f2 hX hlo2 hin2 hown2 hM4 hT hk0
          generalize xUp 8 cur2 = q at *
          obtain ⟨tag, s3⟩ := q
          dsimp only at *
          generalize xUp 200 s3 = q at *
          obtain ⟨to, s4⟩ := q
          dsimp only at *
          go_wp2_with fail
          refine (unhide HC1).mono ?_
          rintro e w5 ⟨rfl, hM5, hF5⟩
          have hT5 := hF5.blk (unhide HT) (by show ¬ wo.heap.size = b; omega)
          have t5 := cell_at hT5 0
          simp at t5
          have HO5 := hide (owns_fr (unhide HO2) hF5 (fun g hg e => by have := unhide HL2 g hg; omega))
          have F5 : Fr (fun k => k = b) wo w5 := hF4.trans hF5 (fun _ _ h => h) (fun _ _ h => h)
          have HT5 := hide hT5
          have HM5 := hide (hM5.fr (Fr.drew (Fr.refl (fun _ => False) w5)) (fun h => h))
          have hz5 := hF5.size
          clear hM5 hT5 hF5
          go_wp2_with fail
          go_region_law (first
            | (rw [if_pos (by rfl)]; go_simp; go_at_call 17; refine (unhide HC2 _ (unhide HM5)).mono ?_; rintro e w6 ⟨rfl, hM6, hF6⟩; have HM6 := hide hM6; have HF6 := hide hF6; have HT6 := hide (hF6.blk (k := wo.heap.size) (unhide HT5) (by show ¬ wo.heap.size = b; omega)); have t7 := cell_at (unhide HT6) 0; have t9 := cell_at (blk_alloc (u := .cells #[.int .i64 tag, .int .i64 to] 89) (unhide HT6)) 0; simp at t7 t9; have hz6 : w5.heap.size ≤ w6.heap.size := hF6.size; have HO6 := hide (owns_fr (owns_fr (unhide HO5) (Fr.drew (Fr.refl (fun _ => False) w5)) (fun g hg h => h)) hF6 (fun g hg e => by have := unhide HL2 g hg; omega)); clear hM6 hF6; dsimp only)
            | (refine step_append_info rfl _ _ 85 rfl 89 (insV 0 0) 2 16 Try.underlying85 infoCl rfl (by decide) (.slice a2 pre2.length c2) _ _ rfl ((unhide HO6).alloc _) ⟨w6.heap.size, 0, none⟩ 1 1 [.int .i64 tag, .int .i64 to] rfl rfl (two_c1 _ _ _ _) (two_one rfl rfl) (by unfold maxLen; omega) (by omega) ?_; intro v' w' ho hgr ha; obtain ⟨a', c', rfl⟩ := slice_of ho; have HT7 := hide (hgr.block wo.heap.size (by simp; omega) (fun e => by have := unhide HL2 _ e.symm; omega)); have HT8 := hide ((unhide HT7).trans (blk_alloc (unhide HT6))); have t8 := cell_at (unhide HT8) 0; simp at t8; have g8 := free_at (unhide HT8) 0))
          all_goals go_wp2
          all_goals go_roundw
          all_goals first
            | (simp [intOf]; done)
            | exact ⟨j2, pre2 ++ [((tag : Int), (to : Int))], s4, .slice a' (pre2.length + 1) c', by simp; omega, by go_num, cl_end F5 (unhide HF6) (by omega) (unhide HM6) (unhide HL2) (by omega) (unhide HI2) hq1 hq2 ho hgr (by simpa using ha) (unhide HT8) (unhide F1) (unhide F2)⟩

end Go.Proofs.Ythdpgachdegcgaa
