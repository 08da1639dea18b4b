/-
  A new block that is filled place by place; the reader of a module's parts in memory.
-/
import Derived.Test.YthdpgachdegcgaaMoArr
import Derived.Test.YthdpgachdegcgaaMoRdPure
import Derived.Laws.MakeOwn
namespace Go.Proofs.Ythdpgachdegcgaa
open Go.RowKit
set_option linter.unusedVariables false
set_option maxRecDepth 8192

/-- 'make([]T, n)': a new block of n times so many cells. -/
theorem wpList_make_n {P : Program} (w : World) {ops : Array Oper} {rest : List Oper} {o : Oper} {a : Act} {Q : Exit → Act → World → Prop}
    (hg : o.guard = none) (l c : Operand) (t : TypeId) (hop : o.op = Op.makeSlice t l c)
    (e : TypeId) (z : Value) (sz bytes : Nat) (h1 : P.underlying t = some (.slice e)) (hin : (P.info? e).map (fun i => (i.zero, i.size, i.bytes)) = some (some z, sz, bytes))
    (kl kc : IntKind) (n : Nat) (hl : a.eval l = .int kl n) (hc : a.eval c = .int kc n) (b2 : bytes * n ≤ 281474976710656) (b3 : n ≤ maxLen)
    (hK : ∀ cs : Array Value, cs.size = n * sz → wpList P ops Q rest (a.put o.dst (.slice (some ⟨w.heap.size, 0, none⟩) n n)) (w.alloc (.cells cs e))) :
    wpList P ops Q (o :: rest) a w := by
  obtain ⟨i, h2, h3, h4, h5⟩ := info_parts hin
  refine wpList_plain hg fun K hK' => ?_
  have h63 : (n : Int) ≤ 9223372036854775807 := by simp only [maxLen] at b3; omega
  have hb : (i.bytes : Int) * (n : Int) ≤ 281474976710656 := by
    rw [h5]
    have h : ((bytes * n : Nat) : Int) ≤ 281474976710656 := by omega
    rwa [Int.natCast_mul] at h
  have hr := run_make (P := P) w t e i z h1 h2 h3 kl kc n n (by omega) (Int.le_refl _) hb h63
  simp only [Int.toNat_natCast] at hr
  unfold Oper.wp
  simp [execOp, hop, hl, hc, hr, Result.andThen]
  exact hK' _ _ (hK _ (by rw [size_madeCells, h4]))

/-- what a relation of cells to things must bear -/
structure Nice {α : Type} (PV : Nat → Nat → World → List Value → α → Prop) : Prop where
  fr : ∀ {lo hi : Nat} {w w' : World} {S : Nat → Prop} {vs : List Value} {x : α}, PV lo hi w vs x → Fr S w w' → (∀ k, S k → k < lo ∨ hi ≤ k) → PV lo hi w' vs x
  wide : ∀ {lo hi lo' hi' : Nat} {w : World} {vs : List Value} {x : α}, PV lo hi w vs x → lo' ≤ lo → hi ≤ hi' → PV lo' hi' w vs x

theorem niceT : Nice (fun _ _ => TV) := ⟨fun h _ _ => h, fun h _ _ => h⟩
theorem niceP : Nice (fun _ _ => PrV) := ⟨fun h _ _ => h, fun h _ _ => h⟩
theorem niceTb : Nice TbV := ⟨fun h hf hS => h.fr hf hS, fun h hl hh => h.wide hl hh⟩
theorem niceAc : Nice AcV := ⟨fun h hf hS => h.fr hf hS, fun ⟨s, h1, h2⟩ hl hh => ⟨s, h1, h2.wide hl hh⟩⟩

/-- block g, of n places, whose first ones hold l -/
def Fill {α : Type} (PV : Nat → Nat → World → List Value → α → Prop) (sz n g : Nat) (T : TypeId) (w : World) (l : List α) : Prop :=
  ∃ (cs : Array Value) (vals : List (List Value)), w.heap[g]? = some (.cells cs T (0, 0)) ∧ cs.size = n * sz ∧ vals.length = l.length ∧
    (∀ (j i : Nat) vs v, vals[j]? = some vs → vs[i]? = some v → i < sz ∧ cs[j * sz + i]? = some v) ∧ (∀ (j : Nat) vs x, vals[j]? = some vs → l[j]? = some x → PV (g + 1) w.heap.size w vs x)

section
variable {α : Type} {PV : Nat → Nat → World → List Value → α → Prop} {sz n g : Nat} {T : TypeId} {w w' : World} {l : List α}

theorem Fill.start {cs : Array Value} (h : w.heap[g]? = some (.cells cs T (0, 0))) (hs : cs.size = n * sz) : Fill PV sz n g T w ([] : List α) :=
  ⟨cs, [], h, hs, rfl, fun j i vs v hj => by simp at hj, fun j vs x hj => by simp at hj⟩

theorem Fill.lt (h : Fill PV sz n g T w l) : g < w.heap.size := by obtain ⟨cs, vals, h1, _⟩ := h; exact lt_of_blk h1

theorem Fill.fr (N : Nice PV) (h : Fill PV sz n g T w l) {S : Nat → Prop} (hf : Fr S w w') (hS : ∀ k, S k → k < g) : Fill PV sz n g T w' l := by
  obtain ⟨cs, vals, h1, h2, h3, h4, h5⟩ := h
  refine ⟨cs, vals, hf.blk h1 (fun hs => by have := hS g hs; omega), h2, h3, h4, fun j vs x hj hx => ?_⟩
  exact N.wide (N.fr (h5 j vs x hj hx) hf (fun k hk => .inl (by have := hS k hk; omega))) (Nat.le_refl _) hf.size

theorem Fill.set (N : Nice PV) (h : Fill PV sz n g T w l) {p : Nat} (hp : l.length * sz ≤ p) (u : Value) : Fill PV sz n g T (w.setCell ⟨g, p, none⟩ u) l := by
  obtain ⟨cs, vals, h1, h2, h3, h4, h5⟩ := h
  refine ⟨_, vals, blk_setCell h1, by simpa using h2, h3, fun j i vs v hj hi => ?_, fun j vs x hj hx => ?_⟩
  · obtain ⟨a1, a2⟩ := h4 j i vs v hj hi
    refine ⟨a1, ?_⟩
    have hjl := (List.getElem?_eq_some_iff.1 hj).1
    have : j * sz + sz ≤ l.length * sz := by rw [← Nat.succ_mul]; exact Nat.mul_le_mul_right _ (by omega)
    rw [Array.getElem?_setIfInBounds, if_neg (by omega)]
    exact a2
  · have hf := Fr.set1 w g p u
    exact N.wide (N.fr (h5 j vs x hj hx) hf (fun k hk => .inl (by omega))) (Nat.le_refl _) hf.size

theorem Fill.cell (h : Fill PV sz n g T w l) {p : Nat} (hp : p < n * sz) (u : Value) : (w.setCell ⟨g, p, none⟩ u).cell? ⟨g, p, none⟩ = some u := by
  obtain ⟨cs, vals, h1, h2, _⟩ := h
  rw [cell_at (blk_setCell h1)]
  simp [h2, hp]

theorem Fill.old (h : Fill PV sz n g T w l) {p : Nat} (hp : p < n * sz) : ∃ u, w.cell? ⟨g, p, none⟩ = some u ∧ w.frozen? ⟨g, p, none⟩ = false := by
  obtain ⟨cs, vals, h1, h2, _⟩ := h
  exact ⟨cs[p], by rw [cell_at h1, Array.getElem?_eq_getElem (by omega)], free_at h1 p⟩

theorem Fill.snoc (h : Fill PV sz n g T w l) {vs : List Value} {x : α} (hl : vs.length = sz) (hc : ∀ i v, vs[i]? = some v → w.cell? ⟨g, l.length * sz + i, none⟩ = some v) (hp : PV (g + 1) w.heap.size w vs x) :
    Fill PV sz n g T w (l ++ [x]) := by
  obtain ⟨cs, vals, h1, h2, h3, h4, h5⟩ := h
  refine ⟨cs, vals ++ [vs], h1, h2, by simp [h3], fun j i vs' v hj hi => ?_, fun j vs' y hj hx => ?_⟩
  · rcases Nat.lt_or_ge j vals.length with hlt | hge
    · rw [List.getElem?_append_left hlt] at hj; exact h4 j i vs' v hj hi
    · rw [List.getElem?_append_right hge] at hj
      have e : j - vals.length = 0 := by have := (List.getElem?_eq_some_iff.1 hj).1; simp at this; omega
      rw [e] at hj
      simp at hj
      subst hj
      have := hc i v hi
      rw [cell_at h1] at this
      have hi' := (List.getElem?_eq_some_iff.1 hi).1
      exact ⟨by omega, by rw [show j = l.length by omega]; exact this⟩
  · rcases Nat.lt_or_ge j vals.length with hlt | hge
    · rw [List.getElem?_append_left hlt] at hj; rw [List.getElem?_append_left (by omega)] at hx; exact h5 j vs' y hj hx
    · rw [List.getElem?_append_right hge] at hj
      rw [List.getElem?_append_right (by omega)] at hx
      have e : j - vals.length = 0 := by have := (List.getElem?_eq_some_iff.1 hj).1; simp at this; omega
      rw [e] at hj
      rw [show j - l.length = 0 by omega] at hx
      simp at hj hx
      subst hj; subst hx
      exact hp

theorem Fill.arr (N : Nice PV) (h : Fill PV sz n g T w l) (hn : l.length = n) (hs : n ≤ 9223372036854775807) {lo : Nat} (hlo : lo ≤ g) : Arr (PV lo w.heap.size) sz lo w.heap.size w (some ⟨g, 0, none⟩) n l := by
  have hlt := h.lt
  obtain ⟨cs, vals, h1, h2, h3, h4, h5⟩ := h
  refine ⟨hn, hs, .inr ⟨g, 0, rfl, hlo, hlt, fun i x hx => ?_⟩⟩
  have hi := (List.getElem?_eq_some_iff.1 hx).1
  have hv : vals[i]? = some (vals[i]'(by omega)) := List.getElem?_eq_getElem (by omega)
  refine ⟨vals[i]'(by omega), fun j v hj => ?_, N.wide (h5 i _ x hv hx) (by omega) (Nat.le_refl _)⟩
  rw [cell_at h1, Nat.zero_add]
  exact (h4 i j _ v hv hj).2
end

/-- the reader of a module's parts at q, reel's at b, the whole text Tx -/
structure MR (w : World) (q b : Nat) (Tx : List UInt8) (s : RS) : Prop where
  blk : w.heap[q]? = some (.cells #[.pointer (some ⟨b, 0, none⟩), .string (ba Tx), .bool s.bad] 49 (0, 0))
  rd : IsR w b s.l s.E
  suf : ∃ pre, Tx = pre ++ s.l
  len : Tx.length ≤ 65536

abbrev QR (q b : Nat) (k : Nat) : Prop := k = q ∨ k = b

theorem MR.ne {w : World} {q b : Nat} {Tx : List UInt8} {s : RS} (h : MR w q b Tx s) : q ≠ b := by
  intro e; have h1 := h.blk; have h2 := h.rd; unfold IsR at h2; rw [e, h2] at h1; simp at h1
theorem MR.lt {w : World} {q b : Nat} {Tx : List UInt8} {s : RS} (h : MR w q b Tx s) : q < w.heap.size ∧ b < w.heap.size := ⟨lt_of_blk h.blk, h.rd.lt⟩
theorem MR.left {w : World} {q b : Nat} {Tx : List UInt8} {s : RS} (h : MR w q b Tx s) : s.l.length ≤ 65536 := by
  obtain ⟨pre, e⟩ := h.suf; have := h.len; rw [e, List.length_append] at this; omega
theorem MR.fr {w w' : World} {q b : Nat} {Tx : List UInt8} {s : RS} (h : MR w q b Tx s) {S : Nat → Prop} (hf : Fr S w w') (hq : ¬ S q) (hb : ¬ S b) : MR w' q b Tx s := ⟨hf.blk h.blk hq, h.rd.fr hf hb, h.suf, h.len⟩
theorem MR.q0 {w w' : World} {q b : Nat} {Tx : List UInt8} {s : RS} (h : MR w q b Tx s) (hf : Fr (fun _ => False) w w') : MR w' q b Tx s := h.fr hf (fun h => h) (fun h => h)
theorem MR.c0 {w : World} {q b : Nat} {Tx : List UInt8} {s : RS} (h : MR w q b Tx s) : w.cell? ⟨q, 0, none⟩ = some (.pointer (some ⟨b, 0, none⟩)) := cell_at h.blk 0
theorem MR.c1 {w : World} {q b : Nat} {Tx : List UInt8} {s : RS} (h : MR w q b Tx s) : w.cell? ⟨q, 1, none⟩ = some (.string (ba Tx)) := cell_at h.blk 1
theorem MR.c2 {w : World} {q b : Nat} {Tx : List UInt8} {s : RS} (h : MR w q b Tx s) : w.cell? ⟨q, 2, none⟩ = some (.bool s.bad) := cell_at h.blk 2
theorem MR.f2 {w : World} {q b : Nat} {Tx : List UInt8} {s : RS} (h : MR w q b Tx s) : w.frozen? ⟨q, 2, none⟩ = false := free_at h.blk 2

/-- reel's reader has gone on -/
theorem MR.on {w w' : World} {q b : Nat} {Tx : List UInt8} {s : RS} (h : MR w q b Tx s) {l : List UInt8} {E : Int} (hR : IsR w' b l E) (hf : Fr (fun k => k = b) w w') (hs : ∃ pre, s.l = pre ++ l) : MR w' q b Tx ⟨l, E, s.bad⟩ := by
  refine ⟨hf.blk h.blk h.ne, hR, ?_, h.len⟩
  obtain ⟨p1, e1⟩ := h.suf
  obtain ⟨p2, e2⟩ := hs
  exact ⟨p1 ++ p2, by rw [e1, e2, List.append_assoc]⟩
/-- something was wrong -/
theorem MR.wrong {w : World} {q b : Nat} {Tx : List UInt8} {s : RS} (h : MR w q b Tx s) : MR (w.setCell ⟨q, 2, none⟩ (.bool true)) q b Tx ⟨s.l, s.E, true⟩ ∧ Fr (QR q b) w (w.setCell ⟨q, 2, none⟩ (.bool true)) :=
  ⟨⟨blk_setCell (i := 2) (u := .bool true) h.blk, (h.rd).fr (Fr.set1 w q 2 (.bool true)) (fun e => h.ne e.symm), h.suf, h.len⟩, (Fr.refl _ w).setAt _ _ _ (.inr (.inl rfl))⟩

theorem rnum_suf (l : List UInt8) (E : Int) : ∃ pre, l = pre ++ (rnum l E).2.1 := by
  unfold rnum
  split
  · exact ⟨[], rfl⟩
  · exact ⟨l.take (rd l 0 0).2.1, (List.take_append_drop _ _).symm⟩
theorem rbyte_suf (l : List UInt8) (E : Int) : ∃ pre, l = pre ++ (rbyte l E).2.1 := by
  unfold rbyte
  split
  · exact ⟨[], rfl⟩
  · cases l with
    | nil => exact ⟨[], rfl⟩
    | cons b r => exact ⟨[b], rfl⟩
theorem rbyte_le (l : List UInt8) (E : Int) : (rbyte l E).1 ≤ 255 := by
  unfold rbyte
  split
  · simp
  · cases l with
    | nil => simp
    | cons b r => have := b.toNat_lt; simp; omega

theorem frQ {q b : Nat} {w w' : World} (h : Fr (fun k => k = b) w w') : Fr (QR q b) w w' := h.mono (fun _ _ e => .inr e)
theorem frQ0 {q b : Nat} {w w' : World} (h : Fr (fun _ => False) w w') : Fr (QR q b) w w' := h.mono (fun _ _ e => e.elim)
theorem frQt {q b : Nat} {w w1 w2 : World} (h : Fr (QR q b) w w1) (k : Fr (QR q b) w1 w2) : Fr (QR q b) w w2 := h.trans k (fun _ _ h => h) (fun _ _ h => h)

set_option maxHeartbeats 1000000 in
theorem upTo_calls {w : World} {q b : Nat} {Tx : List UInt8} {s : RS} (h : MR w q b Tx s) (most : Nat) (hm : most ≤ 1000) :
    Calls Try.prog 33 #[.pointer (some ⟨q, 0, none⟩), .int .i64 most] w fun e w' => e = .returned (.int .i64 (rUp most s).1) ∧ MR w' q b Tx (rUp most s).2 ∧ Fr (QR q b) w w' := by
  have k0 := h.c0
  have hlt := rnum_lt s.l s.E
  have H := hide h
  have hl := h.left
  clear h
  unfold rUp
  by_cases hn : (rnum s.l s.E).1 > most
  · rw [if_pos hn]
    go_enter Try.func33, Try.ntmps33
    go_wp2_with (go_at_call 50; refine (rnum_calls (unhide H).rd (by omega)).mono ?_; rintro e w2 ⟨rfl, hR, hF⟩; have H2 := hide ((unhide H).on hR hF (rnum_suf _ _)); have f2 := (unhide H2).f2; have c2 := (unhide H2).c2)
    go_ret
    exact ⟨rfl, (unhide H2).wrong.1, frQt (frQ hF) (unhide H2).wrong.2⟩
  · rw [if_neg hn]
    go_enter Try.func33, Try.ntmps33
    go_wp2_with (go_at_call 50; refine (rnum_calls (unhide H).rd (by omega)).mono ?_; rintro e w2 ⟨rfl, hR, hF⟩)
    go_ret
    exact ⟨rfl, (unhide H).on hR hF (rnum_suf _ _), frQ hF⟩

end Go.Proofs.Ythdpgachdegcgaa
