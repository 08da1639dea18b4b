/-
  append in a drawn region. Of no program.
-/
import Derived.Test.YtingpopcdihclabLl
import Derived.Deep.RegionLaw
namespace Go.Proofs.Ytingpopcdihclab
open Go.RowKit
set_option linter.unusedVariables false
set_option maxRecDepth 8192

theorem step_append_os {P : Program} {ops : Array Oper} {o : Oper} {a : Act} {w : World} {K : Act → World → Prop} {Q : Exit → Act → World → Prop} {E : Prop}
    (hg : o.guard = none) (s x : Operand) (t : TypeId) (ho : o.op = .call { callee := .builtin .append, args := #[s, x], argTypes := #[t, t] })
    (e : TypeId) (z : Value) (sz bytes : Nat) (ht : P.underlying t = some (.slice e)) (hin : (P.info? e).map (fun i => (i.zero, i.size, i.bytes)) = some (some z, sz, bytes)) (hzs : z.cells.size = sz)
    (lo : Nat) (v : Value) (n : Nat) (vs : List Value) (hsv : a.eval s = v) (h : OS w lo e sz v n vs) (y : Value) (m : Nat) (news : List Value) (hx : a.eval x = y) (hs : Src P sz t y m news w)
    (h63 : n + m ≤ maxLen) (hbytes : (n + m) * bytes ≤ 140737488355328) (hlo : lo ≤ w.heap.size)
    (hK : ∀ v' w', OS w' lo e sz v' (n + m) (vs ++ news) → Fr (RowsOf w lo e) w w' → K (a.put o.dst v') w') :
    if Region.wanted o (yielded ops a.tmps) = true then Oper.wp P o a w K Q else E := by
  have hw : Region.wanted o (yielded ops a.tmps) = true := by simp [Region.wanted, hg]
  rw [if_pos hw]
  obtain ⟨i, h2, h3, h4, h5⟩ := info_parts hin
  obtain ⟨v', w', hr, r1, r2⟩ := run_append_os (P := P) w t o.type e i z sz bytes ht h2 h3 h4 h5 hzs lo v n vs h y m news hs h63 hbytes hlo
  unfold Oper.wp execOp
  simp only [ho, resolve, invoke, builtin, Sem.run_bind, Sem.run_pure, Result.andThen_ok, List.map_toArray, List.map_cons, List.map_nil, hsv, hx, hr]
  exact hK v' w' r1 r2

theorem one_at {W W' : World} {x : Value} {T : TypeId} (e : W'.heap = (W.alloc (.cells #[x] T)).heap) : ∀ (j : Nat) (u : Value), [x][j]? = some u → W'.cell? ((⟨W.heap.size, 0, none⟩ : Addr).add j) = some u := by
  intro j u h
  have hb : W'.heap[W.heap.size]? = some (.cells #[x] T (0, 0)) := by rw [e]; exact blk_new W _
  rw [Addr.add_lit, cell_at hb (0 + j)]
  simpa using h

theorem one_keep {W W0 wA : World} {x : Value} {T : TypeId} (hF : Fr (fun _ => False) W0 wA) (e : W0.heap = (W.alloc (.cells #[x] T)).heap) : ∀ (j : Nat) (u : Value), [x][j]? = some u → wA.cell? ((⟨W.heap.size, 0, none⟩ : Addr).add j) = some u := by
  intro j u h
  have hb : W0.heap[W.heap.size]? = some (.cells #[x] T (0, 0)) := by rw [e]; exact blk_new W _
  rw [Addr.add_lit, cell_at (hF.blk hb (fun h => h)) (0 + j)]
  simpa using h

theorem OS.al {w w' : World} {lo : Nat} {e : TypeId} {sz : Nat} {v : Value} {n : Nat} {vs : List Value} (h : OS w lo e sz v n vs) (o : Obj) (he : w'.heap = (w.alloc o).heap) : OS w' lo e sz v n vs := by
  have := h.fr ((Fr.refl (fun _ => False) w).alloc o) (fun _ _ h => h)
  unfold OS at *
  rw [he]
  exact this

end Go.Proofs.Ytingpopcdihclab
