/-
  Lists of 64-bit numbers in memory; which are the same; make of such a list.
-/
import Derived.Test.YtingpopcdihclabProg
import Derived.Test.YtingpopcdihclabOsl
import Derived.Laws.MakeOwn
import Derived.Laws.OwnMore
import Derived.Laws.EntriesVeiled
import Derived.Maps.AppendAt
import Derived.LoopTactic
import Derived.Deep.QuietTactic
import Derived.BigQuiet
import Derived.RegionTactic
import Derived.Deep.DeepFit
import Derived.Deep.RegionWith
namespace Go.Proofs.Ytingpopcdihclab
open Go.RowKit
set_option linter.unusedVariables false
set_option maxRecDepth 8192

theorem Try.infoLong : (Try.prog.info? 2).map (fun i => (i.zero, i.size, i.bytes)) = some (some (.int .i64 0), 1, 8) := by kernel_rfl

/-- 'make([]T, n)', of one cell each: a new block of n zeros. -/
theorem wpList_make_rep {P : Program} (w : World) {ops : Array Oper} {rest : List Oper} {o : Oper} {a : Act} {Q : Exit → Act → World → Prop}
    (hg : o.guard = none) (l c : Operand) (t : TypeId) (hop : o.op = Op.makeSlice t l c)
    (e : TypeId) (z : Value) (bytes : Nat) (h1 : P.underlying t = some (.slice e)) (hin : (P.info? e).map (fun i => (i.zero, i.size, i.bytes)) = some (some z, 1, bytes)) (hzc : z.cells = #[z])
    (kl kc : IntKind) (n : Nat) (m m' : Int) (hl : a.eval l = .int kl m) (hc : a.eval c = .int kc m') (hm : m = n) (hm' : m' = n) (b2 : bytes * n ≤ 281474976710656) (b3 : n ≤ maxLen)
    (hK : ∀ cs : Array Value, cs.toList = List.replicate n z → wpList P ops Q rest (a.put o.dst (.slice (some ⟨w.heap.size, 0, none⟩) n n)) (w.alloc (.cells cs e))) :
    wpList P ops Q (o :: rest) a w := by
  subst hm hm'
  obtain ⟨i, h2, h3, h4, h5⟩ := info_parts hin
  refine wpList_plain hg fun K hK' => ?_
  have h63 : (n : Int) ≤ 9223372036854775807 := by simp only [maxLen] at b3; omega
  have hb : (i.bytes : Int) * (n : Int) ≤ 281474976710656 := by
    rw [h5]
    have h : ((bytes * n : Nat) : Int) ≤ 281474976710656 := by omega
    rwa [Int.natCast_mul] at h
  have hr := run_make (P := P) w t e i z h1 h2 h3 kl kc n n (by omega) (Int.le_refl _) hb h63
  simp only [Int.toNat_natCast] at hr
  unfold Oper.wp
  simp [execOp, hop, hl, hc, hr, Result.andThen]
  exact hK' _ _ (hK _ (by rw [h4, Nat.mul_one, hzc, toList_madeCells_one]))

/-- numbers as cells -/
def rowV2 (l : List Int) : List Value := l.map (Value.int .i64)
/-- a slice of 64-bit numbers that is held, its block from lo on -/
abbrev LS (w : World) (lo : Nat) (v : Value) (l : List Int) : Prop := OS w lo 2 1 v l.length (rowV2 l)

theorem cell_fr {S : Nat → Prop} {w w' : World} (hf : Fr S w w') {b i : Nat} {v : Value} (hS : ¬ S b) (h : w.cell? ⟨b, i, none⟩ = some v) : w'.cell? ⟨b, i, none⟩ = some v :=
  (World.cell?_of_block (w := w) (a := ⟨b, i, none⟩) (hf.block b (World.block_lt_of_cell? w ⟨b, i, none⟩ h) hS)).trans h

/-- a slice whose numbers are l -/
def Sl (w : World) (v : Value) (l : List Int) : Prop := ∃ a c, v = .slice a l.length c ∧ ∀ i x, l[i]? = some x → ∃ b off, a = some ⟨b, off, none⟩ ∧ w.cell? ⟨b, off + i, none⟩ = some (.int .i64 x)

theorem LS.sl {w : World} {lo : Nat} {v : Value} {l : List Int} (h : LS w lo v l) : Sl w v l := by
  obtain ⟨a, cap, rfl, hcap, hmax, hc⟩ := h.cell
  refine ⟨a, cap, rfl, fun i x hx => ?_⟩
  have hil := (List.getElem?_eq_some_iff.1 hx).1
  obtain ⟨g, off, rfl, hbg, hcells, hvs⟩ := hc (by omega)
  exact ⟨g, off, rfl, hvs i _ (by unfold rowV2; rw [List.getElem?_map, hx]; rfl)⟩

theorem Sl.fr {w w' : World} {v : Value} {l : List Int} (h : Sl w v l) (hf : Fr (fun _ => False) w w') : Sl w' v l := by
  obtain ⟨a, c, h1, h2⟩ := h
  refine ⟨a, c, h1, fun i x hx => ?_⟩
  obtain ⟨b, off, g1, g2⟩ := h2 i x hx
  exact ⟨b, off, g1, cell_fr hf (fun h => h) g2⟩

theorem cell_one_new (w : World) (x : Value) (T : TypeId) : ∀ (j : Nat) (u : Value), [x][j]? = some u → (w.alloc (.cells #[x] T)).cell? ((⟨w.heap.size, 0, none⟩ : Addr).add j) = some u := by
  intro j u h
  rw [Addr.add_lit, cell_at (blk_new w (.cells #[x] T)) (0 + j)]
  simpa using h

set_option maxHeartbeats 2000000 in
theorem same_true {w : World} {v1 v2 : Value} {l : List Int} (h1 : Sl w v1 l) (h2 : Sl w v2 l) (hl : l.length ≤ 9223372036854775806) :
    Calls Try.prog 17 #[v1, v2] w fun e w' => e = .returned (.bool true) ∧ Fr (fun _ => False) w w' := by
  obtain ⟨a1, c1, rfl, g1⟩ := h1
  obtain ⟨a2, c2, rfl, g2⟩ := h2
  obtain ⟨n, hn⟩ : ∃ n, l.length = n := ⟨_, rfl⟩
  have HN := hide hn
  rw [hn] at hl ⊢
  clear hn
  go_enter Try.func17, Try.ntmps17
  go_wp2
  go_loopw [5] (fun i wr => ∃ k : Nat, k ≤ n ∧ i = .int .i64 k ∧ Fr (fun _ => False) w wr) (fun i _ => n - (intOf i).toNat)
  case atStart => exact ⟨0, Nat.zero_le _, rfl, Fr.refl _ _⟩
  case round =>
    obtain ⟨k, hk, rfl, hF⟩ := hrel
    by_cases hlt : k < n
    · obtain ⟨x, hx⟩ : ∃ x, l[k]? = some x := ⟨l[k]'(by have := HN.out; omega), List.getElem?_eq_getElem _⟩
      obtain ⟨b1, o1, rfl, d1⟩ := g1 k x hx
      obtain ⟨b2, o2, rfl, d2⟩ := g2 k x hx
      have e1 := cell_fr hF (fun h => h) d1
      have e2 := cell_fr hF (fun h => h) d2
      have hkn : (k : Int) < (n : Int) := by omega
      clear hx d1 d2
      go_wp2
      go_quiet (fail)
      go_wp2
      go_roundw
      case rel => exact ⟨k + 1, by omega, by go_num, hF.drewN _⟩
      case measure => simp [intOf]; omega
    · obtain rfl : k = n := by omega
      go_wp2
      go_ret
      exact ⟨rfl, hF⟩

end Go.Proofs.Ytingpopcdihclab
