/-
  What Go's sort makes of a row of a heap's things: how its words stand to ours.
-/
import Derived.Test.YtijiackjlgpgpaaHpPut
import Derived.Test.YtijiackjlgpgpaaHpOrdX
import Derived.Shelf.GgSortFunc.InsertionK
namespace Go.Proofs.Ytijiackjlgpgpaa
open Go.RowKit
set_option linter.unusedVariables false
set_option maxRecDepth 8192

instance : Inhabited (En Int) := ⟨⟨0, 0, 0⟩⟩

def enc3 (e : En Int) : List Value := [.int .i64 e.t, .int .i64 e.k, .int .i64 e.x]
def cf3 (x y : En Int) : Int := ordI x.t x.k y.t y.k

theorem flat_at (d : Array (En Int)) (j : Nat) (hj : j < d.size * 3) : (Sort.flatK enc3 3 d)[j]! = (enc3 d[j / 3]!)[j % 3]! := Sort.get_flatK enc3 3 d j hj

theorem flat3 (d : Array (En Int)) {i : Nat} {e : En Int} (he : d[i]? = some e) : (Sort.flatK enc3 3 d)[i * 3]! = .int .i64 e.t ∧ (Sort.flatK enc3 3 d)[i * 3 + 1]! = .int .i64 e.k ∧ (Sort.flatK enc3 3 d)[i * 3 + 2]! = .int .i64 e.x := by
  have hi := (Array.getElem?_eq_some_iff.1 he).1
  have hd : d[i]! = e := by rw [getElem!_pos d i hi]; exact (Array.getElem?_eq_some_iff.1 he).2
  refine ⟨?_, ?_, ?_⟩
  · rw [flat_at d _ (by omega), show i * 3 / 3 = i by omega, show i * 3 % 3 = 0 by omega, hd]; rfl
  · rw [flat_at d _ (by omega), show (i * 3 + 1) / 3 = i by omega, show (i * 3 + 1) % 3 = 1 by omega, hd]; rfl
  · rw [flat_at d _ (by omega), show (i * 3 + 2) / 3 = i by omega, show (i * 3 + 2) % 3 = 2 by omega, hd]; rfl

theorem Rw.le {w : World} {g cap : Nat} {L : List (En Int)} (h : Rw w g cap L) : L.length ≤ cap := by
  obtain ⟨cs, h1, h2, h3⟩ := h
  by_cases h0 : 0 < L.length
  · obtain ⟨e, he⟩ := get_some (L := L) (i := L.length - 1) (by omega)
    have := (Array.getElem?_eq_some_iff.1 (h3 _ e he).1).1
    omega
  · omega

theorem holds_of_rw {w : World} {g cap : Nat} {L : List (En Int)} (h : Rw w g cap L) : Sort.HoldsK enc3 3 w g 0 L.toArray := by
  obtain ⟨cs, h1, h2, h3⟩ := h
  intro j hj
  rw [Sort.size_flatK] at hj
  have hj' : j < L.length * 3 := by simpa using hj
  refine ⟨?_, free_at h1 _⟩
  obtain ⟨e, he⟩ := get_some (L := L) (i := j / 3) (by omega)
  obtain ⟨a1, a2, a3⟩ := h3 _ e he
  obtain ⟨b1, b2, b3⟩ := flat3 L.toArray (i := j / 3) (e := e) (by simpa using he)
  rw [Nat.zero_add, cell_at h1]
  show cs[j]? = some (Sort.flatK enc3 3 L.toArray)[j]!
  rcases (show j % 3 = 0 ∨ j % 3 = 1 ∨ j % 3 = 2 by omega) with hm | hm | hm
  · rw [show j = j / 3 * 3 by omega, a1, b1]
  · rw [show j = j / 3 * 3 + 1 by omega, a2, b2]
  · rw [show j = j / 3 * 3 + 2 by omega, a3, b3]

theorem sw_blk {w : World} {g n : Nat} {cs : Array Value} {T : TypeId} (d : Array (En Int)) (os : Array Obj) (h : w.heap[g]? = some (.cells cs T (0, 0))) :
    (sortWorldK enc3 3 w g 0 n d os).heap[g]? = some (.cells (Sort.putCells id 0 (Sort.flatK enc3 3 d) cs) T (0, 0)) := by
  have hl := lt_of_blk h
  unfold sortWorldK Sort.putRowK Sort.putRow
  rw [Sort.heap_grow_old _ _ (by simpa [Sort.mapBlock] using hl)]
  have h' : (Sort.ahead w n).heap[g]? = some (.cells cs T (0, 0)) := h
  simp only [Sort.mapBlock, Array.getElem?_modify, if_true, h', Option.map_some]
  rfl

theorem sw_fr (w : World) (g n : Nat) (d : Array (En Int)) (os : Array Obj) : Fr (fun k => k = g) w (sortWorldK enc3 3 w g 0 n d os) := by
  refine ⟨rfl, rfl, rfl, by simp [sortWorldK, Sort.putRowK, Sort.putRow, Sort.mapBlock, Sort.grow, Sort.ahead], fun k hk hn => ?_⟩
  unfold sortWorldK Sort.putRowK Sort.putRow
  rw [Sort.heap_grow_old _ _ (by simpa [Sort.mapBlock] using hk)]
  simp only [Sort.mapBlock, Array.getElem?_modify]
  rw [if_neg (fun e => hn e.symm)]
  rfl

theorem sw_at {cs : Array Value} {d : Array (En Int)} (hs : d.size * 3 ≤ cs.size) {i : Nat} {e : En Int} (he : d.toList[i]? = some e) : At3 (Sort.putCells id 0 (Sort.flatK enc3 3 d) cs) i e := by
  have he' : d[i]? = some e := by simpa using he
  have hi := (Array.getElem?_eq_some_iff.1 he').1
  obtain ⟨b1, b2, b3⟩ := flat3 d he'
  have key : ∀ j, j < d.size * 3 → (Sort.putCells id 0 (Sort.flatK enc3 3 d) cs)[j]? = some (Sort.flatK enc3 3 d)[j]! := fun j hj => by
    unfold Sort.putCells
    rw [Array.getElem?_mapIdx, Array.getElem?_eq_getElem (by omega)]
    simp only [Option.map_some, Sort.size_flatK]
    rw [if_pos ⟨Nat.zero_le _, by omega⟩]
    simp
  exact ⟨by rw [key _ (by omega), b1], by rw [key _ (by omega), b2], by rw [key _ (by omega), b3]⟩

theorem perm_of {d d' : Array (En Int)} (h : Sort.PermIn 0 d.size d d') : d'.toList.Perm d.toList := by
  obtain ⟨h1, h2, h3⟩ := h
  rw [show d.extract 0 d.size = d by simp, show d'.extract 0 d.size = d' by rw [← h1]; simp] at h3
  exact h3

end Go.Proofs.Ytijiackjlgpgpaa
