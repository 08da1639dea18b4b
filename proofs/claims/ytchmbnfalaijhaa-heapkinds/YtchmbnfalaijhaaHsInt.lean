/-
  A heap of texts: its memory; which of two things comes out ahead.
-/
import Derived.Test.YtchmbnfalaijhaaHpOrd
import Derived.Test.YtchmbnfalaijhaaHpMap
import Derived.Test.YtchmbnfalaijhaaHpPure
import Derived.Test.YtchmbnfalaijhaaOsl
namespace Go.Proofs.Ytchmbnfalaijhaa.Hs
open Go.RowKit
set_option linter.unusedVariables false
set_option maxRecDepth 8192

/-- what every world of order's statement has: the two boxes, and nothing old has turned -/
structure OG (w0 : World) (q : Nat) (t k u m : Int) (w : World) : Prop where
  b0 : ∃ x, w.heap[q]? = some (.cells #[.int .i64 t, .int .i64 k, x] 100 (0, 0))
  b1 : ∃ y, w.heap[q + 1]? = some (.cells #[.int .i64 u, .int .i64 m, y] 100 (0, 0))
  fr : Fr (fun _ => False) w0 w

theorem OG.step {w0 w w' : World} {q : Nat} {t k u m : Int} (hf : Fr (fun _ => False) w w') (h : OG w0 q t k u m w) : OG w0 q t k u m w' := by
  obtain ⟨⟨x, h0⟩, ⟨y, h1⟩, h2⟩ := h
  exact ⟨⟨x, hf.blk h0 (fun h => h)⟩, ⟨y, hf.blk h1 (fun h => h)⟩, h2.trans hf (fun _ _ h => h) (fun _ _ h => h)⟩

theorem OG.all {w0 w : World} {q : Nat} {t k u m : Int} (h : OG w0 q t k u m w) : w.cell? ⟨q, 0, none⟩ = some (.int .i64 t) ∧ w.cell? ⟨q, 1, none⟩ = some (.int .i64 k) ∧ w.cell? ⟨q + 1, 0, none⟩ = some (.int .i64 u) ∧ w.cell? ⟨q + 1, 1, none⟩ = some (.int .i64 m) ∧ OG w0 q t k u m w := by
  obtain ⟨⟨x, h0⟩, ⟨y, h1⟩, h2⟩ := h
  exact ⟨cell_at h0 0, cell_at h0 1, cell_at h1 0, cell_at h1 1, ⟨⟨x, h0⟩, ⟨y, h1⟩, h2⟩⟩

set_option maxHeartbeats 4000000 in
theorem order_calls (t k : Int) (x : ByteArray) (u m : Int) (y : ByteArray) (w : World) :
    Calls Try.prog 70 #[.agg #[.int .i64 t, .int .i64 k, .string x], .agg #[.int .i64 u, .int .i64 m, .string y]] w fun e w' => e = .returned (.int .i64 (ordI t k u m)) ∧ Fr (fun _ => False) w w' := by
  have hS : OG w w.heap.size t k u m ((w.alloc (.cells #[.int .i64 t, .int .i64 k, .string x] 100)).alloc (.cells #[.int .i64 u, .int .i64 m, .string y] 100)) :=
    ⟨⟨_, blk_alloc (blk_new w _)⟩, ⟨_, by have := blk_new (w.alloc (.cells #[.int .i64 t, .int .i64 k, .string x] 100)) (.cells #[.int .i64 u, .int .i64 m, .string y] 100); simpa using this⟩, ((Fr.refl _ w).alloc _).alloc _⟩
  go_enter Try.func70, Try.ntmps70
  go_upto_region 1 with fail
  generalize ((w.alloc (.cells #[.int .i64 t, .int .i64 k, .string x] 100)).alloc (.cells #[.int .i64 u, .int .i64 m, .string y] 100)) = wa at *
  generalize w.heap.size = q at *
  obtain ⟨c0, c1, d0, d1, hG⟩ := hS.all
  go_region_held3 (fun w' => w'.cell? ⟨q, 0, none⟩ = some (.int .i64 t) ∧ w'.cell? ⟨q, 1, none⟩ = some (.int .i64 k) ∧ w'.cell? ⟨q + 1, 0, none⟩ = some (.int .i64 u) ∧ w'.cell? ⟨q + 1, 1, none⟩ = some (.int .i64 m) ∧ OG w q t k u m w')
    (first | exact OG.all (by assumption) | exact OG.all (OG.step ((Fr.refl _ _).drew) (by assumption)) | exact OG.all (OG.step (((Fr.refl _ _).alloc _).drew) (by assumption)))
    (first
    | (go_at_call 74; refine (cmp64 _ _ _).mono ?_; rintro e w' ⟨rfl, rfl⟩)
    | (go_at_call 75; refine (cmpInt _ _ _).mono ?_; rintro e w' ⟨rfl, rfl⟩)
    | (go_at_call 73; refine (or_calls _ _ _ _ (cell_at (blk_new _ _) 0) (cell_at (blk_new _ _) 1)).mono ?_; rintro e w' ⟨rfl, rfl⟩))
  all_goals
    go_wp2
    go_ret
    exact ⟨rfl, (hS.step (((Fr.refl _ _).alloc _).drew)).fr⟩

def enV (e : En ByteArray) : Value := .agg #[.int .i64 e.t, .int .i64 e.k, .string e.x]

/-- place j of the row holds e -/
def At3 (cs : Array Value) (j : Nat) (e : En ByteArray) : Prop := cs[j * 3]? = some (.int .i64 e.t) ∧ cs[j * 3 + 1]? = some (.int .i64 e.k) ∧ cs[j * 3 + 2]? = some (.string e.x)

/-- the heap at block b, its list in block g, its places in block bm: the list L, the places as f says, n tickets so far -/
structure IsH (w : World) (b g bm cap n : Nat) (L : List (En ByteArray)) (f : Int → Option Nat) : Prop where
  blk : w.heap[b]? = some (.cells #[.slice (some ⟨g, 0, none⟩) L.length cap, .map (some bm), .int .i64 (n : Int)] 98 (0, 0))
  row : ∃ cs : Array Value, w.heap[g]? = some (.cells cs 100 (0, 0)) ∧ cs.size = cap * 3 ∧ ∀ (i : Nat) (e : En ByteArray), L[i]? = some e → At3 cs i e
  map : PM w bm n f
  len : L.length ≤ cap
  capm : cap ≤ maxLen
  most : n ≤ 4194304
  lenn : L.length ≤ n
  wf : ∀ (i : Nat) (e : En ByteArray), L[i]? = some e → 1 ≤ e.k ∧ e.k ≤ (n : Int)

theorem IsH.fr {P : Nat → Prop} {w w' : World} {b g bm cap n : Nat} {L : List (En ByteArray)} {f : Int → Option Nat} (h : IsH w b g bm cap n L f) (hf : Fr P w w') (hb : ¬ P b) (hg : ¬ P g) (hm : ¬ P bm) : IsH w' b g bm cap n L f := by
  obtain ⟨cs, h1, h2⟩ := h.row
  exact ⟨hf.blk h.blk hb, ⟨cs, hf.blk h1 hg, h2⟩, h.map.fr hf hm, h.len, h.capm, h.most, h.lenn, h.wf⟩

theorem IsH.up {w w' : World} {b g bm cap n : Nat} {L : List (En ByteArray)} {f : Int → Option Nat} (h : IsH w b g bm cap n L f) (hf : Fr (fun _ => False) w w') : IsH w' b g bm cap n L f := h.fr hf (fun h => h) (fun h => h) (fun h => h)

theorem IsH.ne {w : World} {b g bm cap n : Nat} {L : List (En ByteArray)} {f : Int → Option Nat} (h : IsH w b g bm cap n L f) : b ≠ g ∧ b ≠ bm ∧ g ≠ bm := by
  obtain ⟨cs, h1, h2⟩ := h.row
  obtain ⟨es, c, h3⟩ := h.map.blk
  have h0 := h.blk
  refine ⟨fun e => ?_, fun e => ?_, fun e => ?_⟩
  · rw [e, h1] at h0; simp at h0
  · rw [e, h3] at h0; simp at h0
  · rw [e, h3] at h1; simp at h1

theorem IsH.at3 {w : World} {b g bm cap n : Nat} {L : List (En ByteArray)} {f : Int → Option Nat} (h : IsH w b g bm cap n L f) {i : Nat} {e : En ByteArray} (he : L[i]? = some e) :
    w.cell? ⟨g, i * 3, none⟩ = some (.int .i64 e.t) ∧ w.cell? ⟨g, i * 3 + 1, none⟩ = some (.int .i64 e.k) ∧ w.cell? ⟨g, i * 3 + 2, none⟩ = some (.string e.x) := by
  obtain ⟨cs, h1, h2, h3⟩ := h.row
  rw [cell_at h1, cell_at h1, cell_at h1]
  exact h3 i e he

/-- what every world of ahead's statement has -/
structure AG (w0 : World) (b g bm cap n : Nat) (L : List (En ByteArray)) (f : Int → Option Nat) (w : World) : Prop where
  is : IsH w b g bm cap n L f
  fr : Fr (fun _ => False) w0 w

theorem AG.step {w0 w w' : World} {b g bm cap n : Nat} {L : List (En ByteArray)} {f : Int → Option Nat} (hf : Fr (fun _ => False) w w') (h : AG w0 b g bm cap n L f w) : AG w0 b g bm cap n L f w' :=
  ⟨h.is.up hf, h.fr.trans hf (fun _ _ h => h) (fun _ _ h => h)⟩

theorem AG.all {w0 w : World} {b g bm cap n : Nat} {L : List (En ByteArray)} {f : Int → Option Nat} {i j : Nat} {e d : En ByteArray} (he : L[i]? = some e) (hd : L[j]? = some d) (h : AG w0 b g bm cap n L f w) :
    w.cell? ⟨b, 0, none⟩ = some (.slice (some ⟨g, 0, none⟩) L.length cap) ∧ w.cell? ⟨g, i * 3, none⟩ = some (.int .i64 e.t) ∧ w.cell? ⟨g, i * 3 + 1, none⟩ = some (.int .i64 e.k) ∧ w.cell? ⟨g, i * 3 + 2, none⟩ = some (.string e.x) ∧
      w.cell? ⟨g, j * 3, none⟩ = some (.int .i64 d.t) ∧ w.cell? ⟨g, j * 3 + 1, none⟩ = some (.int .i64 d.k) ∧ w.cell? ⟨g, j * 3 + 2, none⟩ = some (.string d.x) ∧ AG w0 b g bm cap n L f w := by
  obtain ⟨a1, a2, a3⟩ := h.is.at3 he
  obtain ⟨b1, b2, b3⟩ := h.is.at3 hd
  exact ⟨cell_at h.is.blk 0, a1, a2, a3, b1, b2, b3, h⟩

set_option maxHeartbeats 4000000 in
theorem ahead_calls {w : World} {b g bm cap n : Nat} {L : List (En ByteArray)} {f : Int → Option Nat} (h : IsH w b g bm cap n L f) (i j : Nat) (e d : En ByteArray) (he : L[i]? = some e) (hd : L[j]? = some d) :
    Calls Try.prog 64 #[.pointer (some ⟨b, 0, none⟩), .int .i64 (i : Int), .int .i64 (j : Int)] w fun e' w' => e' = .returned (.bool (ahB e d)) ∧ Fr (fun _ => False) w w' := by
  have hi : (i : Int) < (L.length : Int) := by have := (List.getElem?_eq_some_iff.1 he).1; omega
  have hj : (j : Int) < (L.length : Int) := by have := (List.getElem?_eq_some_iff.1 hd).1; omega
  have hS : AG w b g bm cap n L f w := ⟨h, Fr.refl _ _⟩
  have hm := h.most
  have hl := h.lenn
  have HE := hide he
  have HD := hide hd
  have HA := hide (AG.all he hd hS)
  obtain ⟨c0, a1, a2, a3, b1, b2, b3, _⟩ := AG.all he hd hS
  clear he hd
  go_enter Try.func64, Try.ntmps64
  go_upto_region 1 with fail
  go_region_held3 (fun w' => w'.cell? ⟨b, 0, none⟩ = some (.slice (some ⟨g, 0, none⟩) L.length cap) ∧ w'.cell? ⟨g, i * 3, none⟩ = some (.int .i64 e.t) ∧ w'.cell? ⟨g, i * 3 + 1, none⟩ = some (.int .i64 e.k) ∧ w'.cell? ⟨g, i * 3 + 2, none⟩ = some (.string e.x) ∧
      w'.cell? ⟨g, j * 3, none⟩ = some (.int .i64 d.t) ∧ w'.cell? ⟨g, j * 3 + 1, none⟩ = some (.int .i64 d.k) ∧ w'.cell? ⟨g, j * 3 + 2, none⟩ = some (.string d.x) ∧ AG w b g bm cap n L f w')
    (first | exact AG.all (unhide HE) (unhide HD) (by assumption) | exact AG.all (unhide HE) (unhide HD) (AG.step ((Fr.refl _ _).drew) (by assumption)))
    (first
    | (go_at_call 70; refine (order_calls _ _ _ _ _ _ _).mono ?_; rintro e' w' ⟨rfl, hF⟩; have hS2 := AG.step hF (by first | assumption | exact AG.step ((Fr.refl _ _).drew) (by assumption))))
  all_goals
    go_wp2
    go_ret
    exact ⟨rfl, hS2.fr⟩

end Go.Proofs.Ytchmbnfalaijhaa.Hs
