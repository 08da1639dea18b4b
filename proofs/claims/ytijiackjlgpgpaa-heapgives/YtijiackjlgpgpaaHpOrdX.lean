/-
  The order of a heap's things: just what its call lays.
-/
import Derived.Test.YtijiackjlgpgpaaHpOrd
import Derived.Shelf.GgSortFunc.InsertionK
namespace Go.Proofs.Ytijiackjlgpgpaa
open Go.RowKit
set_option linter.unusedVariables false
set_option maxRecDepth 8192

theorem grow3 (w : World) (a b c : Obj) : (((w.alloc a).alloc b).alloc c).drew = Sort.grow (w.drewN 1) #[a, b, c] := by
  rw [Sort.alloc_eq_grow, Sort.alloc_eq_grow, Sort.alloc_eq_grow, Sort.grow_grow, Sort.grow_grow]
  rfl

set_option maxHeartbeats 4000000 in
theorem order_exact (t k x u m y : Int) (w : World) :
    Calls Try.prog 48 #[.agg #[.int .i64 t, .int .i64 k, .int .i64 x], .agg #[.int .i64 u, .int .i64 m, .int .i64 y]] w fun e w' => e = .returned (.int .i64 (ordI t k u m)) ∧ ∃ (q : Nat) (os' : Array Obj), w' = Sort.grow (w.drewN q) os' := by
  have hS : OG w w.heap.size t k u m ((w.alloc (.cells #[.int .i64 t, .int .i64 k, .int .i64 x] 65)).alloc (.cells #[.int .i64 u, .int .i64 m, .int .i64 y] 65)) :=
    ⟨⟨_, blk_alloc (blk_new w _)⟩, ⟨_, by have := blk_new (w.alloc (.cells #[.int .i64 t, .int .i64 k, .int .i64 x] 65)) (.cells #[.int .i64 u, .int .i64 m, .int .i64 y] 65); simpa using this⟩, ((Fr.refl _ w).alloc _).alloc _⟩
  go_enter Try.func48, Try.ntmps48
  go_upto_region 1 with fail
  generalize hwa : ((w.alloc (.cells #[.int .i64 t, .int .i64 k, .int .i64 x] 65)).alloc (.cells #[.int .i64 u, .int .i64 m, .int .i64 y] 65)) = wa at hS ⊢
  have HWA := hide hwa
  clear hwa
  generalize w.heap.size = q at hS ⊢
  obtain ⟨c0, c1, d0, d1, hG⟩ := hS.all
  go_region_held3 (fun w' => w'.cell? ⟨q, 0, none⟩ = some (.int .i64 t) ∧ w'.cell? ⟨q, 1, none⟩ = some (.int .i64 k) ∧ w'.cell? ⟨q + 1, 0, none⟩ = some (.int .i64 u) ∧ w'.cell? ⟨q + 1, 1, none⟩ = some (.int .i64 m) ∧ OG w q t k u m w')
    (first | exact OG.all (by assumption) | exact OG.all (OG.step ((Fr.refl _ _).drew) (by assumption)) | exact OG.all (OG.step (((Fr.refl _ _).alloc _).drew) (by assumption)))
    (first
    | (go_at_call 53; refine (cmp64 _ _ _).mono ?_; rintro e w' ⟨rfl, rfl⟩)
    | (go_at_call 54; refine (cmpInt _ _ _).mono ?_; rintro e w' ⟨rfl, rfl⟩)
    | (go_at_call 52; refine (or_calls _ _ _ _ (cell_at (blk_new _ _) 0) (cell_at (blk_new _ _) 1)).mono ?_; rintro e w' ⟨rfl, rfl⟩))
  all_goals
    go_wp2
    go_ret
    refine ⟨rfl, 1, #[.cells #[.int .i64 t, .int .i64 k, .int .i64 x] 65, .cells #[.int .i64 u, .int .i64 m, .int .i64 y] 65, .cells #[.int .i64 (cmpI t u), .int .i64 (cmpI k m)] 3], ?_⟩
    rw [← unhide HWA]
    exact grow3 _ _ _ _

end Go.Proofs.Ytijiackjlgpgpaa
