/-
  A deque told plainly: its words, its threads, what each access does. Of no program.
-/
import Derived.WalkKit
namespace Go.Proofs.Ytingpopcdihclaa
set_option linter.unusedVariables false

/-- what a thread has under way: which access comes next (0: nothing), what it knows -/
structure Rn where
  pc : Nat
  v : Int
  t : Int
  b : Int
  won : Bool

structure Dq where
  top : Int
  bot : Int
  pl : Nat → Int
  th : Nat → Rn

/-- what a step came to -/
structure Dn where
  over : Bool
  op : Int
  v : Int
  err : Int

def Rn.zero : Rn := ⟨0, 0, 0, 0, false⟩
def Dn.none : Dn := ⟨false, 0, 0, 0⟩
def Dq.set (d : Dq) (k : Nat) (r : Rn) : Dq := { d with th := fun i => if i = k then r else d.th i }
def Dq.lay (d : Dq) (i : Nat) (x : Int) : Dq := { d with pl := fun j => if j = i then x else d.pl j }
def Dq.wtop (d : Dq) (x : Int) : Dq := { d with top := x }
def Dq.wbot (d : Dq) (x : Int) : Dq := { d with bot := x }
/-- the place of a number -/
def ix (S : Nat) (n : Int) : Nat := (n % (S : Int)).toNat

theorem ix_lt {S : Nat} (hS : 0 < S) (n : Int) : ix S n < S := by
  unfold ix
  have h1 := Int.emod_nonneg n (show (S : Int) ≠ 0 by omega)
  have h2 := Int.emod_lt_of_pos n (show (0 : Int) < S by omega)
  omega

theorem ix_eq {S : Nat} (hS : 0 < S) (n : Int) : ((ix S n : Nat) : Int) = n % (S : Int) := by
  unfold ix
  have h1 := Int.emod_nonneg n (show (S : Int) ≠ 0 by omega)
  omega

theorem set_top (d : Dq) (k : Nat) (r : Rn) : (d.set k r).top = d.top := rfl
theorem set_bot (d : Dq) (k : Nat) (r : Rn) : (d.set k r).bot = d.bot := rfl
theorem set_pl (d : Dq) (k : Nat) (r : Rn) : (d.set k r).pl = d.pl := rfl
theorem set_th (d : Dq) (k : Nat) (r : Rn) : (d.set k r).th k = r := by simp [Dq.set]
theorem set_ne (d : Dq) {k i : Nat} (r : Rn) (h : i ≠ k) : (d.set k r).th i = d.th i := by simp [Dq.set, h]
theorem set_set (d : Dq) (k : Nat) (r s : Rn) : (d.set k r).set k s = d.set k s := by
  unfold Dq.set; congr 1; funext i; by_cases h : i = k <;> simp [h]
theorem wtop_th (d : Dq) (x : Int) : (d.wtop x).th = d.th := rfl
theorem wbot_th (d : Dq) (x : Int) : (d.wbot x).th = d.th := rfl
theorem lay_th (d : Dq) (i : Nat) (x : Int) : (d.lay i x).th = d.th := rfl
theorem wtop_top (d : Dq) (x : Int) : (d.wtop x).top = x := rfl
theorem wtop_bot (d : Dq) (x : Int) : (d.wtop x).bot = d.bot := rfl
theorem wtop_pl (d : Dq) (x : Int) : (d.wtop x).pl = d.pl := rfl
theorem wbot_top (d : Dq) (x : Int) : (d.wbot x).top = d.top := rfl
theorem wbot_bot (d : Dq) (x : Int) : (d.wbot x).bot = x := rfl
theorem wbot_pl (d : Dq) (x : Int) : (d.wbot x).pl = d.pl := rfl
theorem lay_top (d : Dq) (i : Nat) (x : Int) : (d.lay i x).top = d.top := rfl
theorem lay_bot (d : Dq) (i : Nat) (x : Int) : (d.lay i x).bot = d.bot := rfl

theorem set_lay (d : Dq) (k : Nat) (r : Rn) (i : Nat) (x : Int) : (d.set k r).lay i x = (d.lay i x).set k r := rfl
theorem set_wbot (d : Dq) (k : Nat) (r : Rn) (x : Int) : (d.set k r).wbot x = (d.wbot x).set k r := rfl
theorem set_wtop (d : Dq) (k : Nat) (r : Rn) (x : Int) : (d.set k r).wtop x = (d.wtop x).set k r := rfl

/-- a thread's next access -/
def goOn (d : Dq) (k : Nat) (r : Rn) (pc : Nat) : Dq × Dn := (d.set k { r with pc := pc }, Dn.none)
def fin (d : Dq) (k : Nat) (op v err : Int) : Dq × Dn := (d.set k Rn.zero, ⟨true, op, v, err⟩)

def stp (S : Nat) (d : Dq) (k : Nat) : Dq × Dn :=
  let r := d.th k
  match r.pc with
  | 1 => goOn d k { r with b := d.bot } 2
  | 2 => if (S : Int) ≤ r.b - d.top then fin d k 0 r.v 7 else goOn d k r 3
  | 3 => goOn (d.lay (ix S r.b) r.v) k r 4
  | 4 => fin (d.wbot (r.b + 1)) k 0 r.v 0
  | 5 => goOn d k { r with b := d.bot - 1 } 6
  | 6 => goOn (d.wbot r.b) k r 7
  | 7 => if r.b < d.top then goOn d k { r with t := d.top } 10 else goOn d k { r with t := d.top } 8
  | 8 => if r.t < r.b then fin d k 1 (d.pl (ix S r.b)) 0 else goOn d k { r with v := d.pl (ix S r.b) } 9
  | 9 => if d.top = r.t then goOn (d.wtop (d.top + 1)) k { r with won := true } 10 else goOn d k { r with won := false } 10
  | 10 => if r.won = true then fin (d.wbot (r.b + 1)) k 1 r.v 0 else fin (d.wbot (r.b + 1)) k 1 0 8
  | 11 => goOn d k { r with t := d.top } 12
  | 12 => if d.bot ≤ r.t then fin d k 2 0 8 else goOn d k r 13
  | 13 => goOn d k { r with v := d.pl (ix S r.t) } 14
  | _ => if d.top = r.t then fin (d.wtop (d.top + 1)) k 2 r.v 0 else fin d k 2 0 17

section
variable (S : Nat) (d : Dq) (k : Nat)
theorem stp_1 (hp : (d.th k).pc = 1) : stp S d k = goOn d k { d.th k with b := d.bot } 2 := by unfold stp; simp only [hp]
theorem stp_2 (hp : (d.th k).pc = 2) : stp S d k = if (S : Int) ≤ (d.th k).b - d.top then fin d k 0 (d.th k).v 7 else goOn d k (d.th k) 3 := by unfold stp; simp only [hp]
theorem stp_3 (hp : (d.th k).pc = 3) : stp S d k = goOn (d.lay (ix S (d.th k).b) (d.th k).v) k (d.th k) 4 := by unfold stp; simp only [hp]
theorem stp_4 (hp : (d.th k).pc = 4) : stp S d k = fin (d.wbot ((d.th k).b + 1)) k 0 (d.th k).v 0 := by unfold stp; simp only [hp]
theorem stp_5 (hp : (d.th k).pc = 5) : stp S d k = goOn d k { d.th k with b := d.bot - 1 } 6 := by unfold stp; simp only [hp]
theorem stp_6 (hp : (d.th k).pc = 6) : stp S d k = goOn (d.wbot (d.th k).b) k (d.th k) 7 := by unfold stp; simp only [hp]
theorem stp_7 (hp : (d.th k).pc = 7) : stp S d k = if (d.th k).b < d.top then goOn d k { d.th k with t := d.top } 10 else goOn d k { d.th k with t := d.top } 8 := by unfold stp; simp only [hp]
theorem stp_8 (hp : (d.th k).pc = 8) : stp S d k = if (d.th k).t < (d.th k).b then fin d k 1 (d.pl (ix S (d.th k).b)) 0 else goOn d k { d.th k with v := d.pl (ix S (d.th k).b) } 9 := by unfold stp; simp only [hp]
theorem stp_9 (hp : (d.th k).pc = 9) : stp S d k = if d.top = (d.th k).t then goOn (d.wtop (d.top + 1)) k { d.th k with won := true } 10 else goOn d k { d.th k with won := false } 10 := by unfold stp; simp only [hp]
theorem stp_10 (hp : (d.th k).pc = 10) : stp S d k = if (d.th k).won = true then fin (d.wbot ((d.th k).b + 1)) k 1 (d.th k).v 0 else fin (d.wbot ((d.th k).b + 1)) k 1 0 8 := by unfold stp; simp only [hp]
theorem stp_11 (hp : (d.th k).pc = 11) : stp S d k = goOn d k { d.th k with t := d.top } 12 := by unfold stp; simp only [hp]
theorem stp_12 (hp : (d.th k).pc = 12) : stp S d k = if d.bot ≤ (d.th k).t then fin d k 2 0 8 else goOn d k (d.th k) 13 := by unfold stp; simp only [hp]
theorem stp_13 (hp : (d.th k).pc = 13) : stp S d k = goOn d k { d.th k with v := d.pl (ix S (d.th k).t) } 14 := by unfold stp; simp only [hp]
theorem stp_14 (hp : (d.th k).pc = 14) : stp S d k = if d.top = (d.th k).t then fin (d.wtop (d.top + 1)) k 2 (d.th k).v 0 else fin d k 2 0 17 := by unfold stp; simp only [hp]
end

end Go.Proofs.Ytingpopcdihclaa
