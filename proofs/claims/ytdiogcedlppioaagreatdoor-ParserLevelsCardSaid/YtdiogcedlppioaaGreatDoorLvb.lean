/-
  All pairs of binary operators: what the parser's plain functions say.
-/
import Derived.Test.YtdiogcedlppioaaGreatDoorOpb
import Derived.Test.YtdiogcedlppioaaGreatDoorBaseG
set_option linter.unusedVariables false
set_option linter.unusedSimpArgs false
namespace Go.Proofs.YtdiogcedlppioaaGreatDoor
open Go.RowKit
open Px (St T D Res)

mutual
/-- are two trees equal? -/
def eqT : T → T → Bool
  | .mk k x y n l i g kids o, .mk k' x' y' n' l' i' g' kids' o' => k == k' && x == x' && y == y' && n == n' && l == l' && i == i' && g == g' && o == o' && eqL kids kids'
def eqL : List T → List T → Bool
  | [], [] => true
  | t :: r, t' :: r' => eqT t t' && eqL r r'
  | _, _ => false
end
mutual
theorem eqT_eq : ∀ (t u : T), eqT t u = true → t = u
  | .mk k x y n l i g kids o, .mk k' x' y' n' l' i' g' kids' o', h => by
    rw [eqT] at h
    simp only [Bool.and_eq_true, beq_iff_eq] at h
    obtain ⟨⟨⟨⟨⟨⟨⟨⟨h1, h2⟩, h3⟩, h4⟩, h5⟩, h6⟩, h7⟩, h8⟩, h9⟩ := h
    rw [h1, h2, h3, h4, h5, h6, h7, h8, eqL_eq kids kids' h9]
theorem eqL_eq : ∀ (l m : List T), eqL l m = true → l = m
  | [], [], _ => rfl
  | t :: r, t' :: r', h => by
    rw [eqL] at h
    simp only [Bool.and_eq_true] at h
    rw [eqT_eq t t' h.1, eqL_eq r r' h.2]
  | [], t :: r, h => by rw [eqL] at h; exact absurd h (by decide); all_goals (intros; simp_all)
  | t :: r, [], h => by rw [eqL] at h; exact absurd h (by decide); all_goals (intros; simp_all)
end

namespace Lv
/-- the first operand -/
def first : Bool → T
  | true => .mk 4 [] [] 0 0 0 false [Hd.rf [97] 0] 0
  | false => Hd.rf [97] 0
/-- the text -/
def text (x y : Px.Str) : Bool → Px.Str
  | true => [33] ++ ((([97, 32] ++ x) ++ [32, 98, 32]) ++ y ++ [32, 99])
  | false => (([97, 32] ++ x) ++ [32, 98, 32]) ++ y ++ [32, 99]
def pos (x : Px.Str) : Bool → Int
  | true => ((([97, 32] ++ x) ++ [32, 98, 32]).length : Int) + 1
  | false => ((([97, 32] ++ x) ++ [32, 98, 32]).length : Int)
def left (p q : Nat) : Bool := !(decide (q > p) || (decide (p = 0) && decide (q = 0)))
def want (x y : Px.Str) (p q : Nat) (neg : Bool) : T :=
  match left p q with
  | true => Hd.bin y 0 (Hd.bin x 0 (first neg) (Hd.rf [98] 0)) (Hd.rf [99] 0)
  | false => Hd.bin x 0 (first neg) (Hd.bin y 0 (Hd.rf [98] 0) (Hd.rf [99] 0))
def cond (x y : Px.Str) (p q : Nat) (neg : Bool) : T := .mk 6 [] [] 0 0 0 false [want x y p q neg, Hd.rf [97] 0, Hd.rf [98] 0] 0
/-- one diagnostic of the syntax -/
def lone (l : List D) (at' : Int) : Bool :=
  match l with
  | [⟨e, o⟩] => e == 20 && o == at'
  | _ => false
theorem lone_eq {l : List D} {p : Int} (h : lone l p = true) : l = [⟨20, p⟩] := by
  match l, h with
  | [⟨e, o⟩], h =>
    simp only [lone, Bool.and_eq_true, beq_iff_eq] at h
    rw [h.1, h.2]
def small (t : T) : Bool := decide (cntT t 4000 ≤ 4000) && decide (Px.size t ≤ 900000) && nzL t.kids
def good (x y : Px.Str) (p q : Nat) (neg : Bool) : Bool :=
  match Px.parseExpr (text x y neg), Px.parseExpr (text x y neg ++ [32, 63, 32, 97, 32, 58, 32, 98]) with
  | (X, d), (Y, e) => small X && small Y && (if p = 3 ∧ q = 3 then lone d (pos x neg) && lone e (pos x neg) else d.isEmpty && e.isEmpty && eqT (stripT X) (want x y p q neg) && eqT (stripT Y) (cond x y p q neg))
def all : Bool := (List.range 13).all fun i => (List.range 13).all fun k =>
  good ((opsL 8 0).getD i []) ((opsL 8 0).getD k []) ((levL 8 0).getD i 0) ((levL 8 0).getD k 0) false && good ((opsL 8 0).getD i []) ((opsL 8 0).getD k []) ((levL 8 0).getD i 0) ((levL 8 0).getD k 0) true
set_option maxRecDepth 100000 in
theorem all_true : all = true := by kernel_rfl
end Lv
end Go.Proofs.YtdiogcedlppioaaGreatDoor
