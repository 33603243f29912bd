/-
  What the parser's readers hand back is well formed.
-/
import Derived.Test.YtbgpboiblggmiaaGreatDoorQWfb
set_option linter.unusedVariables false
set_option linter.unusedSimpArgs false
namespace Go.Proofs.YtbgpboiblggmiaaGreatDoor
open Go.RowKit
open Px (St T D Res left)

def ExprOk (t : T) : Prop := VT t ∧ Pr.isExpr t = true
def RefOk (t : T) : Prop := VT t ∧ Pr.isRef t = true
theorem ref_up {t : T} (h : RefOk t) : ExprOk t := ⟨h.1, by
  have := h.2
  unfold Pr.isRef at this
  have hk := eq_of_beq this
  unfold Pr.isExpr
  rw [hk]
  rfl⟩
theorem lab0 : LabelOk 0 [] := .inl ⟨rfl, rfl⟩
theorem lab1 {x : Px.Str} (h : NameOk x) : LabelOk 1 x := .inr (.inl ⟨rfl, h⟩)
theorem lab2 {x : Px.Str} (h : PathOk x) : LabelOk 2 x := .inr (.inr (.inl ⟨rfl, h⟩))
theorem lab3 {x : Px.Str} (h : 0 < Px.level x) : LabelOk 3 x := .inr (.inr (.inr ⟨rfl, h⟩))
theorem zz : (0 : Int) ≤ 0 ∧ (0 : Int) ≤ 0 := ⟨z00, z00⟩

theorem er_ok : Px.ER ExprOk RefOk NameOk PathOk NumOk where
  num n o h := ⟨vt_mk ⟨lab0, lab0, h, zz, zz, .inr rfl⟩ ⟨0, fun _ => rfl, trivial⟩ vl_nil, rfl⟩
  ref x o h := ⟨vt_mk ⟨lab2 h, lab0, zz, zz, zz, .inr rfl⟩ ⟨0, fun _ => rfl, trivial⟩ vl_nil, rfl⟩
  idx x o e h he := ⟨vt_mk ⟨lab2 h, lab0, zz, zz, zz, .inr rfl⟩ ⟨0, fun _ => rfl, ⟨yes_isExpr he.2, trivial⟩⟩ (vl_cons he.1 vl_nil), rfl⟩
  up t h := ref_up h
  all k x n e o hk hx hn he := by
    rcases hk with rfl | rfl
    · exact ⟨vt_mk ⟨lab1 hx, lab0, hn, zz, zz, .inr rfl⟩ ⟨0, fun _ => rfl, ⟨yes_isExpr he.2, trivial⟩⟩ (vl_cons he.1 vl_nil), rfl⟩
    · exact ⟨vt_mk ⟨lab1 hx, lab0, hn, zz, zz, .inr rfl⟩ ⟨0, fun _ => rfl, ⟨yes_isExpr he.2, trivial⟩⟩ (vl_cons he.1 vl_nil), rfl⟩
  cond a b c o ha hb hc := ⟨vt_mk ⟨lab0, lab0, zz, zz, zz, .inr rfl⟩ ⟨0, fun _ => rfl, ⟨yes_isExpr ha.2, yes_isExpr hb.2, yes_isExpr hc.2, trivial⟩⟩ (vl_cons ha.1 (vl_cons hb.1 (vl_cons hc.1 vl_nil))), rfl⟩
  bin x a b o hx ha hb := ⟨vt_mk ⟨lab3 hx, lab0, zz, zz, zz, .inr rfl⟩ ⟨0, fun _ => rfl, ⟨yes_isExpr ha.2, yes_isExpr hb.2, trivial⟩⟩ (vl_cons ha.1 (vl_cons hb.1 vl_nil)), rfl⟩
  not a o ha := ⟨vt_mk ⟨lab0, lab0, zz, zz, zz, .inr rfl⟩ ⟨0, fun _ => rfl, ⟨yes_isExpr ha.2, trivial⟩⟩ (vl_cons ha.1 vl_nil), rfl⟩
  old a o ha := ⟨vt_mk ⟨lab0, lab0, zz, zz, zz, .inr rfl⟩ ⟨0, fun _ => rfl, ⟨yes_isRef ha.2, trivial⟩⟩ (vl_cons ha.1 vl_nil), rfl⟩
variable {E : Nat}
end Go.Proofs.YtbgpboiblggmiaaGreatDoor

