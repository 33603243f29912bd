/-
  The reference's is, all, reference, for expressions.
-/
import Derived.Test.YtbgpboiblggmiaaGreatDoorQVrd
import Derived.Test.YtbgpboiblggmiaaGreatDoorQLva
set_option linter.unusedVariables false
set_option linter.unusedSimpArgs false
namespace Go.Proofs.YtbgpboiblggmiaaGreatDoor
open Go.RowKit
open Px (St T D Res)

mutual
/-- texts of a length that a program can hold -/
def TBt : T → Prop
  | .mk _ x y _ _ _ _ kids _ => x.length ≤ maxLen ∧ y.length ≤ maxLen ∧ TBl kids
def TBl : List T → Prop
  | [] => True
  | t :: r => TBt t ∧ TBl r
end
theorem TBt.open {t : T} (h : TBt t) : t.name.length ≤ maxLen ∧ t.other.length ≤ maxLen ∧ TBl t.kids := by cases t; rw [TBt] at h; exact h
theorem TBl.get : ∀ {l : List T} {k : Nat} {u : T}, TBl l → l[k]? = some u → TBt u
  | t :: r, 0, u, h, hu => by
    rw [TBl] at h
    simp only [List.getElem?_cons_zero, Option.some.injEq] at hu
    subst hu
    exact h.1
  | t :: r, k + 1, u, h, hu => by
    rw [TBl] at h
    exact TBl.get h.2 (by simpa using hu)
  | [], k, u, _, hu => by simp at hu
/-- Expr's contract for a tree -/
def ExprSaid (t : T) : Prop := ∀ (a : Option Addr) (cap : Nat) (w : World), RRow w.heap.size w t.kids (.slice a t.kids.length cap) → Calls Tryz.prog 65 #[nodeVal t (.slice a t.kids.length cap)] w (RB (EV t) w)

set_option maxRecDepth 100000 in
set_option maxHeartbeats 4000000 in
theorem ris_any (t : T) (h : ExprSaid t) (a : Option Addr) (cap : Nat) (w : World) (hk : RRow w.heap.size w t.kids (.slice a t.kids.length cap)) : Calls Tryz.prog 105 #[.int .i64 0, nodeVal t (.slice a t.kids.length cap)] w (RB (EV t) w) := by
  have H := Lib.hid h
  have Hk := Lib.hid hk
  clear h hk
  unfold nodeVal
  go_enter Tryz.func105, Tryz.ntmps105
  go_wp2_with fail
  obtain ⟨W, hW⟩ : ∃ W, W = w.alloc (.cells #[.int .i64 t.kind, .string ⟨t.name.toArray⟩, .string ⟨t.other.toArray⟩, .int .i64 t.n, .int .i64 t.len, .int .i64 t.init, .bool t.ghost, .slice a t.kids.length cap, .int .i64 t.off] 25) := ⟨_, rfl⟩
  have hWs : w.heap.size < W.heap.size := by rw [hW]; simp
  have Hb := Lib.hid (show Below w.heap.size w W by rw [hW]; exact (Below.refl _ _).alloc (Nat.le_refl _) _)
  have HWn := Lib.hid (show NineAt W w.heap.size 0 t (.slice a t.kids.length cap) by rw [hW]; exact NineAt.var w t _)
  have z0 : Var 25 W w.heap.size #[.int .i64 t.kind, .string ⟨t.name.toArray⟩, .string ⟨t.other.toArray⟩, .int .i64 t.n, .int .i64 t.len, .int .i64 t.init, .bool t.ghost, .slice a t.kids.length cap, .int .i64 t.off] := by rw [hW]; exact Var.new _ _ _
  have Hz := Lib.hid z0
  clear z0
  rw [← hW]
  clear hW
  obtain ⟨e0, e1, e2, e3, e4, e5, e6, e7, e8⟩ := HWn.out
  simp only [Nat.zero_add] at e0 e1 e2 e3 e4 e5 e6 e7 e8
  go_wp2_with fail
  refine (H.out a cap W ((Hk.out.below Hb.out).mono (by omega))).mono ?_
  rintro e w1 ⟨b, rfl, hb, hb1⟩
  have Hb1 := Lib.hid (Hb.out.trans (hb1.mono (by omega)))
  have Hbb := Lib.hid hb
  clear hb hb1
  go_wp2_with fail
  go_ret
  exact ⟨b, rfl, Hbb.out, Hb1.out⟩

set_option maxRecDepth 100000 in
set_option maxHeartbeats 4000000 in
theorem rall_any (t : T) (h : ∀ u ∈ t.kids, ExprSaid u) (hn : t.kids.length ≤ 900000) (a : Option Addr) (cap : Nat) (w : World) (hk : RRow w.heap.size w t.kids (.slice a t.kids.length cap)) :
    Calls Tryz.prog 64 #[nodeVal t (.slice a t.kids.length cap), .int .i64 0] w (RB (∀ u ∈ t.kids, EV u) w) := by
  have H := Lib.hid h
  have Hk := Lib.hid hk
  clear h hk
  unfold nodeVal
  go_enter Tryz.func64, Tryz.ntmps64
  go_wp2_with fail
  obtain ⟨W, hW⟩ : ∃ W, W = w.alloc (.cells #[.int .i64 t.kind, .string ⟨t.name.toArray⟩, .string ⟨t.other.toArray⟩, .int .i64 t.n, .int .i64 t.len, .int .i64 t.init, .bool t.ghost, .slice a t.kids.length cap, .int .i64 t.off] 25) := ⟨_, rfl⟩
  have hWs : w.heap.size < W.heap.size := by rw [hW]; simp
  have Hb := Lib.hid (show Below w.heap.size w W by rw [hW]; exact (Below.refl _ _).alloc (Nat.le_refl _) _)
  have HWn := Lib.hid (show NineAt W w.heap.size 0 t (.slice a t.kids.length cap) by rw [hW]; exact NineAt.var w t _)
  have z0 : Var 25 W w.heap.size #[.int .i64 t.kind, .string ⟨t.name.toArray⟩, .string ⟨t.other.toArray⟩, .int .i64 t.n, .int .i64 t.len, .int .i64 t.init, .bool t.ghost, .slice a t.kids.length cap, .int .i64 t.off] := by rw [hW]; exact Var.new _ _ _
  have Hz := Lib.hid z0
  clear z0
  rw [← hW]
  clear hW
  obtain ⟨e0, e1, e2, e3, e4, e5, e6, e7, e8⟩ := HWn.out
  simp only [Nat.zero_add] at e0 e1 e2 e3 e4 e5 e6 e7 e8
  clear e0 e1 e2 e3 e4 e5 e6 e7 e8
  go_loopw [5] (fun i wr => ∃ k : Nat, k ≤ t.kids.length ∧ i = .int .i64 k ∧ Hid (∀ (j : Nat) u, j < k → t.kids[j]? = some u → EV u) ∧ Hid (Below W.heap.size W wr)) (fun i _ => t.kids.length - (intOf i).toNat)
  case atStart => exact ⟨0, by omega, rfl, Lib.hid (fun j u h => by omega), Lib.hid (Below.refl _ _)⟩
  case round =>
    obtain ⟨k, hk', rfl, Hinv, Hbr⟩ := hrel
    obtain ⟨e0, e1, e2, e3, e4, e5, e6, e7, e8⟩ := HWn.out.below Hbr.out hWs
    simp only [Nat.zero_add] at e0 e1 e2 e3 e4 e5 e6 e7 e8
    have hs := Hbr.out.size
    by_cases hlt : k < t.kids.length
    · obtain ⟨u, hu⟩ : ∃ u, t.kids[k]? = some u := ⟨_, List.getElem?_eq_getElem hlt⟩
      obtain ⟨b1, o1, ka, kc, ha, hb1, hrow1, h9⟩ := Hk.out.get hu
      subst ha
      have hbel : Below w.heap.size w wr := Hb.out.trans (Hbr.out.mono (by omega))
      obtain ⟨d0, d1, d2, d3, d4, d5, d6, d7, d8⟩ := h9.below hbel hb1
      have hcall := ris_any u (H.out u (List.mem_of_getElem? hu)) ka kc wr ((hrow1.below hbel).mono (by omega))
      unfold nodeVal at hcall
      have Hcall := Lib.hid hcall
      have Hu := Lib.hid hu
      have hk0 : (0 : Int) ≤ (k : Int) := Int.natCast_nonneg _
      have hk1 : (k : Int) < (t.kids.length : Int) := by omega
      clear hcall hrow1 h9 hu hbel
      go_wp2_with fail
      refine Hcall.out.mono ?_
      rintro e w2 ⟨b, rfl, hb, hb2⟩
      have Hb2 := Lib.hid (Hbr.out.trans (hb2.mono hs))
      have Hbb := Lib.hid hb
      clear hb hb2 d0 d1 d2 d3 d4 d5 d6 d7 d8 e0 e1 e2 e3 e4 e5 e6 e7 e8
      cases b with
      | false =>
        go_wp2_with fail
        go_ret
        exact ⟨false, rfl, fun h => (by cases h), Hb.out.trans (Hb2.out.mono (by omega))⟩
      | true =>
        go_wp2_with fail
        go_roundw
        case rel =>
          refine ⟨k + 1, by omega, by go_num, Lib.hid (fun j v hj hv => ?_), Hb2⟩
          rcases Nat.lt_succ_iff_lt_or_eq.1 hj with h | h
          · exact Hinv.out j v h hv
          · subst h
            have := Hu.out.symm.trans hv
            cases this
            exact Hbb.out (by first | rfl | trivial)
        case measure => simp [intOf]; omega
    · obtain rfl : k = t.kids.length := by omega
      go_wp2_with fail
      go_ret
      refine ⟨true, rfl, fun _ u hu => ?_, Hb.out.trans (Hbr.out.mono (by omega))⟩
      obtain ⟨j, hj, he⟩ := List.mem_iff_getElem.1 hu
      exact Hinv.out j u hj (by rw [List.getElem?_eq_getElem hj, he])

theorem rv_of {t : T} (hk : t.kind = 2) (ho : OnlyOk [110] t) (hp : PathV t.name) (hl : t.kids.length ≤ 1) (ha : ∀ u ∈ t.kids, EV u) : RV t := by
  obtain ⟨k, x, y, n, l, i, g, kids, o⟩ := t
  have h1 : y = [] := ho.other rfl
  have h2 : g = false := ho.ghost rfl
  have h3 : n = 0 := ho.n rfl
  have h4 : l = 0 := ho.len rfl
  have h5 : i = 0 := ho.init rfl
  have hk : k = 2 := hk
  subst h1 h2 h3 h4 h5 hk
  cases kids with
  | nil => exact .ref x o hp
  | cons e r =>
    cases r with
    | nil => exact .idx x o e hp (ha e (by simp [Px.T.kids]))
    | cons e2 r => simp [Px.T.kids] at hl
set_option maxRecDepth 100000 in
set_option maxHeartbeats 4000000 in
theorem rref_any (t : T) (h : ∀ u ∈ t.kids, ExprSaid u) (hn : t.kids.length ≤ 900000) (hB : TBt t) (a : Option Addr) (cap : Nat) (w : World) (hk : RRow w.heap.size w t.kids (.slice a t.kids.length cap)) :
    Calls Tryz.prog 106 #[nodeVal t (.slice a t.kids.length cap)] w (RB (RV t) w) := by
  have H := Lib.hid h
  have Hk := Lib.hid hk
  have HB := Lib.hid hB.open.1
  have ho := ronly_name t a cap
  have hal := rall_any t h hn a cap
  unfold nodeVal at ho hal ⊢
  have Ho := Lib.hid ho
  have Hal := Lib.hid hal
  clear h hk hB ho hal
  by_cases h2 : t.kind = 2
  rotate_left
  · have c2 : (t.kind == 2) = false := beq_eq_false_iff_ne.2 h2
    go_enter Tryz.func106, Tryz.ntmps106
    go_wp2_with fail
    go_ret
    exact ⟨false, rfl, fun h => (by cases h), (Below.refl _ _).alloc (Nat.le_refl _) _⟩
  have c2 : (t.kind == 2) = true := by rw [h2]; rfl
  have H2 := Lib.hid h2
  clear h2
  go_enter Tryz.func106, Tryz.ntmps106
  go_wp2_with fail
  obtain ⟨W, hW⟩ : ∃ W, W = w.alloc (.cells #[.int .i64 t.kind, .string ⟨t.name.toArray⟩, .string ⟨t.other.toArray⟩, .int .i64 t.n, .int .i64 t.len, .int .i64 t.init, .bool t.ghost, .slice a t.kids.length cap, .int .i64 t.off] 25) := ⟨_, rfl⟩
  have hWs : w.heap.size < W.heap.size := by rw [hW]; simp
  have Hb := Lib.hid (show Below w.heap.size w W by rw [hW]; exact (Below.refl _ _).alloc (Nat.le_refl _) _)
  have HWn := Lib.hid (show NineAt W w.heap.size 0 t (.slice a t.kids.length cap) by rw [hW]; exact NineAt.var w t _)
  have z0 : Var 25 W w.heap.size #[.int .i64 t.kind, .string ⟨t.name.toArray⟩, .string ⟨t.other.toArray⟩, .int .i64 t.n, .int .i64 t.len, .int .i64 t.init, .bool t.ghost, .slice a t.kids.length cap, .int .i64 t.off] := by rw [hW]; exact Var.new _ _ _
  have Hz := Lib.hid z0
  clear z0
  rw [← hW]
  clear hW
  obtain ⟨e0, e1, e2, e3, e4, e5, e6, e7, e8⟩ := HWn.out
  simp only [Nat.zero_add] at e0 e1 e2 e3 e4 e5 e6 e7 e8
  go_wp2_with fail
  refine (Ho.out W).mono ?_
  rintro e w1 ⟨b, rfl, hb, hb1⟩
  have hq0 : Below w.heap.size w W := by first | exact Hb.out | exact Hb1.out | exact Hb2.out | exact Hb3.out | exact Hb4.out
  have hq : Below w.heap.size w w1 := hq0.trans (hb1.mono hq0.size)
  have Hb1 := Lib.hid hq
  have hws1 : w.heap.size < w1.heap.size := Nat.lt_of_lt_of_le (show w.heap.size < (W).heap.size by first | exact hWs | assumption) hb1.size
  have Hn1 := Lib.hid (show NineAt w1 w.heap.size 0 t (.slice a t.kids.length cap) by first | exact HWn.out.below hb1 hWs | exact Hn1.out.below hb1 hws1 | exact Hn2.out.below hb1 hws2 | exact Hn3.out.below hb1 hws3)
  have Hbb := Lib.hid hb
  clear hb hb1 hq hq0 e0 e1 e2 e3 e4 e5 e6 e7 e8
  obtain ⟨e0, e1, e2, e3, e4, e5, e6, e7, e8⟩ := Hn1.out
  simp only [Nat.zero_add] at e0 e1 e2 e3 e4 e5 e6 e7 e8
  cases b with
  | false =>
    go_wp2_with fail
    go_ret
    exact ⟨false, rfl, fun h => (by cases h), Hb1.out⟩
  | true =>
  have Hb9 := Lib.hid (Hbb.out (by first | rfl | trivial))
  clear Hbb
  go_wp2_with fail
  refine (rpath_any t.name w1 HB.out).mono ?_
  rintro e w2 ⟨b, rfl, hb, hb1⟩
  have hq0 : Below w.heap.size w w1 := by first | exact Hb.out | exact Hb1.out | exact Hb2.out | exact Hb3.out | exact Hb4.out
  have hq : Below w.heap.size w w2 := hq0.trans (hb1.mono hq0.size)
  have Hb2 := Lib.hid hq
  have hws2 : w.heap.size < w2.heap.size := Nat.lt_of_lt_of_le (show w.heap.size < (w1).heap.size by first | exact hWs | assumption) hb1.size
  have Hn2 := Lib.hid (show NineAt w2 w.heap.size 0 t (.slice a t.kids.length cap) by first | exact HWn.out.below hb1 hWs | exact Hn1.out.below hb1 hws1 | exact Hn2.out.below hb1 hws2 | exact Hn3.out.below hb1 hws3)
  have Hbb := Lib.hid hb
  clear hb hb1 hq hq0 e0 e1 e2 e3 e4 e5 e6 e7 e8
  obtain ⟨e0, e1, e2, e3, e4, e5, e6, e7, e8⟩ := Hn2.out
  simp only [Nat.zero_add] at e0 e1 e2 e3 e4 e5 e6 e7 e8
  cases b with
  | false =>
    go_wp2_with fail
    go_ret
    exact ⟨false, rfl, fun h => (by cases h), Hb2.out⟩
  | true =>
  have Hb8 := Lib.hid (Hbb.out (by first | rfl | trivial))
  clear Hbb
  by_cases hl : t.kids.length ≤ 1
  rotate_left
  · have cl : decide ((t.kids.length : Int) ≤ 1) = false := decide_eq_false (by omega)
    go_wp2_with fail
    go_ret
    exact ⟨false, rfl, fun h => (by cases h), Hb2.out⟩
  have cl : decide ((t.kids.length : Int) ≤ 1) = true := decide_eq_true (by omega)
  have hrw := (Hk.out.below Hb2.out).mono (N' := w2.heap.size) Hb2.out.size
  have Hrw := Lib.hid hrw
  clear hrw
  go_wp2_with fail
  refine (Hal.out w2 Hrw.out).mono ?_
  rintro e w3 ⟨b, rfl, hb, hb1⟩
  have Hb3 := Lib.hid (Hb2.out.trans (hb1.mono Hb2.out.size))
  have Hbb := Lib.hid hb
  clear hb hb1
  go_wp2_with fail
  go_ret
  exact ⟨b, rfl, fun hb => rv_of H2.out Hb9.out Hb8.out hl (Hbb.out hb), Hb3.out⟩
end Go.Proofs.YtbgpboiblggmiaaGreatDoor

