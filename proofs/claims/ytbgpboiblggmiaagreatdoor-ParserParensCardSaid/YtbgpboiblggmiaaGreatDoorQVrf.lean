/-
  The reference's Expr, Formed, Valid.
-/
import Derived.Test.YtbgpboiblggmiaaGreatDoorQVre
import Derived.Test.YtbgpboiblggmiaaGreatDoorQFwa
import Derived.Deep.QuietTactic
import Derived.BigQuiet
set_option linter.unusedVariables false
set_option linter.unusedSimpArgs false
namespace Go.Proofs.YtbgpboiblggmiaaGreatDoor
open Go.RowKit
open Px (St T D Res)

theorem num_of {t : T} (hk : t.kind = 1) (ho : OnlyOk [35] t) (hl : t.kids.length = 0) : EV t := by
  obtain ⟨k, x, y, n, l, i, g, kids, o⟩ := t
  have h0 : x = [] := ho.name rfl
  have h1 : y = [] := ho.other rfl
  have h2 : g = false := ho.ghost rfl
  have h4 : l = 0 := ho.len rfl
  have h5 : i = 0 := ho.init rfl
  have hk : k = 1 := hk
  have hkids : kids = [] := List.length_eq_zero_iff.1 hl
  subst h0 h1 h2 h4 h5 hk hkids
  exact .num n o ho.rn
theorem plain_of {t : T} (ho : OnlyOk [] t) : ∃ o, t = .mk t.kind [] [] 0 0 0 false t.kids o := by
  obtain ⟨k, x, y, n, l, i, g, kids, o⟩ := t
  have h0 : x = [] := ho.name rfl
  have h1 : y = [] := ho.other rfl
  have h2 : g = false := ho.ghost rfl
  have h3 : n = 0 := ho.n rfl
  have h4 : l = 0 := ho.len rfl
  have h5 : i = 0 := ho.init rfl
  subst h0 h1 h2 h3 h4 h5
  exact ⟨o, rfl⟩
theorem one_kid {l : List T} (h : l.length = 1) : ∃ a, l = [a] := List.length_eq_one_iff.1 h
theorem not_of {t : T} (hk : t.kind = 4) (ho : OnlyOk [] t) (hl : t.kids.length = 1) (ha : ∀ u ∈ t.kids, EV u) : EV t := by
  obtain ⟨o, he⟩ := plain_of ho
  obtain ⟨a, h1⟩ := one_kid hl
  rw [hk, h1] at he
  rw [he]
  exact .not a o (ha a (by rw [h1]; simp))
theorem old_of {t : T} {a : T} (hk : t.kind = 3) (ho : OnlyOk [] t) (h1 : t.kids = [a]) (ha : RV a) : EV t := by
  obtain ⟨o, he⟩ := plain_of ho
  rw [hk, h1] at he
  rw [he]
  exact .old a o ha
theorem cond_of {t : T} (hk : t.kind = 6) (ho : OnlyOk [] t) (hl : t.kids.length = 3) (ha : ∀ u ∈ t.kids, EV u) : EV t := by
  obtain ⟨o, he⟩ := plain_of ho
  obtain ⟨a, b, c, h1⟩ : ∃ a b c, t.kids = [a, b, c] := by
    match hq : t.kids, hl with
    | [a, b, c], _ => exact ⟨a, b, c, rfl⟩
  rw [hk, h1] at he
  rw [he]
  exact .cond a b c o (ha a (by rw [h1]; simp)) (ha b (by rw [h1]; simp)) (ha c (by rw [h1]; simp))
theorem bin_of {t : T} (hk : t.kind = 5) (hx : 0 < Px.level t.name) (ho : OnlyOk [110] t) (hl : t.kids.length = 2) (ha : ∀ u ∈ t.kids, EV u) : EV t := by
  obtain ⟨k, x, y, n, l, i, g, kids, o⟩ := t
  have h1 : y = [] := ho.other rfl
  have h2 : g = false := ho.ghost rfl
  have h3 : n = 0 := ho.n rfl
  have h4 : l = 0 := ho.len rfl
  have h5 : i = 0 := ho.init rfl
  have hk : k = 5 := hk
  subst h1 h2 h3 h4 h5 hk
  match kids, hl, ha with
  | [a, b], _, ha => exact .bin x a b o hx (ha a (by simp [Px.T.kids])) (ha b (by simp [Px.T.kids]))
theorem all_of {t : T} (hk : t.kind = 7 ∨ t.kind = 8) (ho : OnlyOk [110, 35] t) (hx : NameOk t.name) (hl : t.kids.length = 1) (ha : ∀ u ∈ t.kids, EV u) : EV t := by
  obtain ⟨k, x, y, n, l, i, g, kids, o⟩ := t
  have h1 : y = [] := ho.other rfl
  have h2 : g = false := ho.ghost rfl
  have h4 : l = 0 := ho.len rfl
  have h5 : i = 0 := ho.init rfl
  subst h1 h2 h4 h5
  obtain ⟨a, h9⟩ := one_kid hl
  have h9 : kids = [a] := h9
  subst h9
  exact .all k x n a o hk hx ho.rn (ha a (by simp [Px.T.kids]))
theorem lvls_at {i : Nat} (h : i < 8) : ∃ l, lvls[i]? = some l := ⟨_, List.getElem?_eq_getElem (by simpa [lvls] using h)⟩
theorem lvl_pos : ∀ (i : Nat) l (k : Nat) x, lvls[i]? = some l → l[k]? = some x → 0 < Px.level x := by
  intro i l k x hl hx
  have h1 : ∀ l ∈ lvls, ∀ x ∈ l, 0 < Px.level x := by decide
  exact h1 l (List.mem_of_getElem? hl) x (List.mem_of_getElem? hx)
theorem lvl_len : ∀ (i : Nat) l, lvls[i]? = some l → l.length ≤ 4 := by
  intro i l hl
  have h1 : ∀ l ∈ lvls, l.length ≤ 4 := by decide
  exact h1 l (List.mem_of_getElem? hl)

set_option maxRecDepth 100000 in
set_option maxHeartbeats 400000 in
theorem rexpr_1 (t : T) (hq : Px.size t ≤ 900000) (hB : TBt t) (hkid : ∀ u ∈ t.kids, ExprSaid u) (hgrand : ∀ u ∈ t.kids, ∀ v ∈ u.kids, ExprSaid v) (hs9 : t.kids.length ≤ 900000 ∧ (∀ u ∈ t.kids, u.kids.length ≤ 900000)) (h2 : t.kind = 1) : ExprSaid t := by
  intro a cap w hk
  have ho1 := ronly_num t a cap
  have ho2 := ronly_name t a cap
  have ho3 := ronly_none t a cap
  have ho4 := ronly_both t a cap
  have hal := rall_any t hkid hs9.1 a cap
  have hre := rref_any t hkid hs9.1 hB a cap
  unfold nodeVal at ho1 ho2 ho3 ho4 hal hre ⊢
  have Ho1 := Lib.hid ho1
  have Ho2 := Lib.hid ho2
  have Ho3 := Lib.hid ho3
  have Ho4 := Lib.hid ho4
  have Hal := Lib.hid hal
  have Hre := Lib.hid hre
  have Hk := Lib.hid hk
  have HB := Lib.hid hB
  have Hgr := Lib.hid hgrand
  have Hs9 := Lib.hid hs9
  clear hB hs9 hkid hgrand hk ho1 ho2 ho3 ho4 hal hre hq
  have c1 : (t.kind == 1) = true := by rw [h2]; rfl
  have H2 := Lib.hid h2
  clear h2
  go_enter Tryz.func65, Tryz.ntmps65
  go_wp2_with fail
  obtain ⟨W, hW⟩ : ∃ W, W = w.alloc (.cells #[.int .i64 t.kind, .string ⟨t.name.toArray⟩, .string ⟨t.other.toArray⟩, .int .i64 t.n, .int .i64 t.len, .int .i64 t.init, .bool t.ghost, .slice a t.kids.length cap, .int .i64 t.off] 25) := ⟨_, rfl⟩
  have hWs : w.heap.size < W.heap.size := by rw [hW]; simp
  have Hb := Lib.hid (show Below w.heap.size w W by rw [hW]; exact (Below.refl _ _).alloc (Nat.le_refl _) _)
  have HWn := Lib.hid (show NineAt W w.heap.size 0 t (.slice a t.kids.length cap) by rw [hW]; exact NineAt.var w t _)
  have z0 : Var 25 W w.heap.size #[.int .i64 t.kind, .string ⟨t.name.toArray⟩, .string ⟨t.other.toArray⟩, .int .i64 t.n, .int .i64 t.len, .int .i64 t.init, .bool t.ghost, .slice a t.kids.length cap, .int .i64 t.off] := by rw [hW]; exact Var.new _ _ _
  have Hz := Lib.hid z0
  clear z0
  rw [← hW]
  clear hW
  obtain ⟨e0, e1, e2, e3, e4, e5, e6, e7, e8⟩ := HWn.out
  simp only [Nat.zero_add] at e0 e1 e2 e3 e4 e5 e6 e7 e8
  go_wp2_with fail
  refine (Ho1.out W).mono ?_
  rintro e w1 ⟨b, rfl, hb, hb1⟩
  have hq0 : Below w.heap.size w W := by first | exact Hb.out | exact Hb1.out | exact Hb2.out | exact Hb3.out | exact Hb4.out
  have hq : Below w.heap.size w w1 := hq0.trans (hb1.mono hq0.size)
  have Hb1 := Lib.hid hq
  have hws1 : w.heap.size < w1.heap.size := Nat.lt_of_lt_of_le (show w.heap.size < (W).heap.size by first | exact hWs | assumption) hb1.size
  have Hn1 := Lib.hid (show NineAt w1 w.heap.size 0 t (.slice a t.kids.length cap) by first | exact HWn.out.below hb1 hWs | exact Hn1.out.below hb1 hws1 | exact Hn2.out.below hb1 hws2 | exact Hn3.out.below hb1 hws3)
  have Hbb := Lib.hid hb
  clear hb hb1 hq hq0 e0 e1 e2 e3 e4 e5 e6 e7 e8
  obtain ⟨e0, e1, e2, e3, e4, e5, e6, e7, e8⟩ := Hn1.out
  simp only [Nat.zero_add] at e0 e1 e2 e3 e4 e5 e6 e7 e8
  cases b with
  | false =>
    go_wp2_with fail
    go_ret
    exact ⟨false, rfl, fun h => (by cases h), Hb1.out⟩
  | true =>
  have Hb9 := Lib.hid (Hbb.out (by first | rfl | trivial))
  clear Hbb
  by_cases hl : t.kids.length = 0
  · have cl : ((t.kids.length : Int) == 0) = true := by rw [hl]; rfl
    go_wp2_with fail
    go_ret
    exact ⟨true, rfl, fun _ => num_of H2.out Hb9.out hl, Hb1.out⟩
  · have cl : ((t.kids.length : Int) == 0) = false := beq_eq_false_iff_ne.2 (by omega)
    go_wp2_with fail
    go_ret
    exact ⟨false, rfl, fun h => (by cases h), Hb1.out⟩
set_option maxRecDepth 100000 in
set_option maxHeartbeats 400000 in
theorem rexpr_2 (t : T) (hq : Px.size t ≤ 900000) (hB : TBt t) (hkid : ∀ u ∈ t.kids, ExprSaid u) (hgrand : ∀ u ∈ t.kids, ∀ v ∈ u.kids, ExprSaid v) (hs9 : t.kids.length ≤ 900000 ∧ (∀ u ∈ t.kids, u.kids.length ≤ 900000)) (h2 : t.kind = 2) : ExprSaid t := by
  intro a cap w hk
  have ho1 := ronly_num t a cap
  have ho2 := ronly_name t a cap
  have ho3 := ronly_none t a cap
  have ho4 := ronly_both t a cap
  have hal := rall_any t hkid hs9.1 a cap
  have hre := rref_any t hkid hs9.1 hB a cap
  unfold nodeVal at ho1 ho2 ho3 ho4 hal hre ⊢
  have Ho1 := Lib.hid ho1
  have Ho2 := Lib.hid ho2
  have Ho3 := Lib.hid ho3
  have Ho4 := Lib.hid ho4
  have Hal := Lib.hid hal
  have Hre := Lib.hid hre
  have Hk := Lib.hid hk
  have HB := Lib.hid hB
  have Hgr := Lib.hid hgrand
  have Hs9 := Lib.hid hs9
  clear hB hs9 hkid hgrand hk ho1 ho2 ho3 ho4 hal hre hq
  have c1 : (t.kind == 1) = false := beq_eq_false_iff_ne.2 (by omega)
  have c2 : (t.kind == 2) = true := by rw [h2]; rfl
  have H2 := Lib.hid h2
  clear h2
  go_enter Tryz.func65, Tryz.ntmps65
  go_wp2_with fail
  obtain ⟨W, hW⟩ : ∃ W, W = w.alloc (.cells #[.int .i64 t.kind, .string ⟨t.name.toArray⟩, .string ⟨t.other.toArray⟩, .int .i64 t.n, .int .i64 t.len, .int .i64 t.init, .bool t.ghost, .slice a t.kids.length cap, .int .i64 t.off] 25) := ⟨_, rfl⟩
  have hWs : w.heap.size < W.heap.size := by rw [hW]; simp
  have Hb := Lib.hid (show Below w.heap.size w W by rw [hW]; exact (Below.refl _ _).alloc (Nat.le_refl _) _)
  have HWn := Lib.hid (show NineAt W w.heap.size 0 t (.slice a t.kids.length cap) by rw [hW]; exact NineAt.var w t _)
  have z0 : Var 25 W w.heap.size #[.int .i64 t.kind, .string ⟨t.name.toArray⟩, .string ⟨t.other.toArray⟩, .int .i64 t.n, .int .i64 t.len, .int .i64 t.init, .bool t.ghost, .slice a t.kids.length cap, .int .i64 t.off] := by rw [hW]; exact Var.new _ _ _
  have Hz := Lib.hid z0
  clear z0
  rw [← hW]
  clear hW
  obtain ⟨e0, e1, e2, e3, e4, e5, e6, e7, e8⟩ := HWn.out
  simp only [Nat.zero_add] at e0 e1 e2 e3 e4 e5 e6 e7 e8
  have hrw := (Hk.out.below Hb.out).mono (N' := W.heap.size) Hb.out.size
  have Hrw := Lib.hid hrw
  clear hrw
  go_wp2_with fail
  refine (Hre.out W Hrw.out).mono ?_
  rintro e w5 ⟨b, rfl, hb, hb1⟩
  have Hb5 := Lib.hid (Hb.out.trans (hb1.mono Hb.out.size))
  have Hbb := Lib.hid hb
  clear hb hb1
  go_wp2_with fail
  go_ret
  exact ⟨b, rfl, fun hb => .up t (Hbb.out hb), Hb5.out⟩
set_option maxRecDepth 100000 in
set_option maxHeartbeats 400000 in
theorem rexpr_3 (t : T) (hq : Px.size t ≤ 900000) (hB : TBt t) (hkid : ∀ u ∈ t.kids, ExprSaid u) (hgrand : ∀ u ∈ t.kids, ∀ v ∈ u.kids, ExprSaid v) (hs9 : t.kids.length ≤ 900000 ∧ (∀ u ∈ t.kids, u.kids.length ≤ 900000)) (h2 : t.kind = 3) : ExprSaid t := by
  intro a cap w hk
  have ho1 := ronly_num t a cap
  have ho2 := ronly_name t a cap
  have ho3 := ronly_none t a cap
  have ho4 := ronly_both t a cap
  have hal := rall_any t hkid hs9.1 a cap
  have hre := rref_any t hkid hs9.1 hB a cap
  unfold nodeVal at ho1 ho2 ho3 ho4 hal hre ⊢
  have Ho1 := Lib.hid ho1
  have Ho2 := Lib.hid ho2
  have Ho3 := Lib.hid ho3
  have Ho4 := Lib.hid ho4
  have Hal := Lib.hid hal
  have Hre := Lib.hid hre
  have Hk := Lib.hid hk
  have HB := Lib.hid hB
  have Hgr := Lib.hid hgrand
  have Hs9 := Lib.hid hs9
  clear hB hs9 hkid hgrand hk ho1 ho2 ho3 ho4 hal hre hq
  have c1 : (t.kind == 1) = false := beq_eq_false_iff_ne.2 (by omega)
  have c2 : (t.kind == 2) = false := beq_eq_false_iff_ne.2 (by omega)
  have c3 : (t.kind == 3) = true := by rw [h2]; rfl
  have H2 := Lib.hid h2
  clear h2
  go_enter Tryz.func65, Tryz.ntmps65
  go_wp2_with fail
  obtain ⟨W, hW⟩ : ∃ W, W = w.alloc (.cells #[.int .i64 t.kind, .string ⟨t.name.toArray⟩, .string ⟨t.other.toArray⟩, .int .i64 t.n, .int .i64 t.len, .int .i64 t.init, .bool t.ghost, .slice a t.kids.length cap, .int .i64 t.off] 25) := ⟨_, rfl⟩
  have hWs : w.heap.size < W.heap.size := by rw [hW]; simp
  have Hb := Lib.hid (show Below w.heap.size w W by rw [hW]; exact (Below.refl _ _).alloc (Nat.le_refl _) _)
  have HWn := Lib.hid (show NineAt W w.heap.size 0 t (.slice a t.kids.length cap) by rw [hW]; exact NineAt.var w t _)
  have z0 : Var 25 W w.heap.size #[.int .i64 t.kind, .string ⟨t.name.toArray⟩, .string ⟨t.other.toArray⟩, .int .i64 t.n, .int .i64 t.len, .int .i64 t.init, .bool t.ghost, .slice a t.kids.length cap, .int .i64 t.off] := by rw [hW]; exact Var.new _ _ _
  have Hz := Lib.hid z0
  clear z0
  rw [← hW]
  clear hW
  obtain ⟨e0, e1, e2, e3, e4, e5, e6, e7, e8⟩ := HWn.out
  simp only [Nat.zero_add] at e0 e1 e2 e3 e4 e5 e6 e7 e8
  go_wp2_with fail
  refine (Ho3.out W).mono ?_
  rintro e w1 ⟨b, rfl, hb, hb1⟩
  have hq0 : Below w.heap.size w W := by first | exact Hb.out | exact Hb1.out | exact Hb2.out | exact Hb3.out | exact Hb4.out
  have hq : Below w.heap.size w w1 := hq0.trans (hb1.mono hq0.size)
  have Hb1 := Lib.hid hq
  have hws1 : w.heap.size < w1.heap.size := Nat.lt_of_lt_of_le (show w.heap.size < (W).heap.size by first | exact hWs | assumption) hb1.size
  have Hn1 := Lib.hid (show NineAt w1 w.heap.size 0 t (.slice a t.kids.length cap) by first | exact HWn.out.below hb1 hWs | exact Hn1.out.below hb1 hws1 | exact Hn2.out.below hb1 hws2 | exact Hn3.out.below hb1 hws3)
  have Hbb := Lib.hid hb
  clear hb hb1 hq hq0 e0 e1 e2 e3 e4 e5 e6 e7 e8
  obtain ⟨e0, e1, e2, e3, e4, e5, e6, e7, e8⟩ := Hn1.out
  simp only [Nat.zero_add] at e0 e1 e2 e3 e4 e5 e6 e7 e8
  cases b with
  | false =>
    go_wp2_with fail
    go_ret
    exact ⟨false, rfl, fun h => (by cases h), Hb1.out⟩
  | true =>
  have Hb9 := Lib.hid (Hbb.out (by first | rfl | trivial))
  clear Hbb
  by_cases hl : t.kids.length = 1
  rotate_left
  · have cl : ((t.kids.length : Int) == 1) = false := beq_eq_false_iff_ne.2 (by omega)
    go_wp2_with fail
    go_ret
    exact ⟨false, rfl, fun h => (by cases h), Hb1.out⟩
  have cl : ((t.kids.length : Int) == 1) = true := by rw [hl]; rfl
  obtain ⟨u, hu⟩ := one_kid hl
  obtain ⟨b1, o1, ka, kc, ha, hb1, hrow1, h9⟩ := Hk.out.get (k := 0) (t := u) (by rw [hu]; rfl)
  subst ha
  obtain ⟨d0, d1, d2, d3, d4, d5, d6, d7, d8⟩ := h9.below Hb1.out hb1
  simp only [Nat.zero_mul, Nat.add_zero] at d0 d1 d2 d3 d4 d5 d6 d7 d8
  have hcall := rref_any u (Hgr.out u (by rw [hu]; simp)) (Hs9.out.2 u (by rw [hu]; simp)) (TBl.get HB.out.open.2.2 (k := 0) (by rw [hu]; rfl)) ka kc w1 ((hrow1.below Hb1.out).mono (by omega))
  unfold nodeVal at hcall
  have Hcall := Lib.hid hcall
  have Hu := Lib.hid hu
  have hk1 : (0 : Int) < (t.kids.length : Int) := by omega
  clear hcall hrow1 h9 hu
  go_wp2_with fail
  refine Hcall.out.mono ?_
  rintro e w5 ⟨b, rfl, hb, hb1⟩
  have Hb5 := Lib.hid (Hb1.out.trans (hb1.mono Hb1.out.size))
  have Hbb := Lib.hid hb
  clear hb hb1
  go_wp2_with fail
  go_ret
  exact ⟨b, rfl, fun hb => old_of H2.out Hb9.out Hu.out (Hbb.out hb), Hb5.out⟩
set_option maxRecDepth 100000 in
set_option maxHeartbeats 400000 in
theorem rexpr_4 (t : T) (hq : Px.size t ≤ 900000) (hB : TBt t) (hkid : ∀ u ∈ t.kids, ExprSaid u) (hgrand : ∀ u ∈ t.kids, ∀ v ∈ u.kids, ExprSaid v) (hs9 : t.kids.length ≤ 900000 ∧ (∀ u ∈ t.kids, u.kids.length ≤ 900000)) (h2 : t.kind = 4) : ExprSaid t := by
  intro a cap w hk
  have ho1 := ronly_num t a cap
  have ho2 := ronly_name t a cap
  have ho3 := ronly_none t a cap
  have ho4 := ronly_both t a cap
  have hal := rall_any t hkid hs9.1 a cap
  have hre := rref_any t hkid hs9.1 hB a cap
  unfold nodeVal at ho1 ho2 ho3 ho4 hal hre ⊢
  have Ho1 := Lib.hid ho1
  have Ho2 := Lib.hid ho2
  have Ho3 := Lib.hid ho3
  have Ho4 := Lib.hid ho4
  have Hal := Lib.hid hal
  have Hre := Lib.hid hre
  have Hk := Lib.hid hk
  have HB := Lib.hid hB
  have Hgr := Lib.hid hgrand
  have Hs9 := Lib.hid hs9
  clear hB hs9 hkid hgrand hk ho1 ho2 ho3 ho4 hal hre hq
  have c1 : (t.kind == 1) = false := beq_eq_false_iff_ne.2 (by omega)
  have c2 : (t.kind == 2) = false := beq_eq_false_iff_ne.2 (by omega)
  have c3 : (t.kind == 3) = false := beq_eq_false_iff_ne.2 (by omega)
  have c4 : (t.kind == 4) = true := by rw [h2]; rfl
  have H2 := Lib.hid h2
  clear h2
  go_enter Tryz.func65, Tryz.ntmps65
  go_wp2_with fail
  obtain ⟨W, hW⟩ : ∃ W, W = w.alloc (.cells #[.int .i64 t.kind, .string ⟨t.name.toArray⟩, .string ⟨t.other.toArray⟩, .int .i64 t.n, .int .i64 t.len, .int .i64 t.init, .bool t.ghost, .slice a t.kids.length cap, .int .i64 t.off] 25) := ⟨_, rfl⟩
  have hWs : w.heap.size < W.heap.size := by rw [hW]; simp
  have Hb := Lib.hid (show Below w.heap.size w W by rw [hW]; exact (Below.refl _ _).alloc (Nat.le_refl _) _)
  have HWn := Lib.hid (show NineAt W w.heap.size 0 t (.slice a t.kids.length cap) by rw [hW]; exact NineAt.var w t _)
  have z0 : Var 25 W w.heap.size #[.int .i64 t.kind, .string ⟨t.name.toArray⟩, .string ⟨t.other.toArray⟩, .int .i64 t.n, .int .i64 t.len, .int .i64 t.init, .bool t.ghost, .slice a t.kids.length cap, .int .i64 t.off] := by rw [hW]; exact Var.new _ _ _
  have Hz := Lib.hid z0
  clear z0
  rw [← hW]
  clear hW
  obtain ⟨e0, e1, e2, e3, e4, e5, e6, e7, e8⟩ := HWn.out
  simp only [Nat.zero_add] at e0 e1 e2 e3 e4 e5 e6 e7 e8
  go_wp2_with fail
  refine (Ho3.out W).mono ?_
  rintro e w1 ⟨b, rfl, hb, hb1⟩
  have hq0 : Below w.heap.size w W := by first | exact Hb.out | exact Hb1.out | exact Hb2.out | exact Hb3.out | exact Hb4.out
  have hq : Below w.heap.size w w1 := hq0.trans (hb1.mono hq0.size)
  have Hb1 := Lib.hid hq
  have hws1 : w.heap.size < w1.heap.size := Nat.lt_of_lt_of_le (show w.heap.size < (W).heap.size by first | exact hWs | assumption) hb1.size
  have Hn1 := Lib.hid (show NineAt w1 w.heap.size 0 t (.slice a t.kids.length cap) by first | exact HWn.out.below hb1 hWs | exact Hn1.out.below hb1 hws1 | exact Hn2.out.below hb1 hws2 | exact Hn3.out.below hb1 hws3)
  have Hbb := Lib.hid hb
  clear hb hb1 hq hq0 e0 e1 e2 e3 e4 e5 e6 e7 e8
  obtain ⟨e0, e1, e2, e3, e4, e5, e6, e7, e8⟩ := Hn1.out
  simp only [Nat.zero_add] at e0 e1 e2 e3 e4 e5 e6 e7 e8
  cases b with
  | false =>
    go_wp2_with fail
    go_ret
    exact ⟨false, rfl, fun h => (by cases h), Hb1.out⟩
  | true =>
  have Hb9 := Lib.hid (Hbb.out (by first | rfl | trivial))
  clear Hbb
  by_cases hl : t.kids.length = 1
  rotate_left
  · have cl : ((t.kids.length : Int) == 1) = false := beq_eq_false_iff_ne.2 (by omega)
    go_wp2_with fail
    go_ret
    exact ⟨false, rfl, fun h => (by cases h), Hb1.out⟩
  have cl : ((t.kids.length : Int) == 1) = true := by rw [hl]; rfl
  have Hl := Lib.hid hl
  clear hl
  have hrw := (Hk.out.below Hb1.out).mono (N' := w1.heap.size) Hb1.out.size
  have Hrw := Lib.hid hrw
  clear hrw
  go_wp2_with fail
  refine (Hal.out w1 Hrw.out).mono ?_
  rintro e w5 ⟨b, rfl, hb, hb1⟩
  have Hb5 := Lib.hid (Hb1.out.trans (hb1.mono Hb1.out.size))
  have Hbb := Lib.hid hb
  clear hb hb1
  go_wp2_with fail
  go_ret
  exact ⟨b, rfl, fun hb => not_of H2.out Hb9.out Hl.out (Hbb.out hb), Hb5.out⟩
set_option maxRecDepth 100000 in
set_option maxHeartbeats 2000000 in
theorem rexpr_5 (t : T) (hq : Px.size t ≤ 900000) (hB : TBt t) (hkid : ∀ u ∈ t.kids, ExprSaid u) (hgrand : ∀ u ∈ t.kids, ∀ v ∈ u.kids, ExprSaid v) (hs9 : t.kids.length ≤ 900000 ∧ (∀ u ∈ t.kids, u.kids.length ≤ 900000)) (h2 : t.kind = 5) : ExprSaid t := by
  intro a cap w hk
  have ho1 := ronly_num t a cap
  have ho2 := ronly_name t a cap
  have ho3 := ronly_none t a cap
  have ho4 := ronly_both t a cap
  have hal := rall_any t hkid hs9.1 a cap
  have hre := rref_any t hkid hs9.1 hB a cap
  unfold nodeVal at ho1 ho2 ho3 ho4 hal hre ⊢
  have Ho1 := Lib.hid ho1
  have Ho2 := Lib.hid ho2
  have Ho3 := Lib.hid ho3
  have Ho4 := Lib.hid ho4
  have Hal := Lib.hid hal
  have Hre := Lib.hid hre
  have Hk := Lib.hid hk
  have HB := Lib.hid hB
  have Hgr := Lib.hid hgrand
  have Hs9 := Lib.hid hs9
  clear hB hs9 hkid hgrand hk ho1 ho2 ho3 ho4 hal hre hq
  have c1 : (t.kind == 1) = false := beq_eq_false_iff_ne.2 (by omega)
  have c2 : (t.kind == 2) = false := beq_eq_false_iff_ne.2 (by omega)
  have c3 : (t.kind == 3) = false := beq_eq_false_iff_ne.2 (by omega)
  have c4 : (t.kind == 4) = false := beq_eq_false_iff_ne.2 (by omega)
  have c5 : (t.kind == 5) = true := by rw [h2]; rfl
  have H2 := Lib.hid h2
  clear h2
  go_enter Tryz.func65, Tryz.ntmps65
  go_wp2_with fail
  obtain ⟨W, hW⟩ : ∃ W, W = w.alloc (.cells #[.int .i64 t.kind, .string ⟨t.name.toArray⟩, .string ⟨t.other.toArray⟩, .int .i64 t.n, .int .i64 t.len, .int .i64 t.init, .bool t.ghost, .slice a t.kids.length cap, .int .i64 t.off] 25) := ⟨_, rfl⟩
  have hWs : w.heap.size < W.heap.size := by rw [hW]; simp
  have Hb := Lib.hid (show Below w.heap.size w W by rw [hW]; exact (Below.refl _ _).alloc (Nat.le_refl _) _)
  have HWn := Lib.hid (show NineAt W w.heap.size 0 t (.slice a t.kids.length cap) by rw [hW]; exact NineAt.var w t _)
  have z0 : Var 25 W w.heap.size #[.int .i64 t.kind, .string ⟨t.name.toArray⟩, .string ⟨t.other.toArray⟩, .int .i64 t.n, .int .i64 t.len, .int .i64 t.init, .bool t.ghost, .slice a t.kids.length cap, .int .i64 t.off] := by rw [hW]; exact Var.new _ _ _
  have Hz := Lib.hid z0
  clear z0
  rw [← hW]
  clear hW
  obtain ⟨e0, e1, e2, e3, e4, e5, e6, e7, e8⟩ := HWn.out
  simp only [Nat.zero_add] at e0 e1 e2 e3 e4 e5 e6 e7 e8
  go_wp2_with fail
  refine (levels_any W).mono ?_
  rintro e w1 ⟨rfl, hb1, hlv⟩
  have hb : true = true → True := fun _ => trivial
  have hq0 : Below w.heap.size w W := by first | exact Hb.out | exact Hb1.out | exact Hb2.out | exact Hb3.out | exact Hb4.out
  have hq : Below w.heap.size w w1 := hq0.trans (hb1.mono hq0.size)
  have Hb1 := Lib.hid hq
  have hws1 : w.heap.size < w1.heap.size := Nat.lt_of_lt_of_le (show w.heap.size < (W).heap.size by first | exact hWs | assumption) hb1.size
  have Hn1 := Lib.hid (show NineAt w1 w.heap.size 0 t (.slice a t.kids.length cap) by first | exact HWn.out.below hb1 hWs | exact Hn1.out.below hb1 hws1 | exact Hn2.out.below hb1 hws2 | exact Hn3.out.below hb1 hws3)
  have Hbb := Lib.hid hb
  clear hb hb1 hq hq0 e0 e1 e2 e3 e4 e5 e6 e7 e8
  obtain ⟨e0, e1, e2, e3, e4, e5, e6, e7, e8⟩ := Hn1.out
  simp only [Nat.zero_add] at e0 e1 e2 e3 e4 e5 e6 e7 e8
  have HL := Lib.hid hlv
  have hgs := hlv.size
  clear hlv Hbb
  clear e0 e1 e2 e3 e4 e5 e6 e7 e8
  obtain ⟨g, hg⟩ : ∃ g, g = W.heap.size := ⟨_, rfl⟩
  rw [← hg] at HL hgs ⊢
  clear hg
  have H0 := Lib.hid (show (t.name == [61, 61, 62]) = true → 0 < Px.level t.name from fun h => by rw [eq_of_beq h]; decide)
  go_wp2_with fail
  go_loopw [4, 6, 7] (fun ok i j wr => ∃ (k : Nat) (b : Bool), k ≤ 8 ∧ i = .int .i64 k ∧ ok = .bool b ∧ Hid (b = true → 0 < Px.level t.name) ∧ Hid (Below w1.heap.size w1 wr)) (fun _ i _ _ => 8 - (intOf i).toNat)
  case atStart => exact ⟨0, _, by omega, rfl, rfl, H0, Lib.hid (Below.refl _ _)⟩
  case round =>
    obtain ⟨k, b, hk8, rfl, rfl, Hok, Hbr⟩ := hrel
    by_cases hlt : k < 8
    · obtain ⟨l, hl⟩ := lvls_at hlt
      have Hl := Lib.hid hl
      have ho1 : wr.cell? ⟨g + 8, k, none⟩ = _ := (HL.out.below Hbr.out hgs).outer k l hl
      have hi0 : (0 : Int) ≤ (k : Int) := Int.natCast_nonneg _
      have hi1 : (k : Int) < 8 := by omega
      have hl4 := lvl_len k l hl
      clear hl
      go_wp2_with fail
      go_loopw [4, 7] (fun ok j wx => ∃ (q : Nat) (b : Bool), q ≤ l.length ∧ j = .int .i64 q ∧ ok = .bool b ∧ Hid (b = true → 0 < Px.level t.name) ∧ Hid (Below w1.heap.size w1 wx)) (fun _ j _ => l.length - (intOf j).toNat)
      case atStart => exact ⟨0, b, by omega, rfl, rfl, Hok, Hbr⟩
      case round =>
        obtain ⟨q, b, hq, rfl, rfl, Hok, Hbx⟩ := hrel
        have ho2 : wr.cell? ⟨g + 8, k, none⟩ = _ := (HL.out.below Hbx.out hgs).outer k l Hl.out
        have hk0 : (0 : Int) ≤ (q : Int) := Int.natCast_nonneg _
        by_cases hql : q < l.length
        · obtain ⟨x, hx⟩ : ∃ x, l[q]? = some x := ⟨_, List.getElem?_eq_getElem hql⟩
          have ho3 : wr.cell? ⟨g + k, q, none⟩ = _ := (HL.out.below Hbx.out hgs).inner k l q x Hl.out hx
          obtain ⟨e0, e1, e2, e3, e4, e5, e6, e7, e8⟩ := Hn1.out.below Hbx.out hws1
          simp only [Nat.zero_add] at e0 e1 e2 e3 e4 e5 e6 e7 e8
          have hk2 : (q : Int) < (l.length : Int) := by omega
          have Hlv := Lib.hid (lvl_pos k l q x Hl.out hx)
          have Hbd := Lib.hid (show Below w1.heap.size w1 wr from Hbx.out)
          clear hx
          cases b with
          | true =>
            go_wp2_with fail
            go_quiet (fail)
            go_wp2_with fail
            go_roundw
            case rel => exact ⟨q + 1, true, by omega, by go_num, rfl, Lib.hid (fun _ => Hok.out (by first | rfl | trivial)), Lib.hid (below_drewN Hbd.out)⟩
            case measure => simp [intOf]; omega
          | false =>
            go_wp2_with fail
            go_quiet (fail)
            go_wp2_with fail
            go_roundw
            case rel => exact ⟨q + 1, (x == t.name), by omega, by go_num, rfl, Lib.hid (fun h => by rw [← eq_of_beq h]; exact Hlv.out), Lib.hid (below_drewN Hbd.out)⟩
            case measure => simp [intOf]; omega
        · obtain rfl : q = l.length := by omega
          have hk1 : (l.length : Int) ≤ l.length := Int.le_refl _
          go_wp2_with fail
          go_roundw
          case rel => exact ⟨k + 1, b, by omega, by go_num, rfl, Hok, Hbx⟩
          case measure => simp [intOf]; omega
    · obtain rfl : k = 8 := by omega
      have hb1 := Hbr.out
      have hb : true = true → True := fun _ => trivial
      have Hbr2 := Lib.hid (Hb1.out.trans (Hbr.out.mono Hb1.out.size))
      obtain ⟨e0, e1, e2, e3, e4, e5, e6, e7, e8⟩ := Hn1.out.below Hbr.out hws1
      simp only [Nat.zero_add] at e0 e1 e2 e3 e4 e5 e6 e7 e8
      have hwr : w.heap.size < wr.heap.size := Nat.lt_of_lt_of_le hws1 Hbr.out.size
      have Hnr := Lib.hid (Hn1.out.below Hbr.out hws1)
      clear hb1 hb
      cases b with
      | false =>
        go_wp2_with fail
        go_ret
        exact ⟨false, rfl, fun h => (by cases h), Hbr2.out⟩
      | true =>
      have Hlev := Lib.hid (Hok.out rfl)
      go_wp2_with fail
      refine (Ho2.out wr).mono ?_
      rintro e w2 ⟨b, rfl, hb, hb2⟩
      have Hb2 := Lib.hid (Hbr2.out.trans (hb2.mono Hbr2.out.size))
      have Hn2 := Lib.hid (Hnr.out.below hb2 hwr)
      have Hbb := Lib.hid hb
      clear hb hb2 e0 e1 e2 e3 e4 e5 e6 e7 e8
      obtain ⟨e0, e1, e2, e3, e4, e5, e6, e7, e8⟩ := Hn2.out
      simp only [Nat.zero_add] at e0 e1 e2 e3 e4 e5 e6 e7 e8
      cases b with
      | false =>
        go_wp2_with fail
        go_ret
        exact ⟨false, rfl, fun h => (by cases h), Hb2.out⟩
      | true =>
      have Hb9 := Lib.hid (Hbb.out (by first | rfl | trivial))
      clear Hbb
      by_cases hl : t.kids.length = 2
      rotate_left
      · have cl : ((t.kids.length : Int) == 2) = false := beq_eq_false_iff_ne.2 (by omega)
        go_wp2_with fail
        go_ret
        exact ⟨false, rfl, fun h => (by cases h), Hb2.out⟩
      have cl : ((t.kids.length : Int) == 2) = true := by rw [hl]; rfl
      have Hl := Lib.hid hl
      clear hl
      have hrw := (Hk.out.below Hb2.out).mono (N' := w2.heap.size) Hb2.out.size
      have Hrw := Lib.hid hrw
      clear hrw
      go_wp2_with fail
      refine (Hal.out w2 Hrw.out).mono ?_
      rintro e w5 ⟨b, rfl, hb, hb1⟩
      have Hb5 := Lib.hid (Hb2.out.trans (hb1.mono Hb2.out.size))
      have Hbb := Lib.hid hb
      clear hb hb1
      go_wp2_with fail
      go_ret
      exact ⟨b, rfl, fun hb => bin_of H2.out Hlev.out Hb9.out Hl.out (Hbb.out hb), Hb5.out⟩
set_option maxRecDepth 100000 in
set_option maxHeartbeats 400000 in
theorem rexpr_6 (t : T) (hq : Px.size t ≤ 900000) (hB : TBt t) (hkid : ∀ u ∈ t.kids, ExprSaid u) (hgrand : ∀ u ∈ t.kids, ∀ v ∈ u.kids, ExprSaid v) (hs9 : t.kids.length ≤ 900000 ∧ (∀ u ∈ t.kids, u.kids.length ≤ 900000)) (h2 : t.kind = 6) : ExprSaid t := by
  intro a cap w hk
  have ho1 := ronly_num t a cap
  have ho2 := ronly_name t a cap
  have ho3 := ronly_none t a cap
  have ho4 := ronly_both t a cap
  have hal := rall_any t hkid hs9.1 a cap
  have hre := rref_any t hkid hs9.1 hB a cap
  unfold nodeVal at ho1 ho2 ho3 ho4 hal hre ⊢
  have Ho1 := Lib.hid ho1
  have Ho2 := Lib.hid ho2
  have Ho3 := Lib.hid ho3
  have Ho4 := Lib.hid ho4
  have Hal := Lib.hid hal
  have Hre := Lib.hid hre
  have Hk := Lib.hid hk
  have HB := Lib.hid hB
  have Hgr := Lib.hid hgrand
  have Hs9 := Lib.hid hs9
  clear hB hs9 hkid hgrand hk ho1 ho2 ho3 ho4 hal hre hq
  have c1 : (t.kind == 1) = false := beq_eq_false_iff_ne.2 (by omega)
  have c2 : (t.kind == 2) = false := beq_eq_false_iff_ne.2 (by omega)
  have c3 : (t.kind == 3) = false := beq_eq_false_iff_ne.2 (by omega)
  have c4 : (t.kind == 4) = false := beq_eq_false_iff_ne.2 (by omega)
  have c5 : (t.kind == 5) = false := beq_eq_false_iff_ne.2 (by omega)
  have c6 : (t.kind == 6) = true := by rw [h2]; rfl
  have H2 := Lib.hid h2
  clear h2
  go_enter Tryz.func65, Tryz.ntmps65
  go_wp2_with fail
  obtain ⟨W, hW⟩ : ∃ W, W = w.alloc (.cells #[.int .i64 t.kind, .string ⟨t.name.toArray⟩, .string ⟨t.other.toArray⟩, .int .i64 t.n, .int .i64 t.len, .int .i64 t.init, .bool t.ghost, .slice a t.kids.length cap, .int .i64 t.off] 25) := ⟨_, rfl⟩
  have hWs : w.heap.size < W.heap.size := by rw [hW]; simp
  have Hb := Lib.hid (show Below w.heap.size w W by rw [hW]; exact (Below.refl _ _).alloc (Nat.le_refl _) _)
  have HWn := Lib.hid (show NineAt W w.heap.size 0 t (.slice a t.kids.length cap) by rw [hW]; exact NineAt.var w t _)
  have z0 : Var 25 W w.heap.size #[.int .i64 t.kind, .string ⟨t.name.toArray⟩, .string ⟨t.other.toArray⟩, .int .i64 t.n, .int .i64 t.len, .int .i64 t.init, .bool t.ghost, .slice a t.kids.length cap, .int .i64 t.off] := by rw [hW]; exact Var.new _ _ _
  have Hz := Lib.hid z0
  clear z0
  rw [← hW]
  clear hW
  obtain ⟨e0, e1, e2, e3, e4, e5, e6, e7, e8⟩ := HWn.out
  simp only [Nat.zero_add] at e0 e1 e2 e3 e4 e5 e6 e7 e8
  go_wp2_with fail
  refine (Ho3.out W).mono ?_
  rintro e w1 ⟨b, rfl, hb, hb1⟩
  have hq0 : Below w.heap.size w W := by first | exact Hb.out | exact Hb1.out | exact Hb2.out | exact Hb3.out | exact Hb4.out
  have hq : Below w.heap.size w w1 := hq0.trans (hb1.mono hq0.size)
  have Hb1 := Lib.hid hq
  have hws1 : w.heap.size < w1.heap.size := Nat.lt_of_lt_of_le (show w.heap.size < (W).heap.size by first | exact hWs | assumption) hb1.size
  have Hn1 := Lib.hid (show NineAt w1 w.heap.size 0 t (.slice a t.kids.length cap) by first | exact HWn.out.below hb1 hWs | exact Hn1.out.below hb1 hws1 | exact Hn2.out.below hb1 hws2 | exact Hn3.out.below hb1 hws3)
  have Hbb := Lib.hid hb
  clear hb hb1 hq hq0 e0 e1 e2 e3 e4 e5 e6 e7 e8
  obtain ⟨e0, e1, e2, e3, e4, e5, e6, e7, e8⟩ := Hn1.out
  simp only [Nat.zero_add] at e0 e1 e2 e3 e4 e5 e6 e7 e8
  cases b with
  | false =>
    go_wp2_with fail
    go_ret
    exact ⟨false, rfl, fun h => (by cases h), Hb1.out⟩
  | true =>
  have Hb9 := Lib.hid (Hbb.out (by first | rfl | trivial))
  clear Hbb
  by_cases hl : t.kids.length = 3
  rotate_left
  · have cl : ((t.kids.length : Int) == 3) = false := beq_eq_false_iff_ne.2 (by omega)
    go_wp2_with fail
    go_ret
    exact ⟨false, rfl, fun h => (by cases h), Hb1.out⟩
  have cl : ((t.kids.length : Int) == 3) = true := by rw [hl]; rfl
  have Hl := Lib.hid hl
  clear hl
  have hrw := (Hk.out.below Hb1.out).mono (N' := w1.heap.size) Hb1.out.size
  have Hrw := Lib.hid hrw
  clear hrw
  go_wp2_with fail
  refine (Hal.out w1 Hrw.out).mono ?_
  rintro e w5 ⟨b, rfl, hb, hb1⟩
  have Hb5 := Lib.hid (Hb1.out.trans (hb1.mono Hb1.out.size))
  have Hbb := Lib.hid hb
  clear hb hb1
  go_wp2_with fail
  go_ret
  exact ⟨b, rfl, fun hb => cond_of H2.out Hb9.out Hl.out (Hbb.out hb), Hb5.out⟩
set_option maxRecDepth 100000 in
set_option maxHeartbeats 400000 in
theorem rexpr_7 (t : T) (hq : Px.size t ≤ 900000) (hB : TBt t) (hkid : ∀ u ∈ t.kids, ExprSaid u) (hgrand : ∀ u ∈ t.kids, ∀ v ∈ u.kids, ExprSaid v) (hs9 : t.kids.length ≤ 900000 ∧ (∀ u ∈ t.kids, u.kids.length ≤ 900000)) (h2 : t.kind = 7) : ExprSaid t := by
  intro a cap w hk
  have ho1 := ronly_num t a cap
  have ho2 := ronly_name t a cap
  have ho3 := ronly_none t a cap
  have ho4 := ronly_both t a cap
  have hal := rall_any t hkid hs9.1 a cap
  have hre := rref_any t hkid hs9.1 hB a cap
  unfold nodeVal at ho1 ho2 ho3 ho4 hal hre ⊢
  have Ho1 := Lib.hid ho1
  have Ho2 := Lib.hid ho2
  have Ho3 := Lib.hid ho3
  have Ho4 := Lib.hid ho4
  have Hal := Lib.hid hal
  have Hre := Lib.hid hre
  have Hk := Lib.hid hk
  have HB := Lib.hid hB
  have Hgr := Lib.hid hgrand
  have Hs9 := Lib.hid hs9
  clear hB hs9 hkid hgrand hk ho1 ho2 ho3 ho4 hal hre hq
  have c1 : (t.kind == 1) = false := beq_eq_false_iff_ne.2 (by omega)
  have c2 : (t.kind == 2) = false := beq_eq_false_iff_ne.2 (by omega)
  have c3 : (t.kind == 3) = false := beq_eq_false_iff_ne.2 (by omega)
  have c4 : (t.kind == 4) = false := beq_eq_false_iff_ne.2 (by omega)
  have c5 : (t.kind == 5) = false := beq_eq_false_iff_ne.2 (by omega)
  have c6 : (t.kind == 6) = false := beq_eq_false_iff_ne.2 (by omega)
  have c7 : (t.kind == 7) = true := by rw [h2]; rfl
  have H2 := Lib.hid h2
  clear h2
  go_enter Tryz.func65, Tryz.ntmps65
  go_wp2_with fail
  obtain ⟨W, hW⟩ : ∃ W, W = w.alloc (.cells #[.int .i64 t.kind, .string ⟨t.name.toArray⟩, .string ⟨t.other.toArray⟩, .int .i64 t.n, .int .i64 t.len, .int .i64 t.init, .bool t.ghost, .slice a t.kids.length cap, .int .i64 t.off] 25) := ⟨_, rfl⟩
  have hWs : w.heap.size < W.heap.size := by rw [hW]; simp
  have Hb := Lib.hid (show Below w.heap.size w W by rw [hW]; exact (Below.refl _ _).alloc (Nat.le_refl _) _)
  have HWn := Lib.hid (show NineAt W w.heap.size 0 t (.slice a t.kids.length cap) by rw [hW]; exact NineAt.var w t _)
  have z0 : Var 25 W w.heap.size #[.int .i64 t.kind, .string ⟨t.name.toArray⟩, .string ⟨t.other.toArray⟩, .int .i64 t.n, .int .i64 t.len, .int .i64 t.init, .bool t.ghost, .slice a t.kids.length cap, .int .i64 t.off] := by rw [hW]; exact Var.new _ _ _
  have Hz := Lib.hid z0
  clear z0
  rw [← hW]
  clear hW
  obtain ⟨e0, e1, e2, e3, e4, e5, e6, e7, e8⟩ := HWn.out
  simp only [Nat.zero_add] at e0 e1 e2 e3 e4 e5 e6 e7 e8
  go_wp2_with fail
  refine (Ho4.out W).mono ?_
  rintro e w1 ⟨b, rfl, hb, hb1⟩
  have hq0 : Below w.heap.size w W := by first | exact Hb.out | exact Hb1.out | exact Hb2.out | exact Hb3.out | exact Hb4.out
  have hq : Below w.heap.size w w1 := hq0.trans (hb1.mono hq0.size)
  have Hb1 := Lib.hid hq
  have hws1 : w.heap.size < w1.heap.size := Nat.lt_of_lt_of_le (show w.heap.size < (W).heap.size by first | exact hWs | assumption) hb1.size
  have Hn1 := Lib.hid (show NineAt w1 w.heap.size 0 t (.slice a t.kids.length cap) by first | exact HWn.out.below hb1 hWs | exact Hn1.out.below hb1 hws1 | exact Hn2.out.below hb1 hws2 | exact Hn3.out.below hb1 hws3)
  have Hbb := Lib.hid hb
  clear hb hb1 hq hq0 e0 e1 e2 e3 e4 e5 e6 e7 e8
  obtain ⟨e0, e1, e2, e3, e4, e5, e6, e7, e8⟩ := Hn1.out
  simp only [Nat.zero_add] at e0 e1 e2 e3 e4 e5 e6 e7 e8
  cases b with
  | false =>
    go_wp2_with fail
    go_ret
    exact ⟨false, rfl, fun h => (by cases h), Hb1.out⟩
  | true =>
  have Hb9 := Lib.hid (Hbb.out (by first | rfl | trivial))
  clear Hbb
  go_wp2_with fail
  refine (rname_any t.name w1 HB.out.open.1).mono ?_
  rintro e w2 ⟨b, rfl, hb, hb1⟩
  have hq0 : Below w.heap.size w w1 := by first | exact Hb.out | exact Hb1.out | exact Hb2.out | exact Hb3.out | exact Hb4.out
  have hq : Below w.heap.size w w2 := hq0.trans (hb1.mono hq0.size)
  have Hb2 := Lib.hid hq
  have hws2 : w.heap.size < w2.heap.size := Nat.lt_of_lt_of_le (show w.heap.size < (w1).heap.size by first | exact hWs | assumption) hb1.size
  have Hn2 := Lib.hid (show NineAt w2 w.heap.size 0 t (.slice a t.kids.length cap) by first | exact HWn.out.below hb1 hWs | exact Hn1.out.below hb1 hws1 | exact Hn2.out.below hb1 hws2 | exact Hn3.out.below hb1 hws3)
  have Hbb := Lib.hid hb
  clear hb hb1 hq hq0 e0 e1 e2 e3 e4 e5 e6 e7 e8
  obtain ⟨e0, e1, e2, e3, e4, e5, e6, e7, e8⟩ := Hn2.out
  simp only [Nat.zero_add] at e0 e1 e2 e3 e4 e5 e6 e7 e8
  cases b with
  | false =>
    go_wp2_with fail
    go_ret
    exact ⟨false, rfl, fun h => (by cases h), Hb2.out⟩
  | true =>
  have Hb8 := Lib.hid (Hbb.out (by first | rfl | trivial))
  clear Hbb
  by_cases hl : t.kids.length = 1
  rotate_left
  · have cl : ((t.kids.length : Int) == 1) = false := beq_eq_false_iff_ne.2 (by omega)
    go_wp2_with fail
    go_ret
    exact ⟨false, rfl, fun h => (by cases h), Hb2.out⟩
  have cl : ((t.kids.length : Int) == 1) = true := by rw [hl]; rfl
  have Hl := Lib.hid hl
  clear hl
  have hrw := (Hk.out.below Hb2.out).mono (N' := w2.heap.size) Hb2.out.size
  have Hrw := Lib.hid hrw
  clear hrw
  go_wp2_with fail
  refine (Hal.out w2 Hrw.out).mono ?_
  rintro e w5 ⟨b, rfl, hb, hb1⟩
  have Hb5 := Lib.hid (Hb2.out.trans (hb1.mono Hb2.out.size))
  have Hbb := Lib.hid hb
  clear hb hb1
  go_wp2_with fail
  go_ret
  exact ⟨b, rfl, fun hb => all_of (.inl H2.out) Hb9.out Hb8.out Hl.out (Hbb.out hb), Hb5.out⟩
set_option maxRecDepth 100000 in
set_option maxHeartbeats 400000 in
theorem rexpr_8 (t : T) (hq : Px.size t ≤ 900000) (hB : TBt t) (hkid : ∀ u ∈ t.kids, ExprSaid u) (hgrand : ∀ u ∈ t.kids, ∀ v ∈ u.kids, ExprSaid v) (hs9 : t.kids.length ≤ 900000 ∧ (∀ u ∈ t.kids, u.kids.length ≤ 900000)) (h2 : t.kind = 8) : ExprSaid t := by
  intro a cap w hk
  have ho1 := ronly_num t a cap
  have ho2 := ronly_name t a cap
  have ho3 := ronly_none t a cap
  have ho4 := ronly_both t a cap
  have hal := rall_any t hkid hs9.1 a cap
  have hre := rref_any t hkid hs9.1 hB a cap
  unfold nodeVal at ho1 ho2 ho3 ho4 hal hre ⊢
  have Ho1 := Lib.hid ho1
  have Ho2 := Lib.hid ho2
  have Ho3 := Lib.hid ho3
  have Ho4 := Lib.hid ho4
  have Hal := Lib.hid hal
  have Hre := Lib.hid hre
  have Hk := Lib.hid hk
  have HB := Lib.hid hB
  have Hgr := Lib.hid hgrand
  have Hs9 := Lib.hid hs9
  clear hB hs9 hkid hgrand hk ho1 ho2 ho3 ho4 hal hre hq
  have c1 : (t.kind == 1) = false := beq_eq_false_iff_ne.2 (by omega)
  have c2 : (t.kind == 2) = false := beq_eq_false_iff_ne.2 (by omega)
  have c3 : (t.kind == 3) = false := beq_eq_false_iff_ne.2 (by omega)
  have c4 : (t.kind == 4) = false := beq_eq_false_iff_ne.2 (by omega)
  have c5 : (t.kind == 5) = false := beq_eq_false_iff_ne.2 (by omega)
  have c6 : (t.kind == 6) = false := beq_eq_false_iff_ne.2 (by omega)
  have c7 : (t.kind == 7) = false := beq_eq_false_iff_ne.2 (by omega)
  have c8 : (t.kind == 8) = true := by rw [h2]; rfl
  have H2 := Lib.hid h2
  clear h2
  go_enter Tryz.func65, Tryz.ntmps65
  go_wp2_with fail
  obtain ⟨W, hW⟩ : ∃ W, W = w.alloc (.cells #[.int .i64 t.kind, .string ⟨t.name.toArray⟩, .string ⟨t.other.toArray⟩, .int .i64 t.n, .int .i64 t.len, .int .i64 t.init, .bool t.ghost, .slice a t.kids.length cap, .int .i64 t.off] 25) := ⟨_, rfl⟩
  have hWs : w.heap.size < W.heap.size := by rw [hW]; simp
  have Hb := Lib.hid (show Below w.heap.size w W by rw [hW]; exact (Below.refl _ _).alloc (Nat.le_refl _) _)
  have HWn := Lib.hid (show NineAt W w.heap.size 0 t (.slice a t.kids.length cap) by rw [hW]; exact NineAt.var w t _)
  have z0 : Var 25 W w.heap.size #[.int .i64 t.kind, .string ⟨t.name.toArray⟩, .string ⟨t.other.toArray⟩, .int .i64 t.n, .int .i64 t.len, .int .i64 t.init, .bool t.ghost, .slice a t.kids.length cap, .int .i64 t.off] := by rw [hW]; exact Var.new _ _ _
  have Hz := Lib.hid z0
  clear z0
  rw [← hW]
  clear hW
  obtain ⟨e0, e1, e2, e3, e4, e5, e6, e7, e8⟩ := HWn.out
  simp only [Nat.zero_add] at e0 e1 e2 e3 e4 e5 e6 e7 e8
  go_wp2_with fail
  refine (Ho4.out W).mono ?_
  rintro e w1 ⟨b, rfl, hb, hb1⟩
  have hq0 : Below w.heap.size w W := by first | exact Hb.out | exact Hb1.out | exact Hb2.out | exact Hb3.out | exact Hb4.out
  have hq : Below w.heap.size w w1 := hq0.trans (hb1.mono hq0.size)
  have Hb1 := Lib.hid hq
  have hws1 : w.heap.size < w1.heap.size := Nat.lt_of_lt_of_le (show w.heap.size < (W).heap.size by first | exact hWs | assumption) hb1.size
  have Hn1 := Lib.hid (show NineAt w1 w.heap.size 0 t (.slice a t.kids.length cap) by first | exact HWn.out.below hb1 hWs | exact Hn1.out.below hb1 hws1 | exact Hn2.out.below hb1 hws2 | exact Hn3.out.below hb1 hws3)
  have Hbb := Lib.hid hb
  clear hb hb1 hq hq0 e0 e1 e2 e3 e4 e5 e6 e7 e8
  obtain ⟨e0, e1, e2, e3, e4, e5, e6, e7, e8⟩ := Hn1.out
  simp only [Nat.zero_add] at e0 e1 e2 e3 e4 e5 e6 e7 e8
  cases b with
  | false =>
    go_wp2_with fail
    go_ret
    exact ⟨false, rfl, fun h => (by cases h), Hb1.out⟩
  | true =>
  have Hb9 := Lib.hid (Hbb.out (by first | rfl | trivial))
  clear Hbb
  go_wp2_with fail
  refine (rname_any t.name w1 HB.out.open.1).mono ?_
  rintro e w2 ⟨b, rfl, hb, hb1⟩
  have hq0 : Below w.heap.size w w1 := by first | exact Hb.out | exact Hb1.out | exact Hb2.out | exact Hb3.out | exact Hb4.out
  have hq : Below w.heap.size w w2 := hq0.trans (hb1.mono hq0.size)
  have Hb2 := Lib.hid hq
  have hws2 : w.heap.size < w2.heap.size := Nat.lt_of_lt_of_le (show w.heap.size < (w1).heap.size by first | exact hWs | assumption) hb1.size
  have Hn2 := Lib.hid (show NineAt w2 w.heap.size 0 t (.slice a t.kids.length cap) by first | exact HWn.out.below hb1 hWs | exact Hn1.out.below hb1 hws1 | exact Hn2.out.below hb1 hws2 | exact Hn3.out.below hb1 hws3)
  have Hbb := Lib.hid hb
  clear hb hb1 hq hq0 e0 e1 e2 e3 e4 e5 e6 e7 e8
  obtain ⟨e0, e1, e2, e3, e4, e5, e6, e7, e8⟩ := Hn2.out
  simp only [Nat.zero_add] at e0 e1 e2 e3 e4 e5 e6 e7 e8
  cases b with
  | false =>
    go_wp2_with fail
    go_ret
    exact ⟨false, rfl, fun h => (by cases h), Hb2.out⟩
  | true =>
  have Hb8 := Lib.hid (Hbb.out (by first | rfl | trivial))
  clear Hbb
  by_cases hl : t.kids.length = 1
  rotate_left
  · have cl : ((t.kids.length : Int) == 1) = false := beq_eq_false_iff_ne.2 (by omega)
    go_wp2_with fail
    go_ret
    exact ⟨false, rfl, fun h => (by cases h), Hb2.out⟩
  have cl : ((t.kids.length : Int) == 1) = true := by rw [hl]; rfl
  have Hl := Lib.hid hl
  clear hl
  have hrw := (Hk.out.below Hb2.out).mono (N' := w2.heap.size) Hb2.out.size
  have Hrw := Lib.hid hrw
  clear hrw
  go_wp2_with fail
  refine (Hal.out w2 Hrw.out).mono ?_
  rintro e w5 ⟨b, rfl, hb, hb1⟩
  have Hb5 := Lib.hid (Hb2.out.trans (hb1.mono Hb2.out.size))
  have Hbb := Lib.hid hb
  clear hb hb1
  go_wp2_with fail
  go_ret
  exact ⟨b, rfl, fun hb => all_of (.inr H2.out) Hb9.out Hb8.out Hl.out (Hbb.out hb), Hb5.out⟩
set_option maxRecDepth 100000 in
set_option maxHeartbeats 400000 in
theorem rexpr_9 (t : T) (hq : Px.size t ≤ 900000) (hB : TBt t) (hkid : ∀ u ∈ t.kids, ExprSaid u) (hgrand : ∀ u ∈ t.kids, ∀ v ∈ u.kids, ExprSaid v) (hs9 : t.kids.length ≤ 900000 ∧ (∀ u ∈ t.kids, u.kids.length ≤ 900000)) (h2 : t.kind ≠ 1 ∧ t.kind ≠ 2 ∧ t.kind ≠ 3 ∧ t.kind ≠ 4 ∧ t.kind ≠ 5 ∧ t.kind ≠ 6 ∧ t.kind ≠ 7 ∧ t.kind ≠ 8) : ExprSaid t := by
  intro a cap w hk
  have ho1 := ronly_num t a cap
  have ho2 := ronly_name t a cap
  have ho3 := ronly_none t a cap
  have ho4 := ronly_both t a cap
  have hal := rall_any t hkid hs9.1 a cap
  have hre := rref_any t hkid hs9.1 hB a cap
  unfold nodeVal at ho1 ho2 ho3 ho4 hal hre ⊢
  have Ho1 := Lib.hid ho1
  have Ho2 := Lib.hid ho2
  have Ho3 := Lib.hid ho3
  have Ho4 := Lib.hid ho4
  have Hal := Lib.hid hal
  have Hre := Lib.hid hre
  have Hk := Lib.hid hk
  have HB := Lib.hid hB
  have Hgr := Lib.hid hgrand
  have Hs9 := Lib.hid hs9
  clear hB hs9 hkid hgrand hk ho1 ho2 ho3 ho4 hal hre hq
  have c1 : (t.kind == 1) = false := beq_eq_false_iff_ne.2 (by omega)
  have c2 : (t.kind == 2) = false := beq_eq_false_iff_ne.2 (by omega)
  have c3 : (t.kind == 3) = false := beq_eq_false_iff_ne.2 (by omega)
  have c4 : (t.kind == 4) = false := beq_eq_false_iff_ne.2 (by omega)
  have c5 : (t.kind == 5) = false := beq_eq_false_iff_ne.2 (by omega)
  have c6 : (t.kind == 6) = false := beq_eq_false_iff_ne.2 (by omega)
  have c7 : (t.kind == 7) = false := beq_eq_false_iff_ne.2 (by omega)
  have c8 : (t.kind == 8) = false := beq_eq_false_iff_ne.2 (by omega)
  go_enter Tryz.func65, Tryz.ntmps65
  go_wp2_with fail
  go_ret
  exact ⟨false, rfl, fun h => (by cases h), (Below.refl _ _).alloc (Nat.le_refl _) _⟩
theorem rexpr_any : ∀ (n : Nat) (t : T), Px.size t ≤ n → n ≤ 900000 → TBt t → ExprSaid t
  | 0, t, hn, _, _ => by cases t; rw [Px.size] at hn; omega
  | n + 1, t, hn, hn9, hB => by
    have hs : Px.sizes t.kids ≤ n := by cases t; rw [Px.size] at hn; show Px.sizes _ ≤ _; simp only [Px.T.kids]; omega
    have hlen := len_sizes t.kids
    have hkid : ∀ u ∈ t.kids, ExprSaid u := fun u hu => rexpr_any n u (by have := size_mem hu; omega) (by omega) (by
      obtain ⟨j, hj, he⟩ := List.mem_iff_getElem.1 hu
      exact TBl.get hB.open.2.2 (by rw [List.getElem?_eq_getElem hj, he]))
    have h3 : ∀ u : T, Px.sizes u.kids ≤ Px.size u := fun u => by cases u; rw [Px.size]; simp only [Px.T.kids]; omega
    have hgrand : ∀ u ∈ t.kids, ∀ v ∈ u.kids, ExprSaid v := fun u hu v hv => rexpr_any n v (by
      have h1 := size_mem hu
      have h2 := size_mem hv
      have := h3 u
      omega) (by omega) (by
      obtain ⟨j, hj, he⟩ := List.mem_iff_getElem.1 hu
      obtain ⟨q, hq, hf⟩ := List.mem_iff_getElem.1 hv
      exact TBl.get (TBl.get hB.open.2.2 (k := j) (u := u) (by rw [List.getElem?_eq_getElem hj, he])).open.2.2 (k := q) (by rw [List.getElem?_eq_getElem hq, hf]))
    have hs9 : t.kids.length ≤ 900000 ∧ (∀ u ∈ t.kids, u.kids.length ≤ 900000) := ⟨by omega, fun u hu => by
      have h1 := size_mem hu
      have h4 := len_sizes u.kids
      have := h3 u
      omega⟩
    have hcase : t.kind = 1 ∨ t.kind = 2 ∨ t.kind = 3 ∨ t.kind = 4 ∨ t.kind = 5 ∨ t.kind = 6 ∨ t.kind = 7 ∨ t.kind = 8 ∨ (t.kind ≠ 1 ∧ t.kind ≠ 2 ∧ t.kind ≠ 3 ∧ t.kind ≠ 4 ∧ t.kind ≠ 5 ∧ t.kind ≠ 6 ∧ t.kind ≠ 7 ∧ t.kind ≠ 8) := by omega
    have hq : Px.size t ≤ 900000 := by omega
    rcases hcase with h2 | h2 | h2 | h2 | h2 | h2 | h2 | h2 | h2
    · exact rexpr_1 t hq hB hkid hgrand hs9 h2
    · exact rexpr_2 t hq hB hkid hgrand hs9 h2
    · exact rexpr_3 t hq hB hkid hgrand hs9 h2
    · exact rexpr_4 t hq hB hkid hgrand hs9 h2
    · exact rexpr_5 t hq hB hkid hgrand hs9 h2
    · exact rexpr_6 t hq hB hkid hgrand hs9 h2
    · exact rexpr_7 t hq hB hkid hgrand hs9 h2
    · exact rexpr_8 t hq hB hkid hgrand hs9 h2
    · exact rexpr_9 t hq hB hkid hgrand hs9 h2

set_option maxRecDepth 100000 in
set_option maxHeartbeats 1000000 in
theorem rvalid_any (t : T) (hq : Px.size t ≤ 900000) (hB : TBt t) (h62 : t.kind ≠ 62) (a : Option Addr) (cap : Nat) (w : World) (hk : RRow w.heap.size w t.kids (.slice a t.kids.length cap)) :
    Calls Tryz.prog 18 #[nodeVal t (.slice a t.kids.length cap)] w (RB (Px.fits t = true ∧ EV t) w) := by
  have hfo : ∀ w : World, RRow w.heap.size w t.kids (.slice a t.kids.length cap) → Calls Tryz.prog 43 #[nodeVal t (.slice a t.kids.length cap)] w (RB (EV t) w) := by
    intro w hk
    have c62 : (t.kind == 62) = false := beq_eq_false_iff_ne.2 h62
    have He := Lib.hid (rexpr_any _ t (Nat.le_refl _) hq hB a cap)
    have Hk := Lib.hid hk
    clear hk h62 hB hq
    unfold nodeVal at He ⊢
    go_enter Tryz.func43, Tryz.ntmps43
    go_wp2_with fail
    obtain ⟨W, hW⟩ : ∃ W, W = w.alloc (.cells #[.int .i64 t.kind, .string ⟨t.name.toArray⟩, .string ⟨t.other.toArray⟩, .int .i64 t.n, .int .i64 t.len, .int .i64 t.init, .bool t.ghost, .slice a t.kids.length cap, .int .i64 t.off] 25) := ⟨_, rfl⟩
    have hWs : w.heap.size < W.heap.size := by rw [hW]; simp
    have Hb := Lib.hid (show Below w.heap.size w W by rw [hW]; exact (Below.refl _ _).alloc (Nat.le_refl _) _)
    have HWn := Lib.hid (show NineAt W w.heap.size 0 t (.slice a t.kids.length cap) by rw [hW]; exact NineAt.var w t _)
    have z0 : Var 25 W w.heap.size #[.int .i64 t.kind, .string ⟨t.name.toArray⟩, .string ⟨t.other.toArray⟩, .int .i64 t.n, .int .i64 t.len, .int .i64 t.init, .bool t.ghost, .slice a t.kids.length cap, .int .i64 t.off] := by rw [hW]; exact Var.new _ _ _
    have Hz := Lib.hid z0
    clear z0
    rw [← hW]
    clear hW
    obtain ⟨e0, e1, e2, e3, e4, e5, e6, e7, e8⟩ := HWn.out
    simp only [Nat.zero_add] at e0 e1 e2 e3 e4 e5 e6 e7 e8
    go_wp2_with fail
    refine (He.out W ((Hk.out.below Hb.out).mono (by omega))).mono ?_
    rintro e w1 ⟨b, rfl, hb, hb1⟩
    have Hb1 := Lib.hid (Hb.out.trans (hb1.mono Hb.out.size))
    have Hbb := Lib.hid hb
    clear hb hb1
    go_wp2_with fail
    go_ret
    exact ⟨b, rfl, Hbb.out, Hb1.out⟩
  have hfi := rfits_any t a cap
  have Hk := Lib.hid hk
  unfold nodeVal at hfo hfi ⊢
  have Hfo := Lib.hid hfo
  have Hfi := Lib.hid hfi
  clear hk h62 hB hq hfo hfi
  go_enter Tryz.func18, Tryz.ntmps18
  go_wp2_with fail
  obtain ⟨W, hW⟩ : ∃ W, W = w.alloc (.cells #[.int .i64 t.kind, .string ⟨t.name.toArray⟩, .string ⟨t.other.toArray⟩, .int .i64 t.n, .int .i64 t.len, .int .i64 t.init, .bool t.ghost, .slice a t.kids.length cap, .int .i64 t.off] 25) := ⟨_, rfl⟩
  have hWs : w.heap.size < W.heap.size := by rw [hW]; simp
  have Hb := Lib.hid (show Below w.heap.size w W by rw [hW]; exact (Below.refl _ _).alloc (Nat.le_refl _) _)
  have HWn := Lib.hid (show NineAt W w.heap.size 0 t (.slice a t.kids.length cap) by rw [hW]; exact NineAt.var w t _)
  have z0 : Var 25 W w.heap.size #[.int .i64 t.kind, .string ⟨t.name.toArray⟩, .string ⟨t.other.toArray⟩, .int .i64 t.n, .int .i64 t.len, .int .i64 t.init, .bool t.ghost, .slice a t.kids.length cap, .int .i64 t.off] := by rw [hW]; exact Var.new _ _ _
  have Hz := Lib.hid z0
  clear z0
  rw [← hW]
  clear hW
  obtain ⟨e0, e1, e2, e3, e4, e5, e6, e7, e8⟩ := HWn.out
  simp only [Nat.zero_add] at e0 e1 e2 e3 e4 e5 e6 e7 e8
  go_wp2_with fail
  refine (Hfi.out W ((Hk.out.below Hb.out).mono (by omega))).mono ?_
  rintro e w1 ⟨rfl, hb1⟩
  have hb : true = true → True := fun _ => trivial
  have hq0 : Below w.heap.size w W := by first | exact Hb.out | exact Hb1.out | exact Hb2.out | exact Hb3.out | exact Hb4.out
  have hq : Below w.heap.size w w1 := hq0.trans (hb1.mono hq0.size)
  have Hb1 := Lib.hid hq
  have hws1 : w.heap.size < w1.heap.size := Nat.lt_of_lt_of_le (show w.heap.size < (W).heap.size by first | exact hWs | assumption) hb1.size
  have Hn1 := Lib.hid (show NineAt w1 w.heap.size 0 t (.slice a t.kids.length cap) by first | exact HWn.out.below hb1 hWs | exact Hn1.out.below hb1 hws1 | exact Hn2.out.below hb1 hws2 | exact Hn3.out.below hb1 hws3)
  have Hbb := Lib.hid hb
  clear hb hb1 hq hq0 e0 e1 e2 e3 e4 e5 e6 e7 e8
  obtain ⟨e0, e1, e2, e3, e4, e5, e6, e7, e8⟩ := Hn1.out
  simp only [Nat.zero_add] at e0 e1 e2 e3 e4 e5 e6 e7 e8
  cases hf : Px.fits t with
  | false =>
    go_wp2_with fail
    go_ret
    exact ⟨false, rfl, fun h => (by cases h), Hb1.out⟩
  | true =>
    have hrw := (Hk.out.below Hb1.out).mono (N' := w1.heap.size) Hb1.out.size
    have Hrw := Lib.hid hrw
    have Hf := Lib.hid hf
    clear hrw Hbb hf
    go_wp2_with fail
    refine (Hfo.out w1 Hrw.out).mono ?_
    rintro e w5 ⟨b, rfl, hb, hb1⟩
    have Hb5 := Lib.hid (Hb1.out.trans (hb1.mono Hb1.out.size))
    have Hbb := Lib.hid hb
    clear hb hb1
    go_wp2_with fail
    go_ret
    exact ⟨b, rfl, fun hb => ⟨Hf.out, Hbb.out hb⟩, Hb5.out⟩
end Go.Proofs.YtbgpboiblggmiaaGreatDoor

