/-
  The walk over ParserLevels.
-/
import Derived.Test.YtdiogcedlppioaaGreatDoorLvd
set_option linter.unusedVariables false
set_option linter.unusedSimpArgs false
namespace Go.Proofs.YtdiogcedlppioaaGreatDoor
open Go.RowKit
open Px (St T D Res)

theorem Lv.good_at {i k : Nat} {x y : Px.Str} {p q : Nat} (hi : i < 13) (hk : k < 13) (hx : (opsL 8 0)[i]? = some x) (hy : (opsL 8 0)[k]? = some y) (hp : (levL 8 0)[i]? = some p) (hq : (levL 8 0)[k]? = some q) (neg : Bool) : Lv.good x y p q neg = true := by
  have h := Lv.all_true
  unfold Lv.all at h
  rw [List.all_eq_true] at h
  have h := h i (List.mem_range.2 hi)
  rw [List.all_eq_true] at h
  have h := h k (List.mem_range.2 hk)
  rw [Bool.and_eq_true] at h
  have e1 : (opsL 8 0).getD i [] = x := by rw [List.getD_eq_getElem?_getD, hx]; rfl
  have e2 : (opsL 8 0).getD k [] = y := by rw [List.getD_eq_getElem?_getD, hy]; rfl
  have e3 : (levL 8 0).getD i 0 = p := by rw [List.getD_eq_getElem?_getD, hp]; rfl
  have e4 : (levL 8 0).getD k 0 = q := by rw [List.getD_eq_getElem?_getD, hq]; rfl
  rw [e1, e2, e3, e4] at h
  cases neg
  · exact h.1
  · exact h.2
theorem Lv.facts {x y : Px.Str} {p q : Nat} {neg : Bool} (h : Lv.good x y p q neg = true) :
    ∃ X Y d e, Px.parseExpr (Lv.text x y neg) = (X, d) ∧ Px.parseExpr (Lv.text x y neg ++ [32, 63, 32, 97, 32, 58, 32, 98]) = (Y, e) ∧ Lv.small X = true ∧ Lv.small Y = true ∧
      ((p = 3 ∧ q = 3 ∧ d = [⟨20, Lv.pos x neg⟩] ∧ e = [⟨20, Lv.pos x neg⟩]) ∨ (¬ (p = 3 ∧ q = 3) ∧ d = [] ∧ e = [] ∧ stripT X = Lv.want x y p q neg ∧ stripT Y = Lv.cond x y p q neg)) := by
  unfold Lv.good at h
  obtain ⟨⟨X, d⟩, h1⟩ : ∃ r, r = Px.parseExpr (Lv.text x y neg) := ⟨_, rfl⟩
  obtain ⟨⟨Y, e⟩, h2⟩ : ∃ r, r = Px.parseExpr (Lv.text x y neg ++ [32, 63, 32, 97, 32, 58, 32, 98]) := ⟨_, rfl⟩
  rw [← h1, ← h2] at h
  simp only [Bool.and_eq_true] at h
  obtain ⟨⟨h3, h4⟩, h5⟩ := h
  refine ⟨X, Y, d, e, h1.symm, h2.symm, h3, h4, ?_⟩
  by_cases hpq : p = 3 ∧ q = 3
  · rw [if_pos hpq, Bool.and_eq_true] at h5
    exact .inl ⟨hpq.1, hpq.2, Lv.lone_eq h5.1, Lv.lone_eq h5.2⟩
  · rw [if_neg hpq] at h5
    simp only [Bool.and_eq_true, List.isEmpty_iff] at h5
    exact .inr ⟨hpq, h5.1.1.1, h5.1.1.2, eqT_eq _ _ h5.1.2, eqT_eq _ _ h5.2⟩

theorem ops_short {i : Nat} {x : Px.Str} (h : (opsL 8 0)[i]? = some x) : x.length ≤ 3 := by
  have h1 : (opsL 8 0).all (fun x => decide (x.length ≤ 3)) = true := by decide
  rw [List.all_eq_true] at h1
  simpa using h1 x (List.mem_of_getElem? h)
set_option maxRecDepth 100000 in
set_option maxHeartbeats 40000000 in
theorem levels_walk (f s : Nat) (neg : Bool) (w : World) (hS : SymsAt w) (hM : MaxAt w) (hf : f ≤ 255) (hs : s ≤ 255) :
    Calls Tryz.prog 5 #[.int .u8 f, .int .u8 s, .bool neg] w fun e w' => e = .returned (.bool true) ∧ Below w.heap.size w w' := by
  obtain ⟨i, hi⟩ : ∃ i, i = f % 13 := ⟨_, rfl⟩
  obtain ⟨k, hk⟩ : ∃ k, k = s % 13 := ⟨_, rfl⟩
  have hmod : ((f : Int) % 13) = (i : Int) := by rw [hi]; exact (Int.natCast_emod f 13).symm
  have hmod2 : ((s : Int) % 13) = (k : Int) := by rw [hk]; exact (Int.natCast_emod s 13).symm
  have hi13 : i < 13 := by omega
  have hk13 : k < 13 := by omega
  obtain ⟨x, hx⟩ : ∃ x, (opsL 8 0)[i]? = some x := ⟨_, List.getElem?_eq_getElem (by rw [show (opsL 8 0).length = 13 from by decide]; exact hi13)⟩
  obtain ⟨y, hy⟩ : ∃ x, (opsL 8 0)[k]? = some x := ⟨_, List.getElem?_eq_getElem (by rw [show (opsL 8 0).length = 13 from by decide]; exact hk13)⟩
  obtain ⟨p, hp⟩ : ∃ x, (levL 8 0)[i]? = some x := ⟨_, List.getElem?_eq_getElem (by rw [show (levL 8 0).length = 13 from by decide]; exact hi13)⟩
  obtain ⟨q, hq⟩ : ∃ x, (levL 8 0)[k]? = some x := ⟨_, List.getElem?_eq_getElem (by rw [show (levL 8 0).length = 13 from by decide]; exact hk13)⟩
  have hxl : x.length ≤ 3 := ops_short hx
  have hyl : y.length ≤ 3 := ops_short hy
  have Hx := Lib.hid hx
  have Hy := Lib.hid hy
  have Hp := Lib.hid hp
  have Hq := Lib.hid hq
  obtain ⟨X, Y, d, e, hX, hY, hsX, hsY, hcase⟩ := Lv.facts (Lv.good_at hi13 hk13 hx hy hp hq neg)
  have HX := Lib.hid hX
  have HY := Lib.hid hY
  have HsX := Lib.hid hsX
  have HsY := Lib.hid hsY
  have Hcase := Lib.hid hcase
  have HS := Lib.hid hS
  have HM := Lib.hid hM
  have HB := Lib.hid (Below.refl w.heap.size w)
  have hin : (0 : Int) ≤ (i : Int) := Int.natCast_nonneg _
  have hkn : (0 : Int) ≤ (k : Int) := Int.natCast_nonneg _
  clear hS hM hx hy hp hq hX hY hsX hsY hcase hi hk
  go_enter Tryz.func5, Tryz.ntmps5
  go_wp2_with fail
  refine (head_any w HS.out HM.out).mono ?_
  rintro e w1 ⟨rfl, hb1⟩
  have HS' := Lib.hid (symsAt_below HS.out hb1 (symsAt_lt HS.out))
  clear HS
  have HS := HS'
  clear HS'
  have HM' := Lib.hid (HM.out.below hb1 HM.out.lt)
  clear HM
  have HM := HM'
  clear HM'
  have HB' := Lib.hid (HB.out.trans (hb1.mono HB.out.size))
  clear HB
  have HB := HB'
  clear HB'
  (first | (have q' := Lib.hid (RW.out.below hb1); clear RW; have RW := q'; clear q') | skip)
  (first | (have q' := Lib.hid (T12.out.below hb1); clear T12; have T12 := q'; clear q') | skip)
  (first | (have q' := Lib.hid (T13.out.below hb1); clear T13; have T13 := q'; clear q') | skip)
  (first | (have q' := Lib.hid (T14.out.below hb1); clear T14; have T14 := q'; clear q') | skip)
  (first | (have q' := Lib.hid (T17.out.below hb1); clear T17; have T17 := q'; clear q') | skip)
  (first | (have q' := Lib.hid (T19.out.below hb1); clear T19; have T19 := q'; clear q') | skip)
  (first | (have q' := Lib.hid (T21.out.below hb1); clear T21; have T21 := q'; clear q') | skip)
  (first | (have q' := Lib.hid (T22.out.below hb1); clear T22; have T22 := q'; clear q') | skip)
  (first | (have q' := Lib.hid (D18.out.below hb1); clear D18; have D18 := q'; clear q') | skip)
  (first | (have q' := Lib.hid (D20.out.below hb1); clear D20; have D20 := q'; clear q') | skip)
  clear hb1
  go_wp2_with fail
  refine (operators_any w1).mono ?_
  rintro e w2 ⟨b1, c1, b2, c2, rfl, hb2, ho1, ho2⟩
  have HS' := Lib.hid (symsAt_below HS.out hb2 (symsAt_lt HS.out))
  clear HS
  have HS := HS'
  clear HS'
  have HM' := Lib.hid (HM.out.below hb2 HM.out.lt)
  clear HM
  have HM := HM'
  clear HM'
  have HB' := Lib.hid (HB.out.trans (hb2.mono HB.out.size))
  clear HB
  have HB := HB'
  clear HB'
  (first | (have q' := Lib.hid (RW.out.below hb2); clear RW; have RW := q'; clear q') | skip)
  (first | (have q' := Lib.hid (T12.out.below hb2); clear T12; have T12 := q'; clear q') | skip)
  (first | (have q' := Lib.hid (T13.out.below hb2); clear T13; have T13 := q'; clear q') | skip)
  (first | (have q' := Lib.hid (T14.out.below hb2); clear T14; have T14 := q'; clear q') | skip)
  (first | (have q' := Lib.hid (T17.out.below hb2); clear T17; have T17 := q'; clear q') | skip)
  (first | (have q' := Lib.hid (T19.out.below hb2); clear T19; have T19 := q'; clear q') | skip)
  (first | (have q' := Lib.hid (T21.out.below hb2); clear T21; have T21 := q'; clear q') | skip)
  (first | (have q' := Lib.hid (T22.out.below hb2); clear T22; have T22 := q'; clear q') | skip)
  (first | (have q' := Lib.hid (D18.out.below hb2); clear D18; have D18 := q'; clear q') | skip)
  (first | (have q' := Lib.hid (D20.out.below hb2); clear D20; have D20 := q'; clear q') | skip)
  have RW := Lib.hid (RowsAt.of ho1 ho2)
  clear hb2 ho1 ho2
  go_upto_region 3 with (fail)
  go_cut [10, 11] (fun va vb wx => va = .int .i64 i ∧ vb = .int .i64 k ∧ Hid (Below w2.heap.size w2 wx))
  case first =>
    go_quiet (fail)
    go_wp2_with fail
    go_meet
    exact ⟨by rw [hmod], by rw [hmod2], Lib.hid (Below.drewN' (Below.refl _ _) _)⟩
  obtain ⟨rfl, rfl, Hb3⟩ := hcut
  obtain ⟨w3, hw3⟩ : ∃ W, W = wc := ⟨_, rfl⟩
  subst hw3
  have hb3 := Hb3.out
  have HS' := Lib.hid (symsAt_below HS.out hb3 (symsAt_lt HS.out))
  clear HS
  have HS := HS'
  clear HS'
  have HM' := Lib.hid (HM.out.below hb3 HM.out.lt)
  clear HM
  have HM := HM'
  clear HM'
  have HB' := Lib.hid (HB.out.trans (hb3.mono HB.out.size))
  clear HB
  have HB := HB'
  clear HB'
  (first | (have q' := Lib.hid (RW.out.below hb3); clear RW; have RW := q'; clear q') | skip)
  (first | (have q' := Lib.hid (T12.out.below hb3); clear T12; have T12 := q'; clear q') | skip)
  (first | (have q' := Lib.hid (T13.out.below hb3); clear T13; have T13 := q'; clear q') | skip)
  (first | (have q' := Lib.hid (T14.out.below hb3); clear T14; have T14 := q'; clear q') | skip)
  (first | (have q' := Lib.hid (T17.out.below hb3); clear T17; have T17 := q'; clear q') | skip)
  (first | (have q' := Lib.hid (T19.out.below hb3); clear T19; have T19 := q'; clear q') | skip)
  (first | (have q' := Lib.hid (T21.out.below hb3); clear T21; have T21 := q'; clear q') | skip)
  (first | (have q' := Lib.hid (T22.out.below hb3); clear T22; have T22 := q'; clear q') | skip)
  (first | (have q' := Lib.hid (D18.out.below hb3); clear D18; have D18 := q'; clear q') | skip)
  (first | (have q' := Lib.hid (D20.out.below hb3); clear D20; have D20 := q'; clear q') | skip)
  clear hb3 Hb3 hmod hmod2
  go_upto_region 5 with (fail)
  refine (ref_leaf [97] 0 w3).mono ?_
  rintro e w4 ⟨rfl, hb4⟩
  have HS' := Lib.hid (symsAt_below HS.out hb4 (symsAt_lt HS.out))
  clear HS
  have HS := HS'
  clear HS'
  have HM' := Lib.hid (HM.out.below hb4 HM.out.lt)
  clear HM
  have HM := HM'
  clear HM'
  have HB' := Lib.hid (HB.out.trans (hb4.mono HB.out.size))
  clear HB
  have HB := HB'
  clear HB'
  (first | (have q' := Lib.hid (RW.out.below hb4); clear RW; have RW := q'; clear q') | skip)
  (first | (have q' := Lib.hid (T12.out.below hb4); clear T12; have T12 := q'; clear q') | skip)
  (first | (have q' := Lib.hid (T13.out.below hb4); clear T13; have T13 := q'; clear q') | skip)
  (first | (have q' := Lib.hid (T14.out.below hb4); clear T14; have T14 := q'; clear q') | skip)
  (first | (have q' := Lib.hid (T17.out.below hb4); clear T17; have T17 := q'; clear q') | skip)
  (first | (have q' := Lib.hid (T19.out.below hb4); clear T19; have T19 := q'; clear q') | skip)
  (first | (have q' := Lib.hid (T21.out.below hb4); clear T21; have T21 := q'; clear q') | skip)
  (first | (have q' := Lib.hid (T22.out.below hb4); clear T22; have T22 := q'; clear q') | skip)
  (first | (have q' := Lib.hid (D18.out.below hb4); clear D18; have D18 := q'; clear q') | skip)
  (first | (have q' := Lib.hid (D20.out.below hb4); clear D20; have D20 := q'; clear q') | skip)
  clear hb4
  go_upto_region 5 with (fail)
  refine (ref_leaf [98] 0 w4).mono ?_
  rintro e w5 ⟨rfl, hb5⟩
  have HS' := Lib.hid (symsAt_below HS.out hb5 (symsAt_lt HS.out))
  clear HS
  have HS := HS'
  clear HS'
  have HM' := Lib.hid (HM.out.below hb5 HM.out.lt)
  clear HM
  have HM := HM'
  clear HM'
  have HB' := Lib.hid (HB.out.trans (hb5.mono HB.out.size))
  clear HB
  have HB := HB'
  clear HB'
  (first | (have q' := Lib.hid (RW.out.below hb5); clear RW; have RW := q'; clear q') | skip)
  (first | (have q' := Lib.hid (T12.out.below hb5); clear T12; have T12 := q'; clear q') | skip)
  (first | (have q' := Lib.hid (T13.out.below hb5); clear T13; have T13 := q'; clear q') | skip)
  (first | (have q' := Lib.hid (T14.out.below hb5); clear T14; have T14 := q'; clear q') | skip)
  (first | (have q' := Lib.hid (T17.out.below hb5); clear T17; have T17 := q'; clear q') | skip)
  (first | (have q' := Lib.hid (T19.out.below hb5); clear T19; have T19 := q'; clear q') | skip)
  (first | (have q' := Lib.hid (T21.out.below hb5); clear T21; have T21 := q'; clear q') | skip)
  (first | (have q' := Lib.hid (T22.out.below hb5); clear T22; have T22 := q'; clear q') | skip)
  (first | (have q' := Lib.hid (D18.out.below hb5); clear D18; have D18 := q'; clear q') | skip)
  (first | (have q' := Lib.hid (D20.out.below hb5); clear D20; have D20 := q'; clear q') | skip)
  clear hb5
  go_upto_region 5 with (fail)
  refine (ref_leaf [99] 0 w5).mono ?_
  rintro e w6 ⟨rfl, hb6⟩
  have HS' := Lib.hid (symsAt_below HS.out hb6 (symsAt_lt HS.out))
  clear HS
  have HS := HS'
  clear HS'
  have HM' := Lib.hid (HM.out.below hb6 HM.out.lt)
  clear HM
  have HM := HM'
  clear HM'
  have HB' := Lib.hid (HB.out.trans (hb6.mono HB.out.size))
  clear HB
  have HB := HB'
  clear HB'
  (first | (have q' := Lib.hid (RW.out.below hb6); clear RW; have RW := q'; clear q') | skip)
  (first | (have q' := Lib.hid (T12.out.below hb6); clear T12; have T12 := q'; clear q') | skip)
  (first | (have q' := Lib.hid (T13.out.below hb6); clear T13; have T13 := q'; clear q') | skip)
  (first | (have q' := Lib.hid (T14.out.below hb6); clear T14; have T14 := q'; clear q') | skip)
  (first | (have q' := Lib.hid (T17.out.below hb6); clear T17; have T17 := q'; clear q') | skip)
  (first | (have q' := Lib.hid (T19.out.below hb6); clear T19; have T19 := q'; clear q') | skip)
  (first | (have q' := Lib.hid (T21.out.below hb6); clear T21; have T21 := q'; clear q') | skip)
  (first | (have q' := Lib.hid (T22.out.below hb6); clear T22; have T22 := q'; clear q') | skip)
  (first | (have q' := Lib.hid (D18.out.below hb6); clear D18; have D18 := q'; clear q') | skip)
  (first | (have q' := Lib.hid (D20.out.below hb6); clear D20; have D20 := q'; clear q') | skip)
  clear hb6
  go_upto_region 5 with (fail)
  have hA1 : b1 < w6.heap.size ∧ b2 < w6.heap.size ∧ 1 < w6.heap.size ∧ w.heap.size ≤ w6.heap.size := ⟨RW.out.l1, RW.out.l2, HM.out.lt, HB.out.size⟩
  obtain ⟨w7, hw7⟩ : ∃ W, W = ((w6.alloc (.cells #[.int .i64 (Hd.rf [97] 0).kind, .string ⟨(Hd.rf [97] 0).name.toArray⟩, .string ⟨(Hd.rf [97] 0).other.toArray⟩, .int .i64 (Hd.rf [97] 0).n, .int .i64 (Hd.rf [97] 0).len, .int .i64 (Hd.rf [97] 0).init, .bool (Hd.rf [97] 0).ghost, .slice none 0 0, .int .i64 (Hd.rf [97] 0).off] 25)).alloc (.cells #[.int .i64 (Hd.rf [98] 0).kind, .string ⟨(Hd.rf [98] 0).name.toArray⟩, .string ⟨(Hd.rf [98] 0).other.toArray⟩, .int .i64 (Hd.rf [98] 0).n, .int .i64 (Hd.rf [98] 0).len, .int .i64 (Hd.rf [98] 0).init, .bool (Hd.rf [98] 0).ghost, .slice none 0 0, .int .i64 (Hd.rf [98] 0).off] 25)).alloc (.cells #[.int .i64 (Hd.rf [99] 0).kind, .string ⟨(Hd.rf [99] 0).name.toArray⟩, .string ⟨(Hd.rf [99] 0).other.toArray⟩, .int .i64 (Hd.rf [99] 0).n, .int .i64 (Hd.rf [99] 0).len, .int .i64 (Hd.rf [99] 0).init, .bool (Hd.rf [99] 0).ghost, .slice none 0 0, .int .i64 (Hd.rf [99] 0).off] 25) := ⟨_, rfl⟩
  have hb7 : Below w6.heap.size w6 w7 := by rw [hw7]; exact (((Below.refl _ _).alloc (Nat.le_refl _) _).alloc (by simp) _).alloc (by simp; omega) _
  have T12 := Lib.hid (show TrR (fun i => i ≠ w6.heap.size) w7 w6.heap.size (Lv.first false) by rw [hw7]; exact ((TrR.leaf [97] 0 rfl).below ((Below.refl _ _).alloc (Nat.le_refl _) _)).below ((Below.refl _ _).alloc (Nat.le_refl _) _))
  have T13 := Lib.hid (show TrR (fun i => i ≠ w6.heap.size) w7 (w6.heap.size + 1) (Hd.rf [98] 0) by rw [hw7]; exact (TrR.leaf [98] 0 (by simp)).below ((Below.refl _ _).alloc (Nat.le_refl _) _))
  have T14 := Lib.hid (show TrR (fun i => i ≠ w6.heap.size) w7 (w6.heap.size + 1 + 1) (Hd.rf [99] 0) by rw [hw7]; exact TrR.leaf [99] 0 (by simp))
  have HS' := Lib.hid (symsAt_below HS.out hb7 (symsAt_lt HS.out))
  clear HS
  have HS := HS'
  clear HS'
  have HM' := Lib.hid (HM.out.below hb7 HM.out.lt)
  clear HM
  have HM := HM'
  clear HM'
  have HB' := Lib.hid (HB.out.trans (hb7.mono HB.out.size))
  clear HB
  have HB := HB'
  clear HB'
  (first | (have q' := Lib.hid (RW.out.below hb7); clear RW; have RW := q'; clear q') | skip)
  rw [← hw7]
  have hA2 : w6.heap.size < w7.heap.size := by rw [hw7]; simp; omega
  clear hw7 hb7
  obtain ⟨A, hA⟩ : ∃ A, A = w6.heap.size := ⟨_, rfl⟩
  rw [← hA] at T12 T13 T14 hA1 hA2 ⊢
  clear hA
  have cx := RW.out.c1 i x Hx.out
  have cy := RW.out.c1 k y Hy.out
  have hi13' : (i : Int) < 13 := by omega
  have hk13' : (k : Int) < 13 := by omega
  go_cut [15] (fun v wx => v = .string ⟨(Lv.text x y false).toArray⟩ ∧ Hid (Below w7.heap.size w7 wx))
  case first =>
    go_quiet (fail)
    go_wp2_with fail
    go_meet
    exact ⟨rfl, Lib.hid (Below.drewN' (Below.refl _ _) _)⟩
  obtain ⟨rfl, Hb8⟩ := hcut
  obtain ⟨w8, hw8⟩ : ∃ W, W = wc := ⟨_, rfl⟩
  subst hw8
  have hb8 := Hb8.out
  have HS' := Lib.hid (symsAt_below HS.out hb8 (symsAt_lt HS.out))
  clear HS
  have HS := HS'
  clear HS'
  have HM' := Lib.hid (HM.out.below hb8 HM.out.lt)
  clear HM
  have HM := HM'
  clear HM'
  have HB' := Lib.hid (HB.out.trans (hb8.mono HB.out.size))
  clear HB
  have HB := HB'
  clear HB'
  (first | (have q' := Lib.hid (RW.out.below hb8); clear RW; have RW := q'; clear q') | skip)
  (first | (have q' := Lib.hid (T12.out.below hb8); clear T12; have T12 := q'; clear q') | skip)
  (first | (have q' := Lib.hid (T13.out.below hb8); clear T13; have T13 := q'; clear q') | skip)
  (first | (have q' := Lib.hid (T14.out.below hb8); clear T14; have T14 := q'; clear q') | skip)
  (first | (have q' := Lib.hid (T17.out.below hb8); clear T17; have T17 := q'; clear q') | skip)
  (first | (have q' := Lib.hid (T19.out.below hb8); clear T19; have T19 := q'; clear q') | skip)
  (first | (have q' := Lib.hid (T21.out.below hb8); clear T21; have T21 := q'; clear q') | skip)
  (first | (have q' := Lib.hid (T22.out.below hb8); clear T22; have T22 := q'; clear q') | skip)
  (first | (have q' := Lib.hid (D18.out.below hb8); clear D18; have D18 := q'; clear q') | skip)
  (first | (have q' := Lib.hid (D20.out.below hb8); clear D20; have D20 := q'; clear q') | skip)
  have hA3 : A < w8.heap.size := by have := hb8.size; omega
  clear cx cy hb8 Hb8 hA2
  have cx := RW.out.c1 i x Hx.out
  go_upto_if 60 with (fail)
  go_cut [15, 16] (fun v n wx => v = .string ⟨(Lv.text x y neg).toArray⟩ ∧ n = .int .i64 (Lv.pos x neg) ∧ Hid (TrR (fun i => i ≠ A) wx A (Lv.first neg)) ∧ Hid (TrR (fun i => i ≠ A) wx (A + 1) (Hd.rf [98] 0)) ∧ Hid (TrR (fun i => i ≠ A) wx (A + 1 + 1) (Hd.rf [99] 0)) ∧ Hid (SymsAt wx) ∧ Hid (MaxAt wx) ∧ Hid (Below w.heap.size w wx) ∧ Hid (RowsAt wx b1 b2))
  case first =>
    cases neg
    · go_wp2_with fail
      go_meet
      refine ⟨rfl, ?_, T12, T13, T14, HS, HM, HB, RW⟩
      congr 1
      simp [Lv.pos]
      omega
    · obtain ⟨a12, c12, z12, r12⟩ := T12.out
      have z12l := z12.lt
      obtain ⟨z12c, z12f⟩ := obj_facts z12
      have R12 := Lib.hid r12
      clear r12
      have hT0 := Lib.hid (show Lv.text x y true = [33] ++ Lv.text x y false from rfl)
      have hp0 := Lib.hid (show Lv.pos x true = (2 + (x.length : Int) + 3) + 1 by simp [Lv.pos]; omega)
      have ht0 : (Lv.text x y false).length ≤ 100 := by simp [Lv.text]; omega
      obtain ⟨T0, hT1⟩ : ∃ T0, T0 = Lv.text x y false := ⟨_, rfl⟩
      rw [← hT1] at hT0 ht0 ⊢
      clear hT1
      have ht1 : ¬ (9223372036854775807 < 1 + T0.length) := by omega
      have ht2 : ¬ (9223372036854775807 < T0.length + 1) := by omega
      go_wp2_with fail
      go_meet
      rw [storeN _ _ _ _ _ _ _ _ _ (HasN.of z12 (by rfl))]
      refine ⟨?_, ?_, put_not z12 R12.out T13.out T14.out HS.out HM.out HB.out RW.out hA1 rfl⟩
      · rw [hT0.out, ← ba_app]
      · rw [hp0.out]
  clear T12 T13 T14 HS HM HB RW cx
  obtain ⟨rfl, rfl, T12, T13, T14, HS, HM, HB, RW⟩ := hcut
  obtain ⟨w11, hw11⟩ : ∃ W, W = wc := ⟨_, rfl⟩
  subst hw11
  have hTl : (Lv.text x y neg).length ≤ 110 := by cases neg <;> (simp [Lv.text]; omega)
  obtain ⟨T, hT⟩ : ∃ T, T = Lv.text x y neg := ⟨_, rfl⟩
  rw [← hT] at HX HY hTl ⊢
  clear hT
  have hTs : (⟨T.toArray⟩ : ByteArray).size ≤ maxLen := by show T.toArray.size ≤ _; rw [List.size_toArray]; unfold maxLen; omega
  have HTs := Lib.hid hTs
  have hUs : ((⟨T.toArray⟩ : ByteArray) ++ { data := #[32, 63, 32, 97, 32, 58, 32, 98] }).size ≤ maxLen := by
    have e : (⟨T.toArray⟩ : ByteArray).size = T.length := by show T.toArray.size = _; simp
    rw [ByteArray.size_append, e, show ({ data := #[32, 63, 32, 97, 32, 58, 32, 98] } : ByteArray).size = 8 from rfl]
    unfold maxLen
    omega
  have HUs := Lib.hid hUs
  have HY' := Lib.hid (show Px.parseExpr ((⟨T.toArray⟩ : ByteArray) ++ { data := #[32, 63, 32, 97, 32, 58, 32, 98] }).data.toList = (Y, e) by
    rw [show ({ data := #[32, 63, 32, 97, 32, 58, 32, 98] } : ByteArray) = ⟨([32, 63, 32, 97, 32, 58, 32, 98] : List UInt8).toArray⟩ from rfl, ba_app]
    exact HY.out)
  have ht8 : ¬ (9223372036854775807 < T.length + 8) := by omega
  clear hTs hUs HY
  go_wp2_with fail
  refine (parseExpr_any ⟨T.toArray⟩ w11 HS.out HTs.out).mono ?_
  intro e' w12 hp
  rw [show Px.parseExpr (⟨T.toArray⟩ : ByteArray).data.toList = (X, d) from HX.out] at hp
  obtain ⟨hb12, p12, q12, dp, dq, rfl, hr12, hd12⟩ := hp
  have HS' := Lib.hid (symsAt_below HS.out hb12 (symsAt_lt HS.out))
  clear HS
  have HS := HS'
  clear HS'
  have HM' := Lib.hid (HM.out.below hb12 HM.out.lt)
  clear HM
  have HM := HM'
  clear HM'
  have HB' := Lib.hid (HB.out.trans (hb12.mono HB.out.size))
  clear HB
  have HB := HB'
  clear HB'
  (first | (have q' := Lib.hid (RW.out.below hb12); clear RW; have RW := q'; clear q') | skip)
  (first | (have q' := Lib.hid (T12.out.below hb12); clear T12; have T12 := q'; clear q') | skip)
  (first | (have q' := Lib.hid (T13.out.below hb12); clear T13; have T13 := q'; clear q') | skip)
  (first | (have q' := Lib.hid (T14.out.below hb12); clear T14; have T14 := q'; clear q') | skip)
  (first | (have q' := Lib.hid (T17.out.below hb12); clear T17; have T17 := q'; clear q') | skip)
  (first | (have q' := Lib.hid (T19.out.below hb12); clear T19; have T19 := q'; clear q') | skip)
  (first | (have q' := Lib.hid (T21.out.below hb12); clear T21; have T21 := q'; clear q') | skip)
  (first | (have q' := Lib.hid (T22.out.below hb12); clear T22; have T22 := q'; clear q') | skip)
  (first | (have q' := Lib.hid (D18.out.below hb12); clear D18; have D18 := q'; clear q') | skip)
  (first | (have q' := Lib.hid (D20.out.below hb12); clear D20; have D20 := q'; clear q') | skip)
  have D18 := Lib.hid hd12
  obtain ⟨w13, hw13⟩ : ∃ W, W = w12.alloc (.cells #[.int .i64 X.kind, .string ⟨X.name.toArray⟩, .string ⟨X.other.toArray⟩, .int .i64 X.n, .int .i64 X.len, .int .i64 X.init, .bool X.ghost, .slice p12 X.kids.length q12, .int .i64 X.off] 25) := ⟨_, rfl⟩
  have hb13 : Below w12.heap.size w12 w13 := by rw [hw13]; exact (Below.refl _ _).alloc (Nat.le_refl _) _
  have T17 := Lib.hid (show Tr w13 w12.heap.size X by rw [hw13]; exact Tr.new hr12 rfl)
  have HS' := Lib.hid (symsAt_below HS.out hb13 (symsAt_lt HS.out))
  clear HS
  have HS := HS'
  clear HS'
  have HM' := Lib.hid (HM.out.below hb13 HM.out.lt)
  clear HM
  have HM := HM'
  clear HM'
  have HB' := Lib.hid (HB.out.trans (hb13.mono HB.out.size))
  clear HB
  have HB := HB'
  clear HB'
  have T17' := T17
  clear T17
  (first | (have q' := Lib.hid (RW.out.below hb13); clear RW; have RW := q'; clear q') | skip)
  (first | (have q' := Lib.hid (T12.out.below hb13); clear T12; have T12 := q'; clear q') | skip)
  (first | (have q' := Lib.hid (T13.out.below hb13); clear T13; have T13 := q'; clear q') | skip)
  (first | (have q' := Lib.hid (T14.out.below hb13); clear T14; have T14 := q'; clear q') | skip)
  (first | (have q' := Lib.hid (T17.out.below hb13); clear T17; have T17 := q'; clear q') | skip)
  (first | (have q' := Lib.hid (T19.out.below hb13); clear T19; have T19 := q'; clear q') | skip)
  (first | (have q' := Lib.hid (T21.out.below hb13); clear T21; have T21 := q'; clear q') | skip)
  (first | (have q' := Lib.hid (T22.out.below hb13); clear T22; have T22 := q'; clear q') | skip)
  (first | (have q' := Lib.hid (D18.out.below hb13); clear D18; have D18 := q'; clear q') | skip)
  (first | (have q' := Lib.hid (D20.out.below hb13); clear D20; have D20 := q'; clear q') | skip)
  have T17 := T17'
  clear T17'
  clear hb12 hr12 hd12 hb13
  unfold nodeVal
  go_upto_region 12 with (fail)
  rw [← hw13]
  clear hw13
  go_wp2_with fail
  refine (parseExpr_any _ w13 HS.out HUs.out).mono ?_
  intro e' w14 hp
  rw [HY'.out] at hp
  obtain ⟨hb14, p14, q14, ep, eq, rfl, hr14, hd14⟩ := hp
  have HS' := Lib.hid (symsAt_below HS.out hb14 (symsAt_lt HS.out))
  clear HS
  have HS := HS'
  clear HS'
  have HM' := Lib.hid (HM.out.below hb14 HM.out.lt)
  clear HM
  have HM := HM'
  clear HM'
  have HB' := Lib.hid (HB.out.trans (hb14.mono HB.out.size))
  clear HB
  have HB := HB'
  clear HB'
  (first | (have q' := Lib.hid (RW.out.below hb14); clear RW; have RW := q'; clear q') | skip)
  (first | (have q' := Lib.hid (T12.out.below hb14); clear T12; have T12 := q'; clear q') | skip)
  (first | (have q' := Lib.hid (T13.out.below hb14); clear T13; have T13 := q'; clear q') | skip)
  (first | (have q' := Lib.hid (T14.out.below hb14); clear T14; have T14 := q'; clear q') | skip)
  (first | (have q' := Lib.hid (T17.out.below hb14); clear T17; have T17 := q'; clear q') | skip)
  (first | (have q' := Lib.hid (T19.out.below hb14); clear T19; have T19 := q'; clear q') | skip)
  (first | (have q' := Lib.hid (T21.out.below hb14); clear T21; have T21 := q'; clear q') | skip)
  (first | (have q' := Lib.hid (T22.out.below hb14); clear T22; have T22 := q'; clear q') | skip)
  (first | (have q' := Lib.hid (D18.out.below hb14); clear D18; have D18 := q'; clear q') | skip)
  (first | (have q' := Lib.hid (D20.out.below hb14); clear D20; have D20 := q'; clear q') | skip)
  have D20 := Lib.hid hd14
  obtain ⟨w15, hw15⟩ : ∃ W, W = w14.alloc (.cells #[.int .i64 Y.kind, .string ⟨Y.name.toArray⟩, .string ⟨Y.other.toArray⟩, .int .i64 Y.n, .int .i64 Y.len, .int .i64 Y.init, .bool Y.ghost, .slice p14 Y.kids.length q14, .int .i64 Y.off] 25) := ⟨_, rfl⟩
  have hb15 : Below w14.heap.size w14 w15 := by rw [hw15]; exact (Below.refl _ _).alloc (Nat.le_refl _) _
  have T19 := Lib.hid (show Tr w15 w14.heap.size Y by rw [hw15]; exact Tr.new hr14 rfl)
  have HS' := Lib.hid (symsAt_below HS.out hb15 (symsAt_lt HS.out))
  clear HS
  have HS := HS'
  clear HS'
  have HM' := Lib.hid (HM.out.below hb15 HM.out.lt)
  clear HM
  have HM := HM'
  clear HM'
  have HB' := Lib.hid (HB.out.trans (hb15.mono HB.out.size))
  clear HB
  have HB := HB'
  clear HB'
  have T19' := T19
  clear T19
  (first | (have q' := Lib.hid (RW.out.below hb15); clear RW; have RW := q'; clear q') | skip)
  (first | (have q' := Lib.hid (T12.out.below hb15); clear T12; have T12 := q'; clear q') | skip)
  (first | (have q' := Lib.hid (T13.out.below hb15); clear T13; have T13 := q'; clear q') | skip)
  (first | (have q' := Lib.hid (T14.out.below hb15); clear T14; have T14 := q'; clear q') | skip)
  (first | (have q' := Lib.hid (T17.out.below hb15); clear T17; have T17 := q'; clear q') | skip)
  (first | (have q' := Lib.hid (T19.out.below hb15); clear T19; have T19 := q'; clear q') | skip)
  (first | (have q' := Lib.hid (T21.out.below hb15); clear T21; have T21 := q'; clear q') | skip)
  (first | (have q' := Lib.hid (T22.out.below hb15); clear T22; have T22 := q'; clear q') | skip)
  (first | (have q' := Lib.hid (D18.out.below hb15); clear D18; have D18 := q'; clear q') | skip)
  (first | (have q' := Lib.hid (D20.out.below hb15); clear D20; have D20 := q'; clear q') | skip)
  have T19 := T19'
  clear T19'
  clear hb14 hr14 hd14 hb15
  unfold nodeVal
  go_upto_region 13 with (fail)
  rw [← hw15]
  clear hw15
  have hfx : decide (cntT X 4000 ≤ 4000) = true := by have h := HsX.out; unfold Lv.small at h; simp only [Bool.and_eq_true] at h; exact h.1.1
  have hfy : decide (cntT Y 4000 ≤ 4000) = true := by have h := HsY.out; unfold Lv.small at h; simp only [Bool.and_eq_true] at h; exact h.1.1
  have hzX : Px.size X ≤ 900000 := by have h := HsX.out; unfold Lv.small at h; simp only [Bool.and_eq_true, decide_eq_true_eq] at h; exact h.1.2
  have hzY : Px.size Y ≤ 900000 := by have h := HsY.out; unfold Lv.small at h; simp only [Bool.and_eq_true, decide_eq_true_eq] at h; exact h.1.2
  have Hfx := Lib.hid hfx
  have Hfy := Lib.hid hfy
  clear hfx hfy ht8
  obtain ⟨a17, c17, z17, r17⟩ := T17.out
  have z17l := z17.lt
  obtain ⟨z17c, z17f⟩ := obj_facts z17
  have R17 := Lib.hid r17
  clear r17
  go_wp2_with fail
  refine (few_any X 4000 a17 c17 w15 (by decide) (by decide) R17.out).mono ?_
  rintro e' w16 ⟨rfl, hb16⟩
  rw [Hfx.out]
  clear z17 z17l z17c z17f R17
  have HS' := Lib.hid (symsAt_below HS.out hb16 (symsAt_lt HS.out))
  clear HS
  have HS := HS'
  clear HS'
  have HM' := Lib.hid (HM.out.below hb16 HM.out.lt)
  clear HM
  have HM := HM'
  clear HM'
  have HB' := Lib.hid (HB.out.trans (hb16.mono HB.out.size))
  clear HB
  have HB := HB'
  clear HB'
  (first | (have q' := Lib.hid (RW.out.below hb16); clear RW; have RW := q'; clear q') | skip)
  (first | (have q' := Lib.hid (T12.out.below hb16); clear T12; have T12 := q'; clear q') | skip)
  (first | (have q' := Lib.hid (T13.out.below hb16); clear T13; have T13 := q'; clear q') | skip)
  (first | (have q' := Lib.hid (T14.out.below hb16); clear T14; have T14 := q'; clear q') | skip)
  (first | (have q' := Lib.hid (T17.out.below hb16); clear T17; have T17 := q'; clear q') | skip)
  (first | (have q' := Lib.hid (T19.out.below hb16); clear T19; have T19 := q'; clear q') | skip)
  (first | (have q' := Lib.hid (T21.out.below hb16); clear T21; have T21 := q'; clear q') | skip)
  (first | (have q' := Lib.hid (T22.out.below hb16); clear T22; have T22 := q'; clear q') | skip)
  (first | (have q' := Lib.hid (D18.out.below hb16); clear D18; have D18 := q'; clear q') | skip)
  (first | (have q' := Lib.hid (D20.out.below hb16); clear D20; have D20 := q'; clear q') | skip)
  clear hb16
  obtain ⟨a19, c19, z19, r19⟩ := T19.out
  have z19l := z19.lt
  obtain ⟨z19c, z19f⟩ := obj_facts z19
  have R19 := Lib.hid r19
  clear r19
  go_wp2_with fail
  refine (few_any Y 4000 a19 c19 w16 (by decide) (by decide) R19.out).mono ?_
  rintro e' w17 ⟨rfl, hb17⟩
  rw [Hfy.out]
  clear z19 z19l z19c z19f R19
  have HS' := Lib.hid (symsAt_below HS.out hb17 (symsAt_lt HS.out))
  clear HS
  have HS := HS'
  clear HS'
  have HM' := Lib.hid (HM.out.below hb17 HM.out.lt)
  clear HM
  have HM := HM'
  clear HM'
  have HB' := Lib.hid (HB.out.trans (hb17.mono HB.out.size))
  clear HB
  have HB := HB'
  clear HB'
  (first | (have q' := Lib.hid (RW.out.below hb17); clear RW; have RW := q'; clear q') | skip)
  (first | (have q' := Lib.hid (T12.out.below hb17); clear T12; have T12 := q'; clear q') | skip)
  (first | (have q' := Lib.hid (T13.out.below hb17); clear T13; have T13 := q'; clear q') | skip)
  (first | (have q' := Lib.hid (T14.out.below hb17); clear T14; have T14 := q'; clear q') | skip)
  (first | (have q' := Lib.hid (T17.out.below hb17); clear T17; have T17 := q'; clear q') | skip)
  (first | (have q' := Lib.hid (T19.out.below hb17); clear T19; have T19 := q'; clear q') | skip)
  (first | (have q' := Lib.hid (T21.out.below hb17); clear T21; have T21 := q'; clear q') | skip)
  (first | (have q' := Lib.hid (T22.out.below hb17); clear T22; have T22 := q'; clear q') | skip)
  (first | (have q' := Lib.hid (D18.out.below hb17); clear D18; have D18 := q'; clear q') | skip)
  (first | (have q' := Lib.hid (D20.out.below hb17); clear D20; have D20 := q'; clear q') | skip)
  clear hb17
  go_upto_region 15 with (fail)
  have c2i := RW.out.c2 i p Hp.out
  have c2k := RW.out.c2 k q Hq.out
  rcases Hcase.out with ⟨hp3, hq3, rfl, rfl⟩ | ⟨hpq, rfl, rfl, hEX, hEY⟩
  · as_aux_lemma =>
    have e1 : ((p : Int) == 3) = true := by rw [hp3]; rfl
    have e2 : ((q : Int) == 3) = true := by rw [hq3]; rfl
    clear hp3 hq3
    go_wp2_with fail
    refine (one_any 20 (Lv.pos x neg) dp dq _ D18.out).mono ?_
    rintro e' w18 ⟨rfl, hb18⟩
    have HS' := Lib.hid (symsAt_below HS.out hb18 (symsAt_lt HS.out))
    clear HS
    have HS := HS'
    clear HS'
    have HM' := Lib.hid (HM.out.below hb18 HM.out.lt)
    clear HM
    have HM := HM'
    clear HM'
    have HB' := Lib.hid (HB.out.trans (hb18.mono HB.out.size))
    clear HB
    have HB := HB'
    clear HB'
    (first | (have q' := Lib.hid (RW.out.below hb18); clear RW; have RW := q'; clear q') | skip)
    (first | (have q' := Lib.hid (T12.out.below hb18); clear T12; have T12 := q'; clear q') | skip)
    (first | (have q' := Lib.hid (T13.out.below hb18); clear T13; have T13 := q'; clear q') | skip)
    (first | (have q' := Lib.hid (T14.out.below hb18); clear T14; have T14 := q'; clear q') | skip)
    (first | (have q' := Lib.hid (T17.out.below hb18); clear T17; have T17 := q'; clear q') | skip)
    (first | (have q' := Lib.hid (T19.out.below hb18); clear T19; have T19 := q'; clear q') | skip)
    (first | (have q' := Lib.hid (T21.out.below hb18); clear T21; have T21 := q'; clear q') | skip)
    (first | (have q' := Lib.hid (T22.out.below hb18); clear T22; have T22 := q'; clear q') | skip)
    (first | (have q' := Lib.hid (D18.out.below hb18); clear D18; have D18 := q'; clear q') | skip)
    (first | (have q' := Lib.hid (D20.out.below hb18); clear D20; have D20 := q'; clear q') | skip)
    clear hb18
    go_wp2_with fail
    refine (one_any 20 (Lv.pos x neg) ep eq _ D20.out).mono ?_
    rintro e' w19 ⟨rfl, hb19⟩
    have HB := Lib.hid (HB.out.trans (hb19.mono HB.out.size))
    go_wp2_with fail
    go_ret
    exact ⟨ret_bool (by simp), HB.out⟩
  have HEX := Lib.hid hEX
  have HEY := Lib.hid hEY
  clear hEX hEY
  go_cut [98] (fun v wx => v = .bool false ∧ Hid (Below w17.heap.size w17 wx))
  case first => as_aux_lemma =>
    by_cases hp3 : p = 3
    · have e1 : ((p : Int) == 3) = true := by rw [hp3]; rfl
      have e2 : ((q : Int) == 3) = false := beq_eq_false_iff_ne.2 (by omega)
      clear hp3 hpq
      go_wp2_with fail
      go_meet
      exact ⟨rfl, Lib.hid (Below.refl _ _)⟩
    · have e1 : ((p : Int) == 3) = false := beq_eq_false_iff_ne.2 (by omega)
      clear hp3 hpq
      go_wp2_with fail
      go_meet
      exact ⟨rfl, Lib.hid (Below.refl _ _)⟩
  obtain ⟨rfl, Hb18⟩ := hcut
  obtain ⟨w18, hw18⟩ : ∃ W, W = wc := ⟨_, rfl⟩
  subst hw18
  have hb18 := Hb18.out
  have HS' := Lib.hid (symsAt_below HS.out hb18 (symsAt_lt HS.out))
  clear HS
  have HS := HS'
  clear HS'
  have HM' := Lib.hid (HM.out.below hb18 HM.out.lt)
  clear HM
  have HM := HM'
  clear HM'
  have HB' := Lib.hid (HB.out.trans (hb18.mono HB.out.size))
  clear HB
  have HB := HB'
  clear HB'
  (first | (have q' := Lib.hid (RW.out.below hb18); clear RW; have RW := q'; clear q') | skip)
  (first | (have q' := Lib.hid (T12.out.below hb18); clear T12; have T12 := q'; clear q') | skip)
  (first | (have q' := Lib.hid (T13.out.below hb18); clear T13; have T13 := q'; clear q') | skip)
  (first | (have q' := Lib.hid (T14.out.below hb18); clear T14; have T14 := q'; clear q') | skip)
  (first | (have q' := Lib.hid (T17.out.below hb18); clear T17; have T17 := q'; clear q') | skip)
  (first | (have q' := Lib.hid (T19.out.below hb18); clear T19; have T19 := q'; clear q') | skip)
  (first | (have q' := Lib.hid (T21.out.below hb18); clear T21; have T21 := q'; clear q') | skip)
  (first | (have q' := Lib.hid (T22.out.below hb18); clear T22; have T22 := q'; clear q') | skip)
  (first | (have q' := Lib.hid (D18.out.below hb18); clear D18; have D18 := q'; clear q') | skip)
  (first | (have q' := Lib.hid (D20.out.below hb18); clear D20; have D20 := q'; clear q') | skip)
  clear hb18 Hb18 c2i c2k hpq
  go_upto_region 17 with (fail)
  have cx := RW.out.c1 i x Hx.out
  have cy := RW.out.c1 k y Hy.out
  have l1 := RW.out.l1
  obtain ⟨a12, c12, z12, r12⟩ := T12.out
  have z12l := z12.lt
  have R12 := Lib.hid r12
  clear r12
  obtain ⟨a13, c13, z13, r13⟩ := T13.out
  have z13l := z13.lt
  have R13 := Lib.hid r13
  clear r13
  obtain ⟨a14, c14, z14, r14⟩ := T14.out
  have z14l := z14.lt
  have R14 := Lib.hid r14
  clear r14
  go_cut [21] (fun v wx => ∃ g, v = .pointer (some ⟨g, 0, none⟩) ∧ w18.heap.size ≤ g ∧ Hid (TrR (fun i => i ≠ g) wx g (Hd.bin y 0 (Hd.bin x 0 (Lv.first neg) (Hd.rf [98] 0)) (Hd.rf [99] 0))) ∧ Hid (Below w18.heap.size w18 wx))
  case first => as_aux_lemma =>
    refine wp_region_held_drew (S := (fun w' => Below w18.heap.size w18 w')) (by as_aux_lemma => kernel_rfl) ((Below.refl _ _).drew) (fun hHeld => ?_)
    obtain ⟨v1, hv1⟩ : ∃ V, V = w18.drew := ⟨_, rfl⟩
    rw [← hv1] at hHeld ⊢
    clear hv1
    refine take_in (i := 0) (v := .slice (some ⟨b1, 0, none⟩) 13 c1) rfl (by as_aux_lemma => kernel_rfl) (by as_aux_lemma => kernel_rfl) (by as_aux_lemma => kernel_rfl) (fun _ _ _ h => h) (by rfl) (fun _ _ => by first | rfl | (go_simp; done) | (go_simp; rfl)) hHeld ?_
    (try simp only [Act.put, List.setIfInBounds_toArray, List.set_cons_zero, List.set_cons_succ])
    refine take_in (i := 1) (v := .int .i64 k) rfl (by as_aux_lemma => kernel_rfl) (by as_aux_lemma => kernel_rfl) (by as_aux_lemma => kernel_rfl) (fun _ _ _ h => h) (by rfl) (fun _ _ => by first | rfl | (go_simp; done) | (go_simp; rfl)) hHeld ?_
    (try simp only [Act.put, List.setIfInBounds_toArray, List.set_cons_zero, List.set_cons_succ])
    refine take_in (i := 2) (v := .pointer (some ⟨b1, k, none⟩)) rfl (by as_aux_lemma => kernel_rfl) (by as_aux_lemma => kernel_rfl) (by as_aux_lemma => kernel_rfl) (fun _ _ _ h => h) (by rfl) (fun _ _ => by first | rfl | (go_simp; done) | (go_simp; rfl)) hHeld ?_
    (try simp only [Act.put, List.setIfInBounds_toArray, List.set_cons_zero, List.set_cons_succ])
    refine take_in (i := 3) (v := .string ⟨y.toArray⟩) rfl (by as_aux_lemma => kernel_rfl) (by as_aux_lemma => kernel_rfl) (by as_aux_lemma => kernel_rfl) (fun _ _ _ h => h) (by rfl) (fun w' hb => by have hc := (hb.cell (p := ⟨b1, k, none⟩) l1).trans cy; go_simp) hHeld ?_
    (try simp only [Act.put, List.setIfInBounds_toArray, List.set_cons_zero, List.set_cons_succ])
    refine take_in (i := 4) (v := .slice (some ⟨b1, 0, none⟩) 13 c1) rfl (by as_aux_lemma => kernel_rfl) (by as_aux_lemma => kernel_rfl) (by as_aux_lemma => kernel_rfl) (fun _ _ _ h => h) (by rfl) (fun _ _ => by first | rfl | (go_simp; done) | (go_simp; rfl)) hHeld ?_
    (try simp only [Act.put, List.setIfInBounds_toArray, List.set_cons_zero, List.set_cons_succ])
    refine take_in (i := 5) (v := .int .i64 i) rfl (by as_aux_lemma => kernel_rfl) (by as_aux_lemma => kernel_rfl) (by as_aux_lemma => kernel_rfl) (fun _ _ _ h => h) (by rfl) (fun _ _ => by first | rfl | (go_simp; done) | (go_simp; rfl)) hHeld ?_
    (try simp only [Act.put, List.setIfInBounds_toArray, List.set_cons_zero, List.set_cons_succ])
    refine take_in (i := 6) (v := .pointer (some ⟨b1, i, none⟩)) rfl (by as_aux_lemma => kernel_rfl) (by as_aux_lemma => kernel_rfl) (by as_aux_lemma => kernel_rfl) (fun _ _ _ h => h) (by rfl) (fun _ _ => by first | rfl | (go_simp; done) | (go_simp; rfl)) hHeld ?_
    (try simp only [Act.put, List.setIfInBounds_toArray, List.set_cons_zero, List.set_cons_succ])
    refine take_in (i := 7) (v := .string ⟨x.toArray⟩) rfl (by as_aux_lemma => kernel_rfl) (by as_aux_lemma => kernel_rfl) (by as_aux_lemma => kernel_rfl) (fun _ _ _ h => h) (by rfl) (fun w' hb => by have hc := (hb.cell (p := ⟨b1, i, none⟩) l1).trans cx; go_simp) hHeld ?_
    (try simp only [Act.put, List.setIfInBounds_toArray, List.set_cons_zero, List.set_cons_succ])
    refine take_in (i := 8) rfl (by as_aux_lemma => kernel_rfl) (by as_aux_lemma => kernel_rfl) (by as_aux_lemma => kernel_rfl) (fun _ _ _ h => h) (by rfl) (fun w' hb => run_loadN (b := A) (by rfl) (by rfl) ((hb.block _ z12l).trans z12)) hHeld ?_
    (try simp only [Act.put, List.setIfInBounds_toArray, List.set_cons_zero, List.set_cons_succ])
    refine take_in (i := 9) rfl (by as_aux_lemma => kernel_rfl) (by as_aux_lemma => kernel_rfl) (by as_aux_lemma => kernel_rfl) (fun _ _ _ h => h) (by rfl) (fun w' hb => run_loadN (b := A + 1) (by rfl) (by rfl) ((hb.block _ z13l).trans z13)) hHeld ?_
    (try simp only [Act.put, List.setIfInBounds_toArray, List.set_cons_zero, List.set_cons_succ])
    refine take_in (i := 11) rfl (by as_aux_lemma => kernel_rfl) (by as_aux_lemma => kernel_rfl) (by as_aux_lemma => kernel_rfl) (fun _ _ _ h => h) (by rfl) (fun w' hb => run_loadN (b := A + 1 + 1) (by rfl) (by rfl) ((hb.block _ z14l).trans z14)) hHeld ?_
    (try simp only [Act.put, List.setIfInBounds_toArray, List.set_cons_zero, List.set_cons_succ])
    have hOld := hHeld.size
    refine ready2 (i := 10) (j := 13) (by as_aux_lemma => kernel_rfl) ?_ ?_
    · skip
      refine at_call (i := 10) (f := 25) (args := #[.string ⟨x.toArray⟩, .int .i64 0, nodeVal (Lv.first neg) (.slice a12 (Lv.first neg).kids.length c12), nodeVal (Hd.rf [98] 0) (.slice a13 (Hd.rf [98] 0).kids.length c13)]) rfl (by rfl) (by first | rfl | (go_simp; done) | (simp only [nodeVal]; go_simp; done)) ?_
      refine (two_row x 0 (Lv.first neg) (Hd.rf [98] 0) a12 a13 c12 c13 _ (fun _ => True) (R12.out.under hHeld).any (R13.out.under hHeld).any).mono ?_
      rintro e' v2 ⟨hq, g3, rfl, hr⟩
      have Hr1 := Lib.hid hr.any
      refine ⟨_, rfl, below_step hHeld hq, fun hHeld => ?_⟩
      (try simp only [Act.put, List.setIfInBounds_toArray, List.set_cons_zero, List.set_cons_succ])
      clear hq hr
      clear hOld
      have hOld := hHeld.size
      refine ready2 (i := 12) (j := 13) (by as_aux_lemma => kernel_rfl) ?_ ?_
      · skip
        refine at_call (i := 12) (f := 25) (args := #[.string ⟨y.toArray⟩, .int .i64 0, nodeVal (Hd.bin x 0 (Lv.first neg) (Hd.rf [98] 0)) (.slice (some ⟨g3, 0, none⟩) 2 2), nodeVal (Hd.rf [99] 0) (.slice a14 (Hd.rf [99] 0).kids.length c14)]) rfl (by rfl) (by first | rfl | (go_simp; done) | (simp only [nodeVal]; go_simp; done)) ?_
        refine (two_row y 0 (Hd.bin x 0 (Lv.first neg) (Hd.rf [98] 0)) (Hd.rf [99] 0) (some ⟨g3, 0, none⟩) a14 2 c14 _ (fun _ => True) Hr1.out (R14.out.under hHeld).any).mono ?_
        rintro e' v4 ⟨hq, g5, rfl, hr⟩
        have Hr2 := Lib.hid hr.any
        refine ⟨_, rfl, below_step hHeld hq, fun hHeld => ?_⟩
        (try simp only [Act.put, List.setIfInBounds_toArray, List.set_cons_zero, List.set_cons_succ])
        clear hq hr
        clear hOld
        have hOld := hHeld.size
        refine ready1 (i := 13) (by as_aux_lemma => kernel_rfl) ?_
        refine at_op (i := 13) rfl (by rfl) run_allocN (hHeld.alloc hHeld.size _) (fun hHeld => ?_)
        (try simp only [Act.put, List.setIfInBounds_toArray, List.set_cons_zero, List.set_cons_succ])
        have hgu : w18.heap.size ≤ v4.heap.size := hOld
        obtain ⟨v6, hv6⟩ : ∃ V, V = v4.alloc (.cells #[.int .i64 0, .string ⟨#[]⟩, .string ⟨#[]⟩, .int .i64 0, .int .i64 0, .int .i64 0, .bool false, .slice none 0 0, .int .i64 0] 25) := ⟨_, rfl⟩
        rw [← hv6] at hHeld ⊢
        have zv : Var 25 v6 v4.heap.size #[.int .i64 0, .string ⟨#[]⟩, .string ⟨#[]⟩, .int .i64 0, .int .i64 0, .int .i64 0, .bool false, .slice none 0 0, .int .i64 0] := by rw [hv6]; exact Var.new' rfl
        have Hr2 := Lib.hid (by rw [hv6]; exact Hr2.out.ltne.alloc _ : Row (fun i => i ≠ v4.heap.size) v6 _ _)
        clear hOld
        have hOld := hHeld.size
        clear hv6
        refine ready1 (i := 14) (by as_aux_lemma => kernel_rfl) ?_
        refine at_skip (w1 := v6.setRow v4.heap.size (nodeCells (Hd.bin y 0 (Hd.bin x 0 (Lv.first neg) (Hd.rf [98] 0)) (Hd.rf [99] 0)) (.slice (some ⟨g5, 0, none⟩) 2 2)).toArray) rfl (by rfl) (run_storeT (b := v4.heap.size) (old := #[.int .i64 0, .string ⟨#[]⟩, .string ⟨#[]⟩, .int .i64 0, .int .i64 0, .int .i64 0, .bool false, .slice none 0 0, .int .i64 0]) (by rfl) (by rfl) rfl zv) (below_setRow hHeld hgu _) (fun hHeld => ?_)
        refine wpAnyH_done (by as_aux_lemma => kernel_rfl) ?_ _
        go_wp2_with fail
        go_meet
        exact ⟨v4.heap.size, rfl, hgu, Lib.hid (TrR.storeB zv Hr2.out (fun h => h rfl)), Lib.hid hHeld⟩
      · skip
        refine at_op (i := 13) rfl (by rfl) run_allocN (hHeld.alloc hHeld.size _) (fun hHeld => ?_)
        (try simp only [Act.put, List.setIfInBounds_toArray, List.set_cons_zero, List.set_cons_succ])
        have hgu : w18.heap.size ≤ v2.heap.size := hOld
        obtain ⟨v7, hv7⟩ : ∃ V, V = v2.alloc (.cells #[.int .i64 0, .string ⟨#[]⟩, .string ⟨#[]⟩, .int .i64 0, .int .i64 0, .int .i64 0, .bool false, .slice none 0 0, .int .i64 0] 25) := ⟨_, rfl⟩
        rw [← hv7] at hHeld ⊢
        have zv : Var 25 v7 v2.heap.size #[.int .i64 0, .string ⟨#[]⟩, .string ⟨#[]⟩, .int .i64 0, .int .i64 0, .int .i64 0, .bool false, .slice none 0 0, .int .i64 0] := by rw [hv7]; exact Var.new' rfl
        have Hr1 := Lib.hid (by rw [hv7]; exact Hr1.out.ltne.alloc _ : Row (fun i => i ≠ v2.heap.size) v7 _ _)
        clear hOld
        have hOld := hHeld.size
        clear hv7
        refine ready1 (i := 12) (by as_aux_lemma => kernel_rfl) ?_
        refine at_call (i := 12) (f := 25) (args := #[.string ⟨y.toArray⟩, .int .i64 0, nodeVal (Hd.bin x 0 (Lv.first neg) (Hd.rf [98] 0)) (.slice (some ⟨g3, 0, none⟩) 2 2), nodeVal (Hd.rf [99] 0) (.slice a14 (Hd.rf [99] 0).kids.length c14)]) rfl (by rfl) (by first | rfl | (go_simp; done) | (simp only [nodeVal]; go_simp; done)) ?_
        refine (two_row y 0 (Hd.bin x 0 (Lv.first neg) (Hd.rf [98] 0)) (Hd.rf [99] 0) (some ⟨g3, 0, none⟩) a14 2 c14 _ (fun i => i ≠ v2.heap.size) Hr1.out (R14.out.oldne hHeld hgu)).mono ?_
        rintro e' v8 ⟨hq, g9, rfl, hr⟩
        have hgl := zv.lt
        have zv : Var 25 v8 v2.heap.size #[.int .i64 0, .string ⟨#[]⟩, .string ⟨#[]⟩, .int .i64 0, .int .i64 0, .int .i64 0, .bool false, .slice none 0 0, .int .i64 0] := (hq.block _ zv.lt).trans zv
        have Hr2 := Lib.hid (Row.newne hr hgl)
        refine ⟨_, rfl, below_step hHeld hq, fun hHeld => ?_⟩
        (try simp only [Act.put, List.setIfInBounds_toArray, List.set_cons_zero, List.set_cons_succ])
        clear hq hr
        clear hOld
        have hOld := hHeld.size
        clear hgl
        refine ready1 (i := 14) (by as_aux_lemma => kernel_rfl) ?_
        refine at_skip (w1 := v8.setRow v2.heap.size (nodeCells (Hd.bin y 0 (Hd.bin x 0 (Lv.first neg) (Hd.rf [98] 0)) (Hd.rf [99] 0)) (.slice (some ⟨g9, 0, none⟩) 2 2)).toArray) rfl (by rfl) (run_storeT (b := v2.heap.size) (old := #[.int .i64 0, .string ⟨#[]⟩, .string ⟨#[]⟩, .int .i64 0, .int .i64 0, .int .i64 0, .bool false, .slice none 0 0, .int .i64 0]) (by rfl) (by rfl) rfl zv) (below_setRow hHeld hgu _) (fun hHeld => ?_)
        refine wpAnyH_done (by as_aux_lemma => kernel_rfl) ?_ _
        go_wp2_with fail
        go_meet
        exact ⟨v2.heap.size, rfl, hgu, Lib.hid (TrR.storeB zv Hr2.out (fun h => h rfl)), Lib.hid hHeld⟩
    · skip
      refine at_op (i := 13) rfl (by rfl) run_allocN (hHeld.alloc hHeld.size _) (fun hHeld => ?_)
      (try simp only [Act.put, List.setIfInBounds_toArray, List.set_cons_zero, List.set_cons_succ])
      have hgu : w18.heap.size ≤ v1.heap.size := hOld
      obtain ⟨v10, hv10⟩ : ∃ V, V = v1.alloc (.cells #[.int .i64 0, .string ⟨#[]⟩, .string ⟨#[]⟩, .int .i64 0, .int .i64 0, .int .i64 0, .bool false, .slice none 0 0, .int .i64 0] 25) := ⟨_, rfl⟩
      rw [← hv10] at hHeld ⊢
      have zv : Var 25 v10 v1.heap.size #[.int .i64 0, .string ⟨#[]⟩, .string ⟨#[]⟩, .int .i64 0, .int .i64 0, .int .i64 0, .bool false, .slice none 0 0, .int .i64 0] := by rw [hv10]; exact Var.new' rfl
      clear hOld
      have hOld := hHeld.size
      clear hv10
      refine ready1 (i := 10) (by as_aux_lemma => kernel_rfl) ?_
      refine at_call (i := 10) (f := 25) (args := #[.string ⟨x.toArray⟩, .int .i64 0, nodeVal (Lv.first neg) (.slice a12 (Lv.first neg).kids.length c12), nodeVal (Hd.rf [98] 0) (.slice a13 (Hd.rf [98] 0).kids.length c13)]) rfl (by rfl) (by first | rfl | (go_simp; done) | (simp only [nodeVal]; go_simp; done)) ?_
      refine (two_row x 0 (Lv.first neg) (Hd.rf [98] 0) a12 a13 c12 c13 _ (fun i => i ≠ v1.heap.size) (R12.out.oldne hHeld hgu) (R13.out.oldne hHeld hgu)).mono ?_
      rintro e' v11 ⟨hq, g12, rfl, hr⟩
      have hgl := zv.lt
      have zv : Var 25 v11 v1.heap.size #[.int .i64 0, .string ⟨#[]⟩, .string ⟨#[]⟩, .int .i64 0, .int .i64 0, .int .i64 0, .bool false, .slice none 0 0, .int .i64 0] := (hq.block _ zv.lt).trans zv
      have Hr1 := Lib.hid (Row.newne hr hgl)
      refine ⟨_, rfl, below_step hHeld hq, fun hHeld => ?_⟩
      (try simp only [Act.put, List.setIfInBounds_toArray, List.set_cons_zero, List.set_cons_succ])
      clear hq hr
      clear hOld
      have hOld := hHeld.size
      clear hgl
      refine ready1 (i := 12) (by as_aux_lemma => kernel_rfl) ?_
      refine at_call (i := 12) (f := 25) (args := #[.string ⟨y.toArray⟩, .int .i64 0, nodeVal (Hd.bin x 0 (Lv.first neg) (Hd.rf [98] 0)) (.slice (some ⟨g12, 0, none⟩) 2 2), nodeVal (Hd.rf [99] 0) (.slice a14 (Hd.rf [99] 0).kids.length c14)]) rfl (by rfl) (by first | rfl | (go_simp; done) | (simp only [nodeVal]; go_simp; done)) ?_
      refine (two_row y 0 (Hd.bin x 0 (Lv.first neg) (Hd.rf [98] 0)) (Hd.rf [99] 0) (some ⟨g12, 0, none⟩) a14 2 c14 _ (fun i => i ≠ v1.heap.size) Hr1.out (R14.out.oldne hHeld hgu)).mono ?_
      rintro e' v13 ⟨hq, g14, rfl, hr⟩
      have hgl := zv.lt
      have zv : Var 25 v13 v1.heap.size #[.int .i64 0, .string ⟨#[]⟩, .string ⟨#[]⟩, .int .i64 0, .int .i64 0, .int .i64 0, .bool false, .slice none 0 0, .int .i64 0] := (hq.block _ zv.lt).trans zv
      have Hr2 := Lib.hid (Row.newne hr hgl)
      refine ⟨_, rfl, below_step hHeld hq, fun hHeld => ?_⟩
      (try simp only [Act.put, List.setIfInBounds_toArray, List.set_cons_zero, List.set_cons_succ])
      clear hq hr
      clear hOld
      have hOld := hHeld.size
      clear hgl
      refine ready1 (i := 14) (by as_aux_lemma => kernel_rfl) ?_
      refine at_skip (w1 := v13.setRow v1.heap.size (nodeCells (Hd.bin y 0 (Hd.bin x 0 (Lv.first neg) (Hd.rf [98] 0)) (Hd.rf [99] 0)) (.slice (some ⟨g14, 0, none⟩) 2 2)).toArray) rfl (by rfl) (run_storeT (b := v1.heap.size) (old := #[.int .i64 0, .string ⟨#[]⟩, .string ⟨#[]⟩, .int .i64 0, .int .i64 0, .int .i64 0, .bool false, .slice none 0 0, .int .i64 0]) (by rfl) (by rfl) rfl zv) (below_setRow hHeld hgu _) (fun hHeld => ?_)
      refine wpAnyH_done (by as_aux_lemma => kernel_rfl) ?_ _
      go_wp2_with fail
      go_meet
      exact ⟨v1.heap.size, rfl, hgu, Lib.hid (TrR.storeB zv Hr2.out (fun h => h rfl)), Lib.hid hHeld⟩
  clear z12 z12l R12 z13 z13l R13 z14 z14l R14 cx cy
  obtain ⟨g, rfl, hg0, T21, Hb19⟩ := hcut
  obtain ⟨w19, hw19⟩ : ∃ W, W = wc := ⟨_, rfl⟩
  subst hw19
  have hb19 := Hb19.out
  have RW19 := Lib.hid (RW.out.below hb19)
  have c2i := RW19.out.c2 i p Hp.out
  have c2k := RW19.out.c2 k q Hq.out
  clear hb19
  go_upto_region 18 with (fail)
  go_cut [145] (fun v wx => v = .bool (!(Lv.left p q)) ∧ Hid (Below w19.heap.size w19 wx))
  case first => as_aux_lemma =>
    by_cases h1 : p < q
    · have e1 : decide ((p : Int) < (q : Int)) = true := decide_eq_true (by omega)
      have hl : Lv.left p q = false := by unfold Lv.left; rw [decide_eq_true (show q > p from h1)]; rfl
      have Hl := Lib.hid hl
      clear hl
      go_quiet (fail)
      go_wp2_with fail
      go_meet
      exact ⟨by rw [Hl.out]; rfl, Lib.hid (Below.drewN' (Below.refl _ _) _)⟩
    · have e1 : decide ((p : Int) < (q : Int)) = false := decide_eq_false (by omega)
      by_cases h2 : p = 0
      · subst h2
        obtain rfl : q = 0 := by omega
        have Hl := Lib.hid (show Lv.left 0 0 = false from rfl)
        clear e1 h1
        go_quiet (fail)
        go_wp2_with fail
        go_meet
        exact ⟨by rw [Hl.out]; rfl, Lib.hid (Below.drewN' (Below.refl _ _) _)⟩
      · have e2 : ((p : Int) == 0) = false := beq_eq_false_iff_ne.2 (by omega)
        have hl : Lv.left p q = true := by unfold Lv.left; rw [decide_eq_false (show ¬ q > p from h1), decide_eq_false h2]; rfl
        have Hl := Lib.hid hl
        clear hl
        go_quiet (fail)
        go_wp2_with fail
        go_meet
        exact ⟨by rw [Hl.out]; rfl, Lib.hid (Below.drewN' (Below.refl _ _) _)⟩
  obtain ⟨rfl, Hb20⟩ := hcut
  obtain ⟨w20, hw20⟩ : ∃ W, W = wc := ⟨_, rfl⟩
  subst hw20
  clear c2i c2k RW19
  have Hb20b := Hb20
  have Hb20 := Lib.hid (Hb19.out.trans (Hb20.out.mono Hb19.out.size))
  go_upto_if 145 with (fail)
  go_cut [] (fun wx => Hid (TrR (fun i => i ≠ g) wx g (Lv.want x y p q neg)) ∧ Hid (Below g w20 wx))
  case first => as_aux_lemma =>
    cases hl : Lv.left p q
    · have hwant : Lv.want x y p q neg = Hd.bin x 0 (Lv.first neg) (Hd.bin y 0 (Hd.rf [98] 0) (Hd.rf [99] 0)) := by unfold Lv.want; rw [hl]
      have HW := Lib.hid hwant
      clear hwant hl
      rw [Bool.not_false]
      go_upto_region 19 with (fail)
      have cx := (Hb20.out.cell (p := ⟨b1, i, none⟩) l1).trans (RW.out.c1 i x Hx.out)
      have cy := (Hb20.out.cell (p := ⟨b1, k, none⟩) l1).trans (RW.out.c1 k y Hy.out)
      have hAg : A + 1 + 1 < w18.heap.size := by obtain ⟨_, _, z, _⟩ := T14.out; exact z.lt
      have T12 := Lib.hid ((T12.out.lt.below Hb20.out).mono (S' := fun i => i < g) (fun i hi => Nat.lt_of_lt_of_le hi.2 hg0))
      have T13 := Lib.hid ((T13.out.lt.below Hb20.out).mono (S' := fun i => i < g) (fun i hi => Nat.lt_of_lt_of_le hi.2 hg0))
      have T14 := Lib.hid ((T14.out.lt.below Hb20.out).mono (S' := fun i => i < g) (fun i hi => Nat.lt_of_lt_of_le hi.2 hg0))
      have l1 : b1 < g := Nat.lt_of_lt_of_le l1 hg0
      have z12l : A < g := by omega
      have z13l : A + 1 < g := by omega
      have z14l : A + 1 + 1 < g := by omega
      obtain ⟨a12, c12, z12, r12⟩ := T12.out
      obtain ⟨a13, c13, z13, r13⟩ := T13.out
      obtain ⟨a14, c14, z14, r14⟩ := T14.out
      obtain ⟨a21, c21, z21, r21⟩ := T21.out.below (show Below w19.heap.size w19 w20 from Hb20b.out)
      have R12 := Lib.hid r12
      have R13 := Lib.hid r13
      have R14 := Lib.hid r14
      obtain ⟨cs21, z21, hs21⟩ : ∃ cs, Var 25 w20 g cs ∧ cs.size = 9 := ⟨_, z21, rfl⟩
      clear r12 r13 r14 r21
      refine wp_region_held_drew (S := (fun w' => Below g w20 w')) (by as_aux_lemma => kernel_rfl) ((Below.refl _ _).drew) (fun hHeld => ?_)
      obtain ⟨vz, hvz⟩ : ∃ V, V = w20.drew := ⟨_, rfl⟩
      have zv : Var 25 vz g cs21 := by rw [hvz]; exact z21
      rw [← hvz] at hHeld ⊢
      clear hvz
      refine take_in (i := 0) (v := .slice (some ⟨b1, 0, none⟩) 13 c1) rfl (by as_aux_lemma => kernel_rfl) (by as_aux_lemma => kernel_rfl) (by as_aux_lemma => kernel_rfl) (fun _ _ _ h => h) (by rfl) (fun _ _ => by first | rfl | (go_simp; done) | (go_simp; rfl)) hHeld ?_
      (try simp only [Act.put, List.setIfInBounds_toArray, List.set_cons_zero, List.set_cons_succ])
      refine take_in (i := 1) (v := .int .i64 i) rfl (by as_aux_lemma => kernel_rfl) (by as_aux_lemma => kernel_rfl) (by as_aux_lemma => kernel_rfl) (fun _ _ _ h => h) (by rfl) (fun _ _ => by first | rfl | (go_simp; done) | (go_simp; rfl)) hHeld ?_
      (try simp only [Act.put, List.setIfInBounds_toArray, List.set_cons_zero, List.set_cons_succ])
      refine take_in (i := 2) (v := .pointer (some ⟨b1, i, none⟩)) rfl (by as_aux_lemma => kernel_rfl) (by as_aux_lemma => kernel_rfl) (by as_aux_lemma => kernel_rfl) (fun _ _ _ h => h) (by rfl) (fun _ _ => by first | rfl | (go_simp; done) | (go_simp; rfl)) hHeld ?_
      (try simp only [Act.put, List.setIfInBounds_toArray, List.set_cons_zero, List.set_cons_succ])
      refine take_in (i := 3) (v := .string ⟨x.toArray⟩) rfl (by as_aux_lemma => kernel_rfl) (by as_aux_lemma => kernel_rfl) (by as_aux_lemma => kernel_rfl) (fun _ _ _ h => h) (by rfl) (fun w' hb => by have hc := (hb.cell (p := ⟨b1, i, none⟩) l1).trans cx; go_simp) hHeld ?_
      (try simp only [Act.put, List.setIfInBounds_toArray, List.set_cons_zero, List.set_cons_succ])
      refine take_in (i := 4) rfl (by as_aux_lemma => kernel_rfl) (by as_aux_lemma => kernel_rfl) (by as_aux_lemma => kernel_rfl) (fun _ _ _ h => h) (by rfl) (fun w' hb => run_loadN (b := A) (by rfl) (by rfl) ((hb.block _ z12l).trans z12)) hHeld ?_
      (try simp only [Act.put, List.setIfInBounds_toArray, List.set_cons_zero, List.set_cons_succ])
      refine take_in (i := 5) (v := .slice (some ⟨b1, 0, none⟩) 13 c1) rfl (by as_aux_lemma => kernel_rfl) (by as_aux_lemma => kernel_rfl) (by as_aux_lemma => kernel_rfl) (fun _ _ _ h => h) (by rfl) (fun _ _ => by first | rfl | (go_simp; done) | (go_simp; rfl)) hHeld ?_
      (try simp only [Act.put, List.setIfInBounds_toArray, List.set_cons_zero, List.set_cons_succ])
      refine take_in (i := 6) (v := .int .i64 k) rfl (by as_aux_lemma => kernel_rfl) (by as_aux_lemma => kernel_rfl) (by as_aux_lemma => kernel_rfl) (fun _ _ _ h => h) (by rfl) (fun _ _ => by first | rfl | (go_simp; done) | (go_simp; rfl)) hHeld ?_
      (try simp only [Act.put, List.setIfInBounds_toArray, List.set_cons_zero, List.set_cons_succ])
      refine take_in (i := 7) (v := .pointer (some ⟨b1, k, none⟩)) rfl (by as_aux_lemma => kernel_rfl) (by as_aux_lemma => kernel_rfl) (by as_aux_lemma => kernel_rfl) (fun _ _ _ h => h) (by rfl) (fun _ _ => by first | rfl | (go_simp; done) | (go_simp; rfl)) hHeld ?_
      (try simp only [Act.put, List.setIfInBounds_toArray, List.set_cons_zero, List.set_cons_succ])
      refine take_in (i := 8) (v := .string ⟨y.toArray⟩) rfl (by as_aux_lemma => kernel_rfl) (by as_aux_lemma => kernel_rfl) (by as_aux_lemma => kernel_rfl) (fun _ _ _ h => h) (by rfl) (fun w' hb => by have hc := (hb.cell (p := ⟨b1, k, none⟩) l1).trans cy; go_simp) hHeld ?_
      (try simp only [Act.put, List.setIfInBounds_toArray, List.set_cons_zero, List.set_cons_succ])
      refine take_in (i := 9) rfl (by as_aux_lemma => kernel_rfl) (by as_aux_lemma => kernel_rfl) (by as_aux_lemma => kernel_rfl) (fun _ _ _ h => h) (by rfl) (fun w' hb => run_loadN (b := A + 1) (by rfl) (by rfl) ((hb.block _ z13l).trans z13)) hHeld ?_
      (try simp only [Act.put, List.setIfInBounds_toArray, List.set_cons_zero, List.set_cons_succ])
      refine take_in (i := 10) rfl (by as_aux_lemma => kernel_rfl) (by as_aux_lemma => kernel_rfl) (by as_aux_lemma => kernel_rfl) (fun _ _ _ h => h) (by rfl) (fun w' hb => run_loadN (b := A + 1 + 1) (by rfl) (by rfl) ((hb.block _ z14l).trans z14)) hHeld ?_
      (try simp only [Act.put, List.setIfInBounds_toArray, List.set_cons_zero, List.set_cons_succ])
      refine ready1 (i := 11) (by as_aux_lemma => kernel_rfl) ?_
      refine at_call (i := 11) (f := 25) (args := #[.string ⟨y.toArray⟩, .int .i64 0, nodeVal (Hd.rf [98] 0) (.slice a13 (Hd.rf [98] 0).kids.length c13), nodeVal (Hd.rf [99] 0) (.slice a14 (Hd.rf [99] 0).kids.length c14)]) rfl (by rfl) (by first | rfl | (go_simp; done) | (simp only [nodeVal]; go_simp; done)) ?_
      refine (two_row y 0 (Hd.rf [98] 0) (Hd.rf [99] 0) a13 a14 c13 c14 _ (fun i => i ≠ g) (R13.out.ltg hHeld) (R14.out.ltg hHeld)).mono ?_
      rintro e' v15 ⟨hq, g16, rfl, hr⟩
      have hgl := zv.lt
      have Hr1 := Lib.hid (Row.newne hr hgl)
      have hqg := hHeld.trans (hq.mono (Nat.le_of_lt hgl))
      have zv : Var 25 v15 g cs21 := (hq.block _ zv.lt).trans zv
      refine ⟨_, rfl, hqg, fun hHeld => ?_⟩
      (try simp only [Act.put, List.setIfInBounds_toArray, List.set_cons_zero, List.set_cons_succ])
      clear hq hr hqg hgl
      refine ready1 (i := 12) (by as_aux_lemma => kernel_rfl) ?_
      refine at_call (i := 12) (f := 25) (args := #[.string ⟨x.toArray⟩, .int .i64 0, nodeVal (Lv.first neg) (.slice a12 (Lv.first neg).kids.length c12), nodeVal (Hd.bin y 0 (Hd.rf [98] 0) (Hd.rf [99] 0)) (.slice (some ⟨g16, 0, none⟩) 2 2)]) rfl (by rfl) (by first | rfl | (go_simp; done) | (simp only [nodeVal]; go_simp; done)) ?_
      refine (two_row x 0 (Lv.first neg) (Hd.bin y 0 (Hd.rf [98] 0) (Hd.rf [99] 0)) a12 (some ⟨g16, 0, none⟩) c12 2 _ (fun i => i ≠ g) (R12.out.ltg hHeld) Hr1.out).mono ?_
      rintro e' v17 ⟨hq, g18, rfl, hr⟩
      have hgl := zv.lt
      have Hr2 := Lib.hid (Row.newne hr hgl)
      have hqg := hHeld.trans (hq.mono (Nat.le_of_lt hgl))
      have zv : Var 25 v17 g cs21 := (hq.block _ zv.lt).trans zv
      refine ⟨_, rfl, hqg, fun hHeld => ?_⟩
      (try simp only [Act.put, List.setIfInBounds_toArray, List.set_cons_zero, List.set_cons_succ])
      clear hq hr hqg hgl
      refine ready1 (i := 13) (by as_aux_lemma => kernel_rfl) ?_
      refine at_skip (w1 := v17.setRow g (nodeCells (Hd.bin x 0 (Lv.first neg) (Hd.bin y 0 (Hd.rf [98] 0) (Hd.rf [99] 0))) (.slice (some ⟨g18, 0, none⟩) 2 2)).toArray) rfl (by rfl) (run_storeT (b := g) (by rfl) (by rfl) hs21 zv) (below_setRow hHeld (Nat.le_refl _) _) (fun hHeld => ?_)
      refine wpAnyH_done (by as_aux_lemma => kernel_rfl) ?_ _
      go_wp2_with fail
      go_meet
      rw [HW.out]
      exact ⟨Lib.hid (TrR.storeB zv Hr2.out (fun h => h rfl)), Lib.hid hHeld⟩
    · have hwant : Lv.want x y p q neg = Hd.bin y 0 (Hd.bin x 0 (Lv.first neg) (Hd.rf [98] 0)) (Hd.rf [99] 0) := by unfold Lv.want; rw [hl]
      have HW := Lib.hid hwant
      have T21 := Lib.hid (T21.out.below (show Below w19.heap.size w19 w20 from Hb20b.out))
      clear hwant hl
      rw [Bool.not_true]
      go_wp2_with fail
      go_meet
      rw [HW.out]
      exact ⟨T21, Lib.hid (Below.refl _ _)⟩
  obtain ⟨T21', Hb21⟩ := hcut
  clear T21
  have T21 := T21'
  clear T21'
  obtain ⟨w21, hw21⟩ : ∃ W, W = wc := ⟨_, rfl⟩
  subst hw21
  have Hb21 := Lib.hid (Hb20.out.trans (Hb21.out.mono hg0))
  go_upto_region 20 with (fail)
  obtain ⟨a21, c21, z21, r21⟩ := T21.out
  have z21l := z21.lt
  have R21 := Lib.hid r21
  clear r21
  go_cut [22] (fun v wx => ∃ g2, v = .pointer (some ⟨g2, 0, none⟩) ∧ w21.heap.size ≤ g2 ∧ Hid (TrR (fun i => i ≠ g2) wx g2 (Lv.cond x y p q neg)) ∧ Hid (Below w21.heap.size w21 wx))
  case first =>
    refine wp_region_held_drew (S := (fun w' => Below w21.heap.size w21 w')) (by as_aux_lemma => kernel_rfl) ((Below.refl _ _).drew) (fun hHeld => ?_)
    obtain ⟨v19, hv19⟩ : ∃ V, V = w21.drew := ⟨_, rfl⟩
    rw [← hv19] at hHeld ⊢
    clear hv19
    refine take_in (i := 0) rfl (by as_aux_lemma => kernel_rfl) (by as_aux_lemma => kernel_rfl) (by as_aux_lemma => kernel_rfl) (fun _ _ _ h => h) (by rfl) (fun w' hb => run_loadN (b := g) (by rfl) (by rfl) ((hb.block _ z21l).trans z21)) hHeld ?_
    (try simp only [Act.put, List.setIfInBounds_toArray, List.set_cons_zero, List.set_cons_succ])
    have hOld := hHeld.size
    refine ready2 (i := 1) (j := 5) (by as_aux_lemma => kernel_rfl) ?_ ?_
    · have hKeep := hHeld
      refine at_call (i := 1) (f := 23) (args := #[.string ⟨#[97]⟩, .int .i64 0]) rfl (by rfl) (by first | rfl | (go_simp; done) | (simp only [nodeVal]; go_simp; done)) ?_
      refine (ref_leaf [97] 0 _).mono ?_
      rintro e' v20 ⟨rfl, hq⟩
      refine ⟨_, rfl, below_step hHeld hq, fun hHeld => ?_⟩
      (try simp only [Act.put, List.setIfInBounds_toArray, List.set_cons_zero, List.set_cons_succ])
      clear hq
      have hOld := hHeld.size
      refine ready2 (i := 2) (j := 5) (by as_aux_lemma => kernel_rfl) ?_ ?_
      · have hKeep := hHeld
        refine at_call (i := 2) (f := 23) (args := #[.string ⟨#[98]⟩, .int .i64 0]) rfl (by rfl) (by first | rfl | (go_simp; done) | (simp only [nodeVal]; go_simp; done)) ?_
        refine (ref_leaf [98] 0 _).mono ?_
        rintro e' v21 ⟨rfl, hq⟩
        refine ⟨_, rfl, below_step hHeld hq, fun hHeld => ?_⟩
        (try simp only [Act.put, List.setIfInBounds_toArray, List.set_cons_zero, List.set_cons_succ])
        clear hq
        have hOld := hHeld.size
        refine ready2 (i := 3) (j := 5) (by as_aux_lemma => kernel_rfl) ?_ ?_
        · have hKeep := hHeld
          refine at_op (i := 3) (v := .slice (some ⟨v21.heap.size, 0, none⟩) 3 3) (w1 := v21.alloc (.cells (nodeCells (Lv.want x y p q neg) (.slice a21 (Lv.want x y p q neg).kids.length c21) ++ (nodeCells (Hd.rf [97] 0) (.slice none 0 0) ++ nodeCells (Hd.rf [98] 0) (.slice none 0 0))).toArray 25)) rfl (by rfl) (by first | (go_simp; done) | (go_simp; rfl)) (hHeld.alloc hHeld.size _) (fun hHeld => ?_)
          (try simp only [Act.put, List.setIfInBounds_toArray, List.set_cons_zero, List.set_cons_succ])
          obtain ⟨v22, hv22⟩ : ∃ V, V = v21.alloc (.cells (nodeCells (Lv.want x y p q neg) (.slice a21 (Lv.want x y p q neg).kids.length c21) ++ (nodeCells (Hd.rf [97] 0) (.slice none 0 0) ++ nodeCells (Hd.rf [98] 0) (.slice none 0 0))).toArray 25) := ⟨_, rfl⟩
          have hold0 : w21.heap.size ≤ v21.heap.size := hOld
          have HrB := Lib.hid (by rw [hv22]; exact Row.mono (row_new' (b := v21.heap.size) (nodes_cons (S := (fun _ => True)) (t := (Lv.want x y p q neg)) (R21.out.under hKeep).any (nodes_cons (t := Hd.rf [97] 0) (Row.nil _ _) (nodes_one (t := Hd.rf [98] 0) (Row.nil _ _)))) (by show 3 ≤ maxLen; decide) rfl (cs := (nodeCells (Lv.want x y p q neg) (.slice a21 (Lv.want x y p q neg).kids.length c21) ++ (nodeCells (Hd.rf [97] 0) (.slice none 0 0) ++ nodeCells (Hd.rf [98] 0) (.slice none 0 0))).toArray) rfl) (by intro i hi; rcases hi with h | h; exact h; trivial) : Row (fun _ => True) v22 _ _)
          rw [← hv22] at hHeld ⊢
          clear hv22
          have hOld := hHeld.size
          refine take_in (i := 4) (v := nodeVal (Lv.cond x y p q neg) (.slice (some ⟨v21.heap.size, 0, none⟩) 3 3)) rfl (by as_aux_lemma => kernel_rfl) (by as_aux_lemma => kernel_rfl) (by as_aux_lemma => kernel_rfl) (fun _ _ _ h => h) (by rfl) (fun _ _ => by first | rfl | (go_simp; done) | (go_simp; rfl)) hHeld ?_
          (try simp only [Act.put, List.setIfInBounds_toArray, List.set_cons_zero, List.set_cons_succ])
          refine ready1 (i := 5) (by as_aux_lemma => kernel_rfl) ?_
          refine at_op (i := 5) rfl (by rfl) run_allocN (hHeld.alloc hHeld.size _) (fun hHeld => ?_)
          (try simp only [Act.put, List.setIfInBounds_toArray, List.set_cons_zero, List.set_cons_succ])
          have hgu : w21.heap.size ≤ v22.heap.size := hOld
          obtain ⟨v23, hv23⟩ : ∃ V, V = v22.alloc (.cells #[.int .i64 0, .string ⟨#[]⟩, .string ⟨#[]⟩, .int .i64 0, .int .i64 0, .int .i64 0, .bool false, .slice none 0 0, .int .i64 0] 25) := ⟨_, rfl⟩
          rw [← hv23] at hHeld ⊢
          have zv : Var 25 v23 v22.heap.size #[.int .i64 0, .string ⟨#[]⟩, .string ⟨#[]⟩, .int .i64 0, .int .i64 0, .int .i64 0, .bool false, .slice none 0 0, .int .i64 0] := by rw [hv23]; exact Var.new' rfl
          have HrB := Lib.hid (by rw [hv23]; exact HrB.out.ltne.alloc _ : Row (fun i => i ≠ v22.heap.size) v23 _ _)
          clear hOld
          have hOld := hHeld.size
          clear hv23
          refine ready1 (i := 6) (by as_aux_lemma => kernel_rfl) ?_
          refine at_skip (w1 := v23.setRow v22.heap.size (nodeCells (Lv.cond x y p q neg) (.slice (some ⟨v21.heap.size, 0, none⟩) 3 3)).toArray) rfl (by rfl) (run_storeT (b := v22.heap.size) (old := #[.int .i64 0, .string ⟨#[]⟩, .string ⟨#[]⟩, .int .i64 0, .int .i64 0, .int .i64 0, .bool false, .slice none 0 0, .int .i64 0]) (by rfl) (by rfl) rfl zv) (below_setRow hHeld hgu _) (fun hHeld => ?_)
          refine wpAnyH_done (by as_aux_lemma => kernel_rfl) ?_ _
          go_wp2_with fail
          go_meet
          exact ⟨v22.heap.size, rfl, hgu, Lib.hid (TrR.storeC zv HrB.out (fun h => h rfl)), Lib.hid hHeld⟩
        · skip
          refine at_op (i := 5) rfl (by rfl) run_allocN (hHeld.alloc hHeld.size _) (fun hHeld => ?_)
          (try simp only [Act.put, List.setIfInBounds_toArray, List.set_cons_zero, List.set_cons_succ])
          have hgu : w21.heap.size ≤ v21.heap.size := hOld
          obtain ⟨v24, hv24⟩ : ∃ V, V = v21.alloc (.cells #[.int .i64 0, .string ⟨#[]⟩, .string ⟨#[]⟩, .int .i64 0, .int .i64 0, .int .i64 0, .bool false, .slice none 0 0, .int .i64 0] 25) := ⟨_, rfl⟩
          rw [← hv24] at hHeld ⊢
          have zv : Var 25 v24 v21.heap.size #[.int .i64 0, .string ⟨#[]⟩, .string ⟨#[]⟩, .int .i64 0, .int .i64 0, .int .i64 0, .bool false, .slice none 0 0, .int .i64 0] := by rw [hv24]; exact Var.new' rfl
          clear hOld
          have hOld := hHeld.size
          clear hv24
          refine ready1 (i := 3) (by as_aux_lemma => kernel_rfl) ?_
          have hKeep := hHeld
          refine at_op (i := 3) (v := .slice (some ⟨v24.heap.size, 0, none⟩) 3 3) (w1 := v24.alloc (.cells (nodeCells (Lv.want x y p q neg) (.slice a21 (Lv.want x y p q neg).kids.length c21) ++ (nodeCells (Hd.rf [97] 0) (.slice none 0 0) ++ nodeCells (Hd.rf [98] 0) (.slice none 0 0))).toArray 25)) rfl (by rfl) (by first | (go_simp; done) | (go_simp; rfl)) (hHeld.alloc hHeld.size _) (fun hHeld => ?_)
          (try simp only [Act.put, List.setIfInBounds_toArray, List.set_cons_zero, List.set_cons_succ])
          obtain ⟨v25, hv25⟩ : ∃ V, V = v24.alloc (.cells (nodeCells (Lv.want x y p q neg) (.slice a21 (Lv.want x y p q neg).kids.length c21) ++ (nodeCells (Hd.rf [97] 0) (.slice none 0 0) ++ nodeCells (Hd.rf [98] 0) (.slice none 0 0))).toArray 25) := ⟨_, rfl⟩
          have hold0 : w21.heap.size ≤ v24.heap.size := hOld
          have HrB := Lib.hid (by rw [hv25]; exact Row.mono (row_new' (b := v24.heap.size) (nodes_cons (S := (fun i => i ≠ v21.heap.size)) (t := (Lv.want x y p q neg)) (R21.out.oldne hKeep hgu) (nodes_cons (t := Hd.rf [97] 0) (Row.nil _ _) (nodes_one (t := Hd.rf [98] 0) (Row.nil _ _)))) (by show 3 ≤ maxLen; decide) rfl (cs := (nodeCells (Lv.want x y p q neg) (.slice a21 (Lv.want x y p q neg).kids.length c21) ++ (nodeCells (Hd.rf [97] 0) (.slice none 0 0) ++ nodeCells (Hd.rf [98] 0) (.slice none 0 0))).toArray) rfl) (by intro i hi; rcases hi with h | h; exact h; (have := zv.lt; omega)) : Row (fun i => i ≠ v21.heap.size) v25 _ _)
          rw [← hv25] at hHeld ⊢
          have zv : Var 25 v25 v21.heap.size #[.int .i64 0, .string ⟨#[]⟩, .string ⟨#[]⟩, .int .i64 0, .int .i64 0, .int .i64 0, .bool false, .slice none 0 0, .int .i64 0] := by rw [hv25]; exact Var.alloc zv _
          clear hv25
          have hOld := hHeld.size
          refine take_in (i := 4) (v := nodeVal (Lv.cond x y p q neg) (.slice (some ⟨v24.heap.size, 0, none⟩) 3 3)) rfl (by as_aux_lemma => kernel_rfl) (by as_aux_lemma => kernel_rfl) (by as_aux_lemma => kernel_rfl) (fun _ _ _ h => h) (by rfl) (fun _ _ => by first | rfl | (go_simp; done) | (go_simp; rfl)) hHeld ?_
          (try simp only [Act.put, List.setIfInBounds_toArray, List.set_cons_zero, List.set_cons_succ])
          refine ready1 (i := 6) (by as_aux_lemma => kernel_rfl) ?_
          refine at_skip (w1 := v25.setRow v21.heap.size (nodeCells (Lv.cond x y p q neg) (.slice (some ⟨v24.heap.size, 0, none⟩) 3 3)).toArray) rfl (by rfl) (run_storeT (b := v21.heap.size) (old := #[.int .i64 0, .string ⟨#[]⟩, .string ⟨#[]⟩, .int .i64 0, .int .i64 0, .int .i64 0, .bool false, .slice none 0 0, .int .i64 0]) (by rfl) (by rfl) rfl zv) (below_setRow hHeld hgu _) (fun hHeld => ?_)
          refine wpAnyH_done (by as_aux_lemma => kernel_rfl) ?_ _
          go_wp2_with fail
          go_meet
          exact ⟨v21.heap.size, rfl, hgu, Lib.hid (TrR.storeC zv HrB.out (fun h => h rfl)), Lib.hid hHeld⟩
      · skip
        refine at_op (i := 5) rfl (by rfl) run_allocN (hHeld.alloc hHeld.size _) (fun hHeld => ?_)
        (try simp only [Act.put, List.setIfInBounds_toArray, List.set_cons_zero, List.set_cons_succ])
        have hgu : w21.heap.size ≤ v20.heap.size := hOld
        obtain ⟨v26, hv26⟩ : ∃ V, V = v20.alloc (.cells #[.int .i64 0, .string ⟨#[]⟩, .string ⟨#[]⟩, .int .i64 0, .int .i64 0, .int .i64 0, .bool false, .slice none 0 0, .int .i64 0] 25) := ⟨_, rfl⟩
        rw [← hv26] at hHeld ⊢
        have zv : Var 25 v26 v20.heap.size #[.int .i64 0, .string ⟨#[]⟩, .string ⟨#[]⟩, .int .i64 0, .int .i64 0, .int .i64 0, .bool false, .slice none 0 0, .int .i64 0] := by rw [hv26]; exact Var.new' rfl
        clear hOld
        have hOld := hHeld.size
        clear hv26
        refine ready1 (i := 2) (by as_aux_lemma => kernel_rfl) ?_
        have hKeep := hHeld
        refine at_call (i := 2) (f := 23) (args := #[.string ⟨#[98]⟩, .int .i64 0]) rfl (by rfl) (by first | rfl | (go_simp; done) | (simp only [nodeVal]; go_simp; done)) ?_
        refine (ref_leaf [98] 0 _).mono ?_
        rintro e' v27 ⟨rfl, hq⟩
        have zv : Var 25 v27 v20.heap.size #[.int .i64 0, .string ⟨#[]⟩, .string ⟨#[]⟩, .int .i64 0, .int .i64 0, .int .i64 0, .bool false, .slice none 0 0, .int .i64 0] := (hq.block _ zv.lt).trans zv
        refine ⟨_, rfl, below_step hHeld hq, fun hHeld => ?_⟩
        (try simp only [Act.put, List.setIfInBounds_toArray, List.set_cons_zero, List.set_cons_succ])
        clear hq
        have hOld := hHeld.size
        refine ready1 (i := 3) (by as_aux_lemma => kernel_rfl) ?_
        have hKeep := hHeld
        refine at_op (i := 3) (v := .slice (some ⟨v27.heap.size, 0, none⟩) 3 3) (w1 := v27.alloc (.cells (nodeCells (Lv.want x y p q neg) (.slice a21 (Lv.want x y p q neg).kids.length c21) ++ (nodeCells (Hd.rf [97] 0) (.slice none 0 0) ++ nodeCells (Hd.rf [98] 0) (.slice none 0 0))).toArray 25)) rfl (by rfl) (by first | (go_simp; done) | (go_simp; rfl)) (hHeld.alloc hHeld.size _) (fun hHeld => ?_)
        (try simp only [Act.put, List.setIfInBounds_toArray, List.set_cons_zero, List.set_cons_succ])
        obtain ⟨v28, hv28⟩ : ∃ V, V = v27.alloc (.cells (nodeCells (Lv.want x y p q neg) (.slice a21 (Lv.want x y p q neg).kids.length c21) ++ (nodeCells (Hd.rf [97] 0) (.slice none 0 0) ++ nodeCells (Hd.rf [98] 0) (.slice none 0 0))).toArray 25) := ⟨_, rfl⟩
        have hold0 : w21.heap.size ≤ v27.heap.size := hOld
        have HrB := Lib.hid (by rw [hv28]; exact Row.mono (row_new' (b := v27.heap.size) (nodes_cons (S := (fun i => i ≠ v20.heap.size)) (t := (Lv.want x y p q neg)) (R21.out.oldne hKeep hgu) (nodes_cons (t := Hd.rf [97] 0) (Row.nil _ _) (nodes_one (t := Hd.rf [98] 0) (Row.nil _ _)))) (by show 3 ≤ maxLen; decide) rfl (cs := (nodeCells (Lv.want x y p q neg) (.slice a21 (Lv.want x y p q neg).kids.length c21) ++ (nodeCells (Hd.rf [97] 0) (.slice none 0 0) ++ nodeCells (Hd.rf [98] 0) (.slice none 0 0))).toArray) rfl) (by intro i hi; rcases hi with h | h; exact h; (have := zv.lt; omega)) : Row (fun i => i ≠ v20.heap.size) v28 _ _)
        rw [← hv28] at hHeld ⊢
        have zv : Var 25 v28 v20.heap.size #[.int .i64 0, .string ⟨#[]⟩, .string ⟨#[]⟩, .int .i64 0, .int .i64 0, .int .i64 0, .bool false, .slice none 0 0, .int .i64 0] := by rw [hv28]; exact Var.alloc zv _
        clear hv28
        have hOld := hHeld.size
        refine take_in (i := 4) (v := nodeVal (Lv.cond x y p q neg) (.slice (some ⟨v27.heap.size, 0, none⟩) 3 3)) rfl (by as_aux_lemma => kernel_rfl) (by as_aux_lemma => kernel_rfl) (by as_aux_lemma => kernel_rfl) (fun _ _ _ h => h) (by rfl) (fun _ _ => by first | rfl | (go_simp; done) | (go_simp; rfl)) hHeld ?_
        (try simp only [Act.put, List.setIfInBounds_toArray, List.set_cons_zero, List.set_cons_succ])
        refine ready1 (i := 6) (by as_aux_lemma => kernel_rfl) ?_
        refine at_skip (w1 := v28.setRow v20.heap.size (nodeCells (Lv.cond x y p q neg) (.slice (some ⟨v27.heap.size, 0, none⟩) 3 3)).toArray) rfl (by rfl) (run_storeT (b := v20.heap.size) (old := #[.int .i64 0, .string ⟨#[]⟩, .string ⟨#[]⟩, .int .i64 0, .int .i64 0, .int .i64 0, .bool false, .slice none 0 0, .int .i64 0]) (by rfl) (by rfl) rfl zv) (below_setRow hHeld hgu _) (fun hHeld => ?_)
        refine wpAnyH_done (by as_aux_lemma => kernel_rfl) ?_ _
        go_wp2_with fail
        go_meet
        exact ⟨v20.heap.size, rfl, hgu, Lib.hid (TrR.storeC zv HrB.out (fun h => h rfl)), Lib.hid hHeld⟩
    · skip
      refine at_op (i := 5) rfl (by rfl) run_allocN (hHeld.alloc hHeld.size _) (fun hHeld => ?_)
      (try simp only [Act.put, List.setIfInBounds_toArray, List.set_cons_zero, List.set_cons_succ])
      have hgu : w21.heap.size ≤ v19.heap.size := hOld
      obtain ⟨v29, hv29⟩ : ∃ V, V = v19.alloc (.cells #[.int .i64 0, .string ⟨#[]⟩, .string ⟨#[]⟩, .int .i64 0, .int .i64 0, .int .i64 0, .bool false, .slice none 0 0, .int .i64 0] 25) := ⟨_, rfl⟩
      rw [← hv29] at hHeld ⊢
      have zv : Var 25 v29 v19.heap.size #[.int .i64 0, .string ⟨#[]⟩, .string ⟨#[]⟩, .int .i64 0, .int .i64 0, .int .i64 0, .bool false, .slice none 0 0, .int .i64 0] := by rw [hv29]; exact Var.new' rfl
      clear hOld
      have hOld := hHeld.size
      clear hv29
      refine ready1 (i := 1) (by as_aux_lemma => kernel_rfl) ?_
      have hKeep := hHeld
      refine at_call (i := 1) (f := 23) (args := #[.string ⟨#[97]⟩, .int .i64 0]) rfl (by rfl) (by first | rfl | (go_simp; done) | (simp only [nodeVal]; go_simp; done)) ?_
      refine (ref_leaf [97] 0 _).mono ?_
      rintro e' v30 ⟨rfl, hq⟩
      have zv : Var 25 v30 v19.heap.size #[.int .i64 0, .string ⟨#[]⟩, .string ⟨#[]⟩, .int .i64 0, .int .i64 0, .int .i64 0, .bool false, .slice none 0 0, .int .i64 0] := (hq.block _ zv.lt).trans zv
      refine ⟨_, rfl, below_step hHeld hq, fun hHeld => ?_⟩
      (try simp only [Act.put, List.setIfInBounds_toArray, List.set_cons_zero, List.set_cons_succ])
      clear hq
      have hOld := hHeld.size
      refine ready1 (i := 2) (by as_aux_lemma => kernel_rfl) ?_
      have hKeep := hHeld
      refine at_call (i := 2) (f := 23) (args := #[.string ⟨#[98]⟩, .int .i64 0]) rfl (by rfl) (by first | rfl | (go_simp; done) | (simp only [nodeVal]; go_simp; done)) ?_
      refine (ref_leaf [98] 0 _).mono ?_
      rintro e' v31 ⟨rfl, hq⟩
      have zv : Var 25 v31 v19.heap.size #[.int .i64 0, .string ⟨#[]⟩, .string ⟨#[]⟩, .int .i64 0, .int .i64 0, .int .i64 0, .bool false, .slice none 0 0, .int .i64 0] := (hq.block _ zv.lt).trans zv
      refine ⟨_, rfl, below_step hHeld hq, fun hHeld => ?_⟩
      (try simp only [Act.put, List.setIfInBounds_toArray, List.set_cons_zero, List.set_cons_succ])
      clear hq
      have hOld := hHeld.size
      refine ready1 (i := 3) (by as_aux_lemma => kernel_rfl) ?_
      have hKeep := hHeld
      refine at_op (i := 3) (v := .slice (some ⟨v31.heap.size, 0, none⟩) 3 3) (w1 := v31.alloc (.cells (nodeCells (Lv.want x y p q neg) (.slice a21 (Lv.want x y p q neg).kids.length c21) ++ (nodeCells (Hd.rf [97] 0) (.slice none 0 0) ++ nodeCells (Hd.rf [98] 0) (.slice none 0 0))).toArray 25)) rfl (by rfl) (by first | (go_simp; done) | (go_simp; rfl)) (hHeld.alloc hHeld.size _) (fun hHeld => ?_)
      (try simp only [Act.put, List.setIfInBounds_toArray, List.set_cons_zero, List.set_cons_succ])
      obtain ⟨v32, hv32⟩ : ∃ V, V = v31.alloc (.cells (nodeCells (Lv.want x y p q neg) (.slice a21 (Lv.want x y p q neg).kids.length c21) ++ (nodeCells (Hd.rf [97] 0) (.slice none 0 0) ++ nodeCells (Hd.rf [98] 0) (.slice none 0 0))).toArray 25) := ⟨_, rfl⟩
      have hold0 : w21.heap.size ≤ v31.heap.size := hOld
      have HrB := Lib.hid (by rw [hv32]; exact Row.mono (row_new' (b := v31.heap.size) (nodes_cons (S := (fun i => i ≠ v19.heap.size)) (t := (Lv.want x y p q neg)) (R21.out.oldne hKeep hgu) (nodes_cons (t := Hd.rf [97] 0) (Row.nil _ _) (nodes_one (t := Hd.rf [98] 0) (Row.nil _ _)))) (by show 3 ≤ maxLen; decide) rfl (cs := (nodeCells (Lv.want x y p q neg) (.slice a21 (Lv.want x y p q neg).kids.length c21) ++ (nodeCells (Hd.rf [97] 0) (.slice none 0 0) ++ nodeCells (Hd.rf [98] 0) (.slice none 0 0))).toArray) rfl) (by intro i hi; rcases hi with h | h; exact h; (have := zv.lt; omega)) : Row (fun i => i ≠ v19.heap.size) v32 _ _)
      rw [← hv32] at hHeld ⊢
      have zv : Var 25 v32 v19.heap.size #[.int .i64 0, .string ⟨#[]⟩, .string ⟨#[]⟩, .int .i64 0, .int .i64 0, .int .i64 0, .bool false, .slice none 0 0, .int .i64 0] := by rw [hv32]; exact Var.alloc zv _
      clear hv32
      have hOld := hHeld.size
      refine take_in (i := 4) (v := nodeVal (Lv.cond x y p q neg) (.slice (some ⟨v31.heap.size, 0, none⟩) 3 3)) rfl (by as_aux_lemma => kernel_rfl) (by as_aux_lemma => kernel_rfl) (by as_aux_lemma => kernel_rfl) (fun _ _ _ h => h) (by rfl) (fun _ _ => by first | rfl | (go_simp; done) | (go_simp; rfl)) hHeld ?_
      (try simp only [Act.put, List.setIfInBounds_toArray, List.set_cons_zero, List.set_cons_succ])
      refine ready1 (i := 6) (by as_aux_lemma => kernel_rfl) ?_
      refine at_skip (w1 := v32.setRow v19.heap.size (nodeCells (Lv.cond x y p q neg) (.slice (some ⟨v31.heap.size, 0, none⟩) 3 3)).toArray) rfl (by rfl) (run_storeT (b := v19.heap.size) (old := #[.int .i64 0, .string ⟨#[]⟩, .string ⟨#[]⟩, .int .i64 0, .int .i64 0, .int .i64 0, .bool false, .slice none 0 0, .int .i64 0]) (by rfl) (by rfl) rfl zv) (below_setRow hHeld hgu _) (fun hHeld => ?_)
      refine wpAnyH_done (by as_aux_lemma => kernel_rfl) ?_ _
      go_wp2_with fail
      go_meet
      exact ⟨v19.heap.size, rfl, hgu, Lib.hid (TrR.storeC zv HrB.out (fun h => h rfl)), Lib.hid hHeld⟩
  clear z21 z21l R21
  obtain ⟨g2, rfl, hg2, T22, Hb22⟩ := hcut
  obtain ⟨w22, hw22⟩ : ∃ W, W = wc := ⟨_, rfl⟩
  subst hw22
  have T21 := Lib.hid (T21.out.below Hb22.out)
  have hb22 := Hb21.out.trans (Hb22.out.mono Hb21.out.size)
  have T17 := Lib.hid (T17.out.below hb22)
  have T19 := Lib.hid (T19.out.below hb22)
  have HB := Lib.hid (HB.out.trans (hb22.mono HB.out.size))
  clear T12 T13 T14 D18 D20 HS HM RW l1 hb22 Hb19 Hb20 Hb21 Hb22
  go_upto_region 21 with (fail)
  obtain ⟨a17, c17, z17, r17⟩ := T17.out
  have z17l := z17.lt
  obtain ⟨z17c, z17f⟩ := obj_facts z17
  have R17 := Lib.hid r17
  clear r17
  obtain ⟨a19, c19, z19, r19⟩ := T19.out
  have z19l := z19.lt
  obtain ⟨z19c, z19f⟩ := obj_facts z19
  have R19 := Lib.hid r19
  clear r19
  obtain ⟨a21, c21, z21, r21⟩ := T21.out
  have z21l := z21.lt
  have R21 := Lib.hid r21
  clear r21
  obtain ⟨a22, c22, z22, r22⟩ := T22.out
  have z22l := z22.lt
  have R22 := Lib.hid r22
  clear r22
  go_cut [6] (fun v wx => v = .bool true ∧ Hid (Below w22.heap.size w22 wx))
  case first => as_aux_lemma =>
    refine wp_region_held_drew (S := (fun w' => Below w22.heap.size w22 w')) (by as_aux_lemma => kernel_rfl) ((Below.refl _ _).drew) (fun hHeld => ?_)
    obtain ⟨v33, hv33⟩ : ∃ V, V = w22.drew := ⟨_, rfl⟩
    rw [← hv33] at hHeld ⊢
    clear hv33
    refine take_in (i := 0) (v := .bool true) rfl (by as_aux_lemma => kernel_rfl) (by as_aux_lemma => kernel_rfl) (by as_aux_lemma => kernel_rfl) (fun _ _ _ h => h) (by rfl) (fun _ _ => by first | rfl | (go_simp; done) | (go_simp; rfl)) hHeld ?_
    (try simp only [Act.put, List.setIfInBounds_toArray, List.set_cons_zero, List.set_cons_succ])
    refine take_in (i := 1) (v := .bool true) rfl (by as_aux_lemma => kernel_rfl) (by as_aux_lemma => kernel_rfl) (by as_aux_lemma => kernel_rfl) (fun _ _ _ h => h) (by rfl) (fun _ _ => by first | rfl | (go_simp; done) | (go_simp; rfl)) hHeld ?_
    (try simp only [Act.put, List.setIfInBounds_toArray, List.set_cons_zero, List.set_cons_succ])
    refine take_in (i := 2) (v := .slice dp 0 dq) rfl (by as_aux_lemma => kernel_rfl) (by as_aux_lemma => kernel_rfl) (by as_aux_lemma => kernel_rfl) (fun _ _ _ h => h) (by rfl) (fun _ _ => by first | rfl | (go_simp; done) | (go_simp; rfl)) hHeld ?_
    (try simp only [Act.put, List.setIfInBounds_toArray, List.set_cons_zero, List.set_cons_succ])
    refine take_in (i := 3) (v := .int .i64 0) rfl (by as_aux_lemma => kernel_rfl) (by as_aux_lemma => kernel_rfl) (by as_aux_lemma => kernel_rfl) (fun _ _ _ h => h) (by rfl) (fun _ _ => by first | rfl | (go_simp; done) | (go_simp; rfl)) hHeld ?_
    (try simp only [Act.put, List.setIfInBounds_toArray, List.set_cons_zero, List.set_cons_succ])
    refine take_in (i := 4) (v := .bool true) rfl (by as_aux_lemma => kernel_rfl) (by as_aux_lemma => kernel_rfl) (by as_aux_lemma => kernel_rfl) (fun _ _ _ h => h) (by rfl) (fun _ _ => by first | rfl | (go_simp; done) | (go_simp; rfl)) hHeld ?_
    (try simp only [Act.put, List.setIfInBounds_toArray, List.set_cons_zero, List.set_cons_succ])
    refine take_in (i := 5) (v := .bool true) rfl (by as_aux_lemma => kernel_rfl) (by as_aux_lemma => kernel_rfl) (by as_aux_lemma => kernel_rfl) (fun _ _ _ h => h) (by rfl) (fun _ _ => by first | rfl | (go_simp; done) | (go_simp; rfl)) hHeld ?_
    (try simp only [Act.put, List.setIfInBounds_toArray, List.set_cons_zero, List.set_cons_succ])
    refine take_in (i := 6) (v := .bool true) rfl (by as_aux_lemma => kernel_rfl) (by as_aux_lemma => kernel_rfl) (by as_aux_lemma => kernel_rfl) (fun _ _ _ h => h) (by rfl) (fun _ _ => by first | rfl | (go_simp; done) | (go_simp; rfl)) hHeld ?_
    (try simp only [Act.put, List.setIfInBounds_toArray, List.set_cons_zero, List.set_cons_succ])
    refine take_in (i := 7) (v := .slice ep 0 eq) rfl (by as_aux_lemma => kernel_rfl) (by as_aux_lemma => kernel_rfl) (by as_aux_lemma => kernel_rfl) (fun _ _ _ h => h) (by rfl) (fun _ _ => by first | rfl | (go_simp; done) | (go_simp; rfl)) hHeld ?_
    (try simp only [Act.put, List.setIfInBounds_toArray, List.set_cons_zero, List.set_cons_succ])
    refine take_in (i := 8) (v := .int .i64 0) rfl (by as_aux_lemma => kernel_rfl) (by as_aux_lemma => kernel_rfl) (by as_aux_lemma => kernel_rfl) (fun _ _ _ h => h) (by rfl) (fun _ _ => by first | rfl | (go_simp; done) | (go_simp; rfl)) hHeld ?_
    (try simp only [Act.put, List.setIfInBounds_toArray, List.set_cons_zero, List.set_cons_succ])
    refine take_in (i := 9) (v := .bool true) rfl (by as_aux_lemma => kernel_rfl) (by as_aux_lemma => kernel_rfl) (by as_aux_lemma => kernel_rfl) (fun _ _ _ h => h) (by rfl) (fun _ _ => by first | rfl | (go_simp; done) | (go_simp; rfl)) hHeld ?_
    (try simp only [Act.put, List.setIfInBounds_toArray, List.set_cons_zero, List.set_cons_succ])
    refine take_in (i := 10) (v := .bool true) rfl (by as_aux_lemma => kernel_rfl) (by as_aux_lemma => kernel_rfl) (by as_aux_lemma => kernel_rfl) (fun _ _ _ h => h) (by rfl) (fun _ _ => by first | rfl | (go_simp; done) | (go_simp; rfl)) hHeld ?_
    (try simp only [Act.put, List.setIfInBounds_toArray, List.set_cons_zero, List.set_cons_succ])
    refine take_in (i := 11) (v := .bool true) rfl (by as_aux_lemma => kernel_rfl) (by as_aux_lemma => kernel_rfl) (by as_aux_lemma => kernel_rfl) (fun _ _ _ h => h) (by rfl) (fun _ _ => by first | rfl | (go_simp; done) | (go_simp; rfl)) hHeld ?_
    (try simp only [Act.put, List.setIfInBounds_toArray, List.set_cons_zero, List.set_cons_succ])
    refine take_in (i := 12) rfl (by as_aux_lemma => kernel_rfl) (by as_aux_lemma => kernel_rfl) (by as_aux_lemma => kernel_rfl) (fun _ _ _ h => h) (by rfl) (fun w' hb => run_loadN (b := w12.heap.size) (by rfl) (by rfl) ((hb.block _ z17l).trans z17)) hHeld ?_
    (try simp only [Act.put, List.setIfInBounds_toArray, List.set_cons_zero, List.set_cons_succ])
    refine take_in (i := 14) rfl (by as_aux_lemma => kernel_rfl) (by as_aux_lemma => kernel_rfl) (by as_aux_lemma => kernel_rfl) (fun _ _ _ h => h) (by rfl) (fun w' hb => run_loadN (b := g) (by rfl) (by rfl) ((hb.block _ z21l).trans z21)) hHeld ?_
    (try simp only [Act.put, List.setIfInBounds_toArray, List.set_cons_zero, List.set_cons_succ])
    refine call_in (i := 13) (f := 21) (args := #[nodeVal X (.slice a17 X.kids.length c17)]) (by as_aux_lemma => kernel_rfl) rfl (by rfl) (by first | rfl | (go_simp; done) | (simp only [nodeVal]; go_simp; done)) ?_
    refine (rstrip_any (Px.size X) X a17 c17 _ (Nat.le_refl _) hzX (R17.out.next hHeld)).mono ?_
    rw [HEX.out]
    rintro e' vx17 ⟨hq, ax17, cx17, rfl, hrx⟩
    have HRx := Lib.hid hrx.read
    refine ⟨_, rfl, (below_step hHeld hq), fun hHeld => ?_⟩
    (try simp only [Act.put, List.setIfInBounds_toArray, List.set_cons_zero, List.set_cons_succ])
    refine call_in (i := 15) (f := 17) (args := #[nodeVal (Lv.want x y p q neg) (.slice ax17 (Lv.want x y p q neg).kids.length cx17), nodeVal (Lv.want x y p q neg) (.slice a21 (Lv.want x y p q neg).kids.length c21)]) (by as_aux_lemma => kernel_rfl) rfl (by rfl) (by first | rfl | (go_simp; done) | (simp only [nodeVal]; go_simp; done)) ?_
    refine (same_any (Px.size (Lv.want x y p q neg)) (Lv.want x y p q neg) ax17 a21 cx17 c21 _ (Nat.le_refl _) HRx.out (R21.out.under hHeld).read).mono ?_
    rintro e' vy17 ⟨rfl, hq2⟩
    refine ⟨_, rfl, (below_step hHeld hq2), fun hHeld => ?_⟩
    (try simp only [Act.put, List.setIfInBounds_toArray, List.set_cons_zero, List.set_cons_succ])
    refine take_in (i := 16) (v := .bool true) rfl (by as_aux_lemma => kernel_rfl) (by as_aux_lemma => kernel_rfl) (by as_aux_lemma => kernel_rfl) (fun _ _ _ h => h) (by rfl) (fun _ _ => by first | rfl | (go_simp; done) | (go_simp; rfl)) hHeld ?_
    (try simp only [Act.put, List.setIfInBounds_toArray, List.set_cons_zero, List.set_cons_succ])
    refine take_in (i := 17) (v := .bool true) rfl (by as_aux_lemma => kernel_rfl) (by as_aux_lemma => kernel_rfl) (by as_aux_lemma => kernel_rfl) (fun _ _ _ h => h) (by rfl) (fun _ _ => by first | rfl | (go_simp; done) | (go_simp; rfl)) hHeld ?_
    (try simp only [Act.put, List.setIfInBounds_toArray, List.set_cons_zero, List.set_cons_succ])
    refine take_in (i := 18) rfl (by as_aux_lemma => kernel_rfl) (by as_aux_lemma => kernel_rfl) (by as_aux_lemma => kernel_rfl) (fun _ _ _ h => h) (by rfl) (fun w' hb => run_loadN (b := w14.heap.size) (by rfl) (by rfl) ((hb.block _ z19l).trans z19)) hHeld ?_
    (try simp only [Act.put, List.setIfInBounds_toArray, List.set_cons_zero, List.set_cons_succ])
    refine take_in (i := 20) rfl (by as_aux_lemma => kernel_rfl) (by as_aux_lemma => kernel_rfl) (by as_aux_lemma => kernel_rfl) (fun _ _ _ h => h) (by rfl) (fun w' hb => run_loadN (b := g2) (by rfl) (by rfl) ((hb.block _ z22l).trans z22)) hHeld ?_
    (try simp only [Act.put, List.setIfInBounds_toArray, List.set_cons_zero, List.set_cons_succ])
    refine call_in (i := 19) (f := 21) (args := #[nodeVal Y (.slice a19 Y.kids.length c19)]) (by as_aux_lemma => kernel_rfl) rfl (by rfl) (by first | rfl | (go_simp; done) | (simp only [nodeVal]; go_simp; done)) ?_
    refine (rstrip_any (Px.size Y) Y a19 c19 _ (Nat.le_refl _) hzY (R19.out.next hHeld)).mono ?_
    rw [HEY.out]
    rintro e' vx19 ⟨hq, ax19, cx19, rfl, hrx⟩
    have HRx := Lib.hid hrx.read
    refine ⟨_, rfl, (below_step hHeld hq), fun hHeld => ?_⟩
    (try simp only [Act.put, List.setIfInBounds_toArray, List.set_cons_zero, List.set_cons_succ])
    refine call_in (i := 21) (f := 17) (args := #[nodeVal (Lv.cond x y p q neg) (.slice ax19 (Lv.cond x y p q neg).kids.length cx19), nodeVal (Lv.cond x y p q neg) (.slice a22 (Lv.cond x y p q neg).kids.length c22)]) (by as_aux_lemma => kernel_rfl) rfl (by rfl) (by first | rfl | (go_simp; done) | (simp only [nodeVal]; go_simp; done)) ?_
    refine (same_any (Px.size (Lv.cond x y p q neg)) (Lv.cond x y p q neg) ax19 a22 cx19 c22 _ (Nat.le_refl _) HRx.out (R22.out.under hHeld).read).mono ?_
    rintro e' vy19 ⟨rfl, hq2⟩
    refine ⟨_, rfl, (below_step hHeld hq2), fun hHeld => ?_⟩
    (try simp only [Act.put, List.setIfInBounds_toArray, List.set_cons_zero, List.set_cons_succ])
    refine take_in (i := 22) (v := .bool true) rfl (by as_aux_lemma => kernel_rfl) (by as_aux_lemma => kernel_rfl) (by as_aux_lemma => kernel_rfl) (fun _ _ _ h => h) (by rfl) (fun _ _ => by first | rfl | (go_simp; done) | (go_simp; rfl)) hHeld ?_
    (try simp only [Act.put, List.setIfInBounds_toArray, List.set_cons_zero, List.set_cons_succ])
    refine take_in (i := 23) (v := .bool true) rfl (by as_aux_lemma => kernel_rfl) (by as_aux_lemma => kernel_rfl) (by as_aux_lemma => kernel_rfl) (fun _ _ _ h => h) (by rfl) (fun _ _ => by first | rfl | (go_simp; done) | (go_simp; rfl)) hHeld ?_
    (try simp only [Act.put, List.setIfInBounds_toArray, List.set_cons_zero, List.set_cons_succ])
    refine wpAnyH_done (by as_aux_lemma => kernel_rfl) ?_ _
    go_wp2_with fail
    go_meet
    exact ⟨rfl, Lib.hid hHeld⟩
  obtain ⟨rfl, Hb23⟩ := hcut
  have HB := Lib.hid (HB.out.trans (Hb23.out.mono HB.out.size))
  clear T17 T19 T21 T22 z17 z17l z17c z17f R17 z19 z19l z19c z19f R19 z21 z21l R21 z22 z22l R22
  go_wp2_with fail
  go_ret
  exact ⟨ret_bool (by simp), HB.out⟩
end Go.Proofs.YtdiogcedlppioaaGreatDoor
