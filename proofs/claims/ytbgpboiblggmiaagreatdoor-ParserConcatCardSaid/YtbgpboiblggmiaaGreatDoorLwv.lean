/-
  The walk over ParserConcat.
-/
import Derived.Test.YtbgpboiblggmiaaGreatDoorCda
import Derived.Test.YtbgpboiblggmiaaGreatDoorCdc
set_option linter.unusedVariables false
set_option linter.unusedSimpArgs false
namespace Go.Proofs.YtbgpboiblggmiaaGreatDoor
open Go.RowKit
open Px (St T D Res)

set_option maxRecDepth 100000 in
set_option maxHeartbeats 8000000 in
theorem concatp_walk (a b : ByteArray) (w : World) (hS : SymsAt w) (hM : MaxAt w) (hma : a.size ≤ maxLen) (hmb : b.size ≤ maxLen) :
    Calls Tryz.prog 7 #[.string a, .string b] w fun e w' => e = .returned (.bool true) ∧ Below w.heap.size w w' := by
  have HS := Lib.hid hS
  have HM := Lib.hid hM
  have HB := Lib.hid (Below.refl w.heap.size w)
  have Hma := Lib.hid hma
  have Hmb := Lib.hid hmb
  clear hS hM hma hmb
  go_enter Tryz.func7, Tryz.ntmps7
  go_wp2_with fail
  refine (head_any w HS.out HM.out).mono ?_
  rintro e w1 ⟨rfl, hb1⟩
  have HS' := Lib.hid (symsAt_below HS.out hb1 (symsAt_lt HS.out))
  clear HS
  have HS := HS'
  clear HS'
  have HM' := Lib.hid (HM.out.below hb1 HM.out.lt)
  clear HM
  have HM := HM'
  clear HM'
  have HB' := Lib.hid (HB.out.trans (hb1.mono HB.out.size))
  clear HB
  have HB := HB'
  clear HB'
  clear hb1
  by_cases ha6 : a.size ≤ 6000
  rotate_left
  · have hgt : decide ((6000 : Int) < (a.size : Int)) = true := decide_eq_true (by omega)
    go_wp2_with fail
    go_ret
    exact ⟨ret_bool (by simp), HB.out⟩
  have hga : decide ((6000 : Int) < (a.size : Int)) = false := decide_eq_false (by omega)
  by_cases hb6 : b.size ≤ 6000
  rotate_left
  · have hgt : decide ((6000 : Int) < (b.size : Int)) = true := decide_eq_true (by omega)
    go_wp2_with fail
    go_ret
    exact ⟨ret_bool (by simp), HB.out⟩
  have hgb : decide ((6000 : Int) < (b.size : Int)) = false := decide_eq_false (by omega)
  rcases short_cases b with ⟨tb, hshb⟩ | hno
  rotate_left
  · go_wp2_with fail
    refine (short_no b w1 Hmb.out hno).mono ?_
    rintro e w2 ⟨rfl, hb2⟩
    have HB := Lib.hid (HB.out.trans (hb2.mono HB.out.size))
    go_wp2_with fail
    go_ret
    exact ⟨ret_bool (by simp), HB.out⟩
  have Hshb := Lib.hid hshb
  clear hshb
  go_wp2_with fail
  refine (short_yes b w1 Hshb.out).mono ?_
  rintro e w2 ⟨rfl, hb2⟩
  have HS' := Lib.hid (symsAt_below HS.out hb2 (symsAt_lt HS.out))
  clear HS
  have HS := HS'
  clear HS'
  have HM' := Lib.hid (HM.out.below hb2 HM.out.lt)
  clear HM
  have HM := HM'
  clear HM'
  have HB' := Lib.hid (HB.out.trans (hb2.mono HB.out.size))
  clear HB
  have HB := HB'
  clear HB'
  clear hb2
  go_wp2_with fail
  obtain ⟨S, hS4⟩ : ∃ S, S = a ++ { data := #[10] } ++ b := ⟨_, rfl⟩
  have hSz : S.size ≤ maxLen := by rw [hS4]; simp only [ByteArray.size_append]; have h1 : ({ data := #[10] } : ByteArray).size = 1 := rfl; rw [h1]; unfold maxLen; omega
  have HSd := Lib.hid (show S.data.toList = a.data.toList ++ 10 :: b.data.toList by rw [hS4]; simp)
  have HS4 := Lib.hid hS4
  rw [← hS4]
  have HSz := Lib.hid hSz
  clear hSz hS4
  rcases short_cases S with ⟨tc, hshc⟩ | hno
  rotate_left
  · refine (short_no S w2 HSz.out hno).mono ?_
    rintro e w3 ⟨rfl, hb3⟩
    have HB := Lib.hid (HB.out.trans (hb3.mono HB.out.size))
    go_wp2_with fail
    go_ret
    exact ⟨ret_bool (by simp), HB.out⟩
  have Hshc := Lib.hid hshc
  clear hshc
  refine (short_yes S w2 Hshc.out).mono ?_
  rintro e w3 ⟨rfl, hb3⟩
  have HS' := Lib.hid (symsAt_below HS.out hb3 (symsAt_lt HS.out))
  clear HS
  have HS := HS'
  clear HS'
  have HM' := Lib.hid (HM.out.below hb3 HM.out.lt)
  clear HM
  have HM := HM'
  clear HM'
  have HB' := Lib.hid (HB.out.trans (hb3.mono HB.out.size))
  clear HB
  have HB := HB'
  clear HB'
  clear hb3 hga hgb
  go_wp2_with fail
  refine (parse_any a w3 HS.out Hma.out).mono ?_
  intro e w4 hp
  obtain ⟨X, d, hX⟩ : ∃ X d, Px.parse a.data.toList = (X, d) := ⟨_, _, rfl⟩
  rw [hX] at hp
  have HX := Lib.hid hX
  clear hX
  obtain ⟨hb4, a4, c4, da, dc, rfl, hr4, hd4⟩ := hp
  have HS' := Lib.hid (symsAt_below HS.out hb4 (symsAt_lt HS.out))
  clear HS
  have HS := HS'
  clear HS'
  have HM' := Lib.hid (HM.out.below hb4 HM.out.lt)
  clear HM
  have HM := HM'
  clear HM'
  have HB' := Lib.hid (HB.out.trans (hb4.mono HB.out.size))
  clear HB
  have HB := HB'
  clear HB'
  obtain ⟨w5, hw5⟩ : ∃ W, W = w4.alloc (.cells #[.int .i64 X.kind, .string ⟨X.name.toArray⟩, .string ⟨X.other.toArray⟩, .int .i64 X.n, .int .i64 X.len, .int .i64 X.init, .bool X.ghost, .slice a4 X.kids.length c4, .int .i64 X.off] 25) := ⟨_, rfl⟩
  have hb5 : Below w4.heap.size w4 w5 := by rw [hw5]; exact (Below.refl _ _).alloc (Nat.le_refl _) _
  have T6 := Lib.hid (show Tr w5 w4.heap.size X by rw [hw5]; exact Tr.new hr4 rfl)
  have HS' := Lib.hid (symsAt_below HS.out hb5 (symsAt_lt HS.out))
  clear HS
  have HS := HS'
  clear HS'
  have HM' := Lib.hid (HM.out.below hb5 HM.out.lt)
  clear HM
  have HM := HM'
  clear HM'
  have HB' := Lib.hid (HB.out.trans (hb5.mono HB.out.size))
  clear HB
  have HB := HB'
  clear HB'
  clear hb4 hr4 hd4 hb5
  unfold nodeVal
  go_upto_region 5 with (fail)
  rw [← hw5]
  clear hw5
  cases d with
  | cons d0 r =>
    have hgt : decide ((0 : Int) < (r.length : Int) + 1) = true := decide_eq_true (by omega)
    go_wp2_with fail
    go_ret
    exact ⟨ret_bool (by simp), HB.out⟩
  | nil =>
  obtain ⟨a6, c6, z6, r6⟩ := T6.out
  have z6l := z6.lt
  obtain ⟨z6c, z6f⟩ := obj_facts z6
  have R6 := Lib.hid r6
  clear r6
  go_wp2_with fail
  refine (few_any X 4000 a6 c6 w5 (by decide) (by decide) R6.out).mono ?_
  rintro e w6 ⟨rfl, hb6w⟩
  rw [few_parse a.data.toList HX.out]
  have hb6' := hb6w
  clear z6 z6l z6c z6f R6
  have T6' := Lib.hid (T6.out.below hb6')
  clear T6
  have T6 := T6'
  clear T6'
  have HS := Lib.hid (symsAt_below HS.out hb6' (symsAt_lt HS.out))
  have HM := Lib.hid (HM.out.below hb6' HM.out.lt)
  have HB := Lib.hid (HB.out.trans (hb6'.mono HB.out.size))
  clear hb6w hb6'
  go_wp2_with fail
  refine (parse_any b w6 HS.out Hmb.out).mono ?_
  intro e' w7 hp
  obtain ⟨Y, e, hY⟩ : ∃ Y e, Px.parse b.data.toList = (Y, e) := ⟨_, _, rfl⟩
  rw [hY] at hp
  have HY := Lib.hid hY
  clear hY
  obtain ⟨hb7, a7, c7, ea, ec, rfl, hr7, hd7⟩ := hp
  have HS' := Lib.hid (symsAt_below HS.out hb7 (symsAt_lt HS.out))
  clear HS
  have HS := HS'
  clear HS'
  have HM' := Lib.hid (HM.out.below hb7 HM.out.lt)
  clear HM
  have HM := HM'
  clear HM'
  have HB' := Lib.hid (HB.out.trans (hb7.mono HB.out.size))
  clear HB
  have HB := HB'
  clear HB'
  have T6' := Lib.hid (T6.out.below hb7)
  clear T6
  have T6 := T6'
  clear T6'
  have D9 := Lib.hid hd7
  obtain ⟨w8, hw8⟩ : ∃ W, W = w7.alloc (.cells #[.int .i64 Y.kind, .string ⟨Y.name.toArray⟩, .string ⟨Y.other.toArray⟩, .int .i64 Y.n, .int .i64 Y.len, .int .i64 Y.init, .bool Y.ghost, .slice a7 Y.kids.length c7, .int .i64 Y.off] 25) := ⟨_, rfl⟩
  have hb8 : Below w7.heap.size w7 w8 := by rw [hw8]; exact (Below.refl _ _).alloc (Nat.le_refl _) _
  have T8 := Lib.hid (show Tr w8 w7.heap.size Y by rw [hw8]; exact Tr.new hr7 rfl)
  have HS' := Lib.hid (symsAt_below HS.out hb8 (symsAt_lt HS.out))
  clear HS
  have HS := HS'
  clear HS'
  have HM' := Lib.hid (HM.out.below hb8 HM.out.lt)
  clear HM
  have HM := HM'
  clear HM'
  have HB' := Lib.hid (HB.out.trans (hb8.mono HB.out.size))
  clear HB
  have HB := HB'
  clear HB'
  have T6' := Lib.hid (T6.out.below hb8)
  clear T6
  have T6 := T6'
  clear T6'
  have D9' := Lib.hid (D9.out.below hb8)
  clear D9
  have D9 := D9'
  clear D9'
  clear hb7 hr7 hd7 hb8
  unfold nodeVal
  go_upto_region 8 with (fail)
  rw [← hw8]
  clear hw8
  go_wp2_with fail
  rw [← HS4.out]
  refine (parse_any S w8 HS.out HSz.out).mono ?_
  intro e' w9 hp
  obtain ⟨Z, f, hZ⟩ : ∃ Z f, Px.parse S.data.toList = (Z, f) := ⟨_, _, rfl⟩
  rw [hZ] at hp
  have HZ := Lib.hid hZ
  clear hZ
  obtain ⟨hb9, a9, c9, fa, fc, rfl, hr9, hd9⟩ := hp
  have HS' := Lib.hid (symsAt_below HS.out hb9 (symsAt_lt HS.out))
  clear HS
  have HS := HS'
  clear HS'
  have HM' := Lib.hid (HM.out.below hb9 HM.out.lt)
  clear HM
  have HM := HM'
  clear HM'
  have HB' := Lib.hid (HB.out.trans (hb9.mono HB.out.size))
  clear HB
  have HB := HB'
  clear HB'
  have T6' := Lib.hid (T6.out.below hb9)
  clear T6
  have T6 := T6'
  clear T6'
  have T8' := Lib.hid (T8.out.below hb9)
  clear T8
  have T8 := T8'
  clear T8'
  have D9' := Lib.hid (D9.out.below hb9)
  clear D9
  have D9 := D9'
  clear D9'
  have D11 := Lib.hid hd9
  obtain ⟨w10, hw10⟩ : ∃ W, W = w9.alloc (.cells #[.int .i64 Z.kind, .string ⟨Z.name.toArray⟩, .string ⟨Z.other.toArray⟩, .int .i64 Z.n, .int .i64 Z.len, .int .i64 Z.init, .bool Z.ghost, .slice a9 Z.kids.length c9, .int .i64 Z.off] 25) := ⟨_, rfl⟩
  have hb10 : Below w9.heap.size w9 w10 := by rw [hw10]; exact (Below.refl _ _).alloc (Nat.le_refl _) _
  have T10 := Lib.hid (show Tr w10 w9.heap.size Z by rw [hw10]; exact Tr.new hr9 rfl)
  have HS' := Lib.hid (symsAt_below HS.out hb10 (symsAt_lt HS.out))
  clear HS
  have HS := HS'
  clear HS'
  have HM' := Lib.hid (HM.out.below hb10 HM.out.lt)
  clear HM
  have HM := HM'
  clear HM'
  have HB' := Lib.hid (HB.out.trans (hb10.mono HB.out.size))
  clear HB
  have HB := HB'
  clear HB'
  have T6' := Lib.hid (T6.out.below hb10)
  clear T6
  have T6 := T6'
  clear T6'
  have T8' := Lib.hid (T8.out.below hb10)
  clear T8
  have T8 := T8'
  clear T8'
  have D9' := Lib.hid (D9.out.below hb10)
  clear D9
  have D9 := D9'
  clear D9'
  have D11' := Lib.hid (D11.out.below hb10)
  clear D11
  have D11 := D11'
  clear D11'
  clear hb9 hr9 hd9 hb10
  unfold nodeVal
  go_upto_region 9 with (fail)
  rw [← hw10]
  clear hw10
  obtain ⟨a8, c8, z8, r8⟩ := T8.out
  have z8l := z8.lt
  obtain ⟨z8c, z8f⟩ := obj_facts z8
  have R8 := Lib.hid r8
  clear r8
  go_wp2_with fail
  refine (few_any Y 4000 a8 c8 w10 (by decide) (by decide) R8.out).mono ?_
  rintro e' w11 ⟨rfl, hb11⟩
  rw [few_parse b.data.toList HY.out]
  clear z8 z8l z8c z8f R8
  have HS' := Lib.hid (symsAt_below HS.out hb11 (symsAt_lt HS.out))
  clear HS
  have HS := HS'
  clear HS'
  have HM' := Lib.hid (HM.out.below hb11 HM.out.lt)
  clear HM
  have HM := HM'
  clear HM'
  have HB' := Lib.hid (HB.out.trans (hb11.mono HB.out.size))
  clear HB
  have HB := HB'
  clear HB'
  have T6' := Lib.hid (T6.out.below hb11)
  clear T6
  have T6 := T6'
  clear T6'
  have T8' := Lib.hid (T8.out.below hb11)
  clear T8
  have T8 := T8'
  clear T8'
  have T10' := Lib.hid (T10.out.below hb11)
  clear T10
  have T10 := T10'
  clear T10'
  have D9' := Lib.hid (D9.out.below hb11)
  clear D9
  have D9 := D9'
  clear D9'
  have D11' := Lib.hid (D11.out.below hb11)
  clear D11
  have D11 := D11'
  clear D11'
  clear hb11
  obtain ⟨a10, c10, z10, r10⟩ := T10.out
  have z10l := z10.lt
  obtain ⟨z10c, z10f⟩ := obj_facts z10
  have R10 := Lib.hid r10
  clear r10
  go_wp2_with fail
  refine (few_any Z 4000 a10 c10 w11 (by decide) (by decide) R10.out).mono ?_
  rintro e' w12 ⟨rfl, hb12⟩
  rw [few_parse S.data.toList HZ.out]
  clear z10 z10l z10c z10f R10
  have HS' := Lib.hid (symsAt_below HS.out hb12 (symsAt_lt HS.out))
  clear HS
  have HS := HS'
  clear HS'
  have HM' := Lib.hid (HM.out.below hb12 HM.out.lt)
  clear HM
  have HM := HM'
  clear HM'
  have HB' := Lib.hid (HB.out.trans (hb12.mono HB.out.size))
  clear HB
  have HB := HB'
  clear HB'
  have T6' := Lib.hid (T6.out.below hb12)
  clear T6
  have T6 := T6'
  clear T6'
  have T8' := Lib.hid (T8.out.below hb12)
  clear T8
  have T8 := T8'
  clear T8'
  have T10' := Lib.hid (T10.out.below hb12)
  clear T10
  have T10 := T10'
  clear T10'
  have D9' := Lib.hid (D9.out.below hb12)
  clear D9
  have D9 := D9'
  clear D9'
  have D11' := Lib.hid (D11.out.below hb12)
  clear D11
  have D11 := D11'
  clear D11'
  clear hb12
  obtain ⟨ta, qa, xs, hla, hXs⟩ := parse_openC HX.out
  have HLa := Lib.hid hla
  have HXs := Lib.hid hXs
  clear hla hXs
  have HIn := Lib.hid (parse_in Hshb.out.2 HY.out)
  have HYs := Lib.hid (parse_source HY.out)
  have HC := Lib.hid (Px.concat (tc := tc) (r := 0) HLa.out Hshb.out.2 (by rw [← HSd.out]; exact Hshc.out.2) (by rw [HX.out]))
  go_upto_region 12 with (fail)
  have hwr : IntKind.i64.wrap ((a.size : Int) + 1) = (a.size : Int) + 1 := IntWalk.i64_in _ (by omega)
  obtain ⟨xs', ys, e2, h1, h2, h3⟩ := HC.out
  obtain ⟨rfl, _⟩ := Prod.mk.inj ((HX.out.symm.trans h1) : (X, ([] : List D)) = _)
  obtain ⟨rfl, rfl⟩ := Prod.mk.inj ((HY.out.symm.trans h2) : (Y, e) = _)
  have H3 := Lib.hid h3
  clear h1 h2 h3 HC HXs HYs
  obtain ⟨by_, hby⟩ : ∃ y : Int, y = ((a.data.toList.length + 1 : Nat) : Int) := ⟨_, rfl⟩
  rw [← hby] at H3
  have hby2 : ((a.size : Int) + 1) = by_ := by rw [hby]; have : a.data.toList.length = a.size := rfl; omega
  have Hby := Lib.hid hby2
  rw [hby2]
  clear hby hby2 hwr
  obtain ⟨WT, hWT⟩ : ∃ t, t = Px.source (xs' ++ Px.shL by_ ys) := ⟨_, rfl⟩
  rw [← hWT] at H3
  have HWT := Lib.hid hWT
  clear hWT
  go_cut [13] (fun v wx => ∃ g, v = .pointer (some ⟨g, 0, none⟩) ∧ Hid (Tr wx g WT) ∧ Hid (Below w12.heap.size w12 wx))
  case first =>
    have hxs : Px.size (Px.source xs') ≤ 3001 := by have h := Px.parse_size (src := a.data.toList); rw [HX.out] at h; exact h
    have hys : Px.size (Px.source ys) ≤ 3001 := by have h := Px.parse_size (src := b.data.toList); rw [HY.out] at h; exact h
    have e1 : Px.size (Px.source xs') = 1 + Px.sizes xs' := by unfold Px.source Px.T.of; rw [Px.size]
    have e2 : Px.size (Px.source ys) = 1 + Px.sizes ys := by unfold Px.source Px.T.of; rw [Px.size]
    have e3 := len_sizes xs'
    have e4 := len_sizes ys
    have e5 : (Px.shL by_ ys).length = ys.length := shL_len by_ ys
    have Hx9 := Lib.hid (show xs'.length ≤ 450000 by omega)
    have Hm9 := Lib.hid (show (Px.shL by_ ys).length ≤ 450000 by omega)
    have Hlm := Lib.hid (show xs'.length + (Px.shL by_ ys).length ≤ maxLen by unfold maxLen; omega)
    have Hy9 := Lib.hid (show Px.size (Px.source ys) ≤ 900000 by omega)
    have Hb09 := Lib.hid (show 0 ≤ by_ ∧ by_ ≤ 100000 by have := Hby.out; omega)
    clear hxs hys e1 e2 e3 e4 e5
    obtain ⟨a6, c6, z6, r6⟩ := T6.out
    have z6l := z6.lt
    obtain ⟨z6c, z6f⟩ := obj_facts z6
    have R6 := Lib.hid r6
    clear r6
    obtain ⟨a8, c8, z8, r8⟩ := T8.out
    have z8l := z8.lt
    obtain ⟨z8c, z8f⟩ := obj_facts z8
    have R8 := Lib.hid r8
    clear r8
    have R6 := Lib.hid (show RRow w12.heap.size w12 xs' (.slice a6 (Px.source xs').kids.length c6) from R6.out)
    have hc6 : w12.cell? ⟨w4.heap.size, 7, none⟩ = some (.slice a6 (Px.source xs').kids.length c6) := by rw [cell_of_obj z6]; rfl
    refine wp_region_held_drew (S := (fun w' => Below w12.heap.size w12 w')) (by as_aux_lemma => kernel_rfl) ((Below.refl _ _).drew) (fun hHeld => ?_)
    obtain ⟨v0, hv0⟩ : ∃ V, V = w12.drew := ⟨_, rfl⟩
    rw [← hv0] at hHeld ⊢
    clear hv0
    refine take_in (i := 1) (v := .pointer (some ⟨w4.heap.size, 7, none⟩)) rfl (by as_aux_lemma => kernel_rfl) (by as_aux_lemma => kernel_rfl) (by as_aux_lemma => kernel_rfl) (fun _ _ _ h => h) (by rfl) (fun _ _ => by first | rfl | (go_simp; done) | (go_simp; rfl)) hHeld ?_
    (try simp only [Act.put, List.setIfInBounds_toArray, List.set_cons_zero, List.set_cons_succ])
    refine take_in (i := 2) (v := .slice a6 (Px.source xs').kids.length c6) rfl (by as_aux_lemma => kernel_rfl) (by as_aux_lemma => kernel_rfl) (by as_aux_lemma => kernel_rfl) (fun _ _ _ h => h) (by rfl) (fun w' hb => by have hc := (hb.cell (p := ⟨w4.heap.size, 7, none⟩) z6l).trans hc6; go_simp) hHeld ?_
    (try simp only [Act.put, List.setIfInBounds_toArray, List.set_cons_zero, List.set_cons_succ])
    refine take_in (i := 4) rfl (by as_aux_lemma => kernel_rfl) (by as_aux_lemma => kernel_rfl) (by as_aux_lemma => kernel_rfl) (fun _ _ _ h => h) (by rfl) (fun w' hb => run_loadN (b := w7.heap.size) (by rfl) (by rfl) ((hb.block _ z8l).trans z8)) hHeld ?_
    (try simp only [Act.put, List.setIfInBounds_toArray, List.set_cons_zero, List.set_cons_succ])
    refine take_in (i := 5) (v := .int .i64 by_) rfl (by as_aux_lemma => kernel_rfl) (by as_aux_lemma => kernel_rfl) (by as_aux_lemma => kernel_rfl) (fun _ _ _ h => h) (by rfl) (fun _ _ => by first | rfl | (go_simp; done) | (go_simp; rfl)) hHeld ?_
    (try simp only [Act.put, List.setIfInBounds_toArray, List.set_cons_zero, List.set_cons_succ])
    have hOld : w12.heap.size ≤ v0.heap.size := hHeld.size
    clear z6c z6f z8c z8f hc6
    refine ready2 (i := 0) (j := 10) (by as_aux_lemma => kernel_rfl) ?_ ?_
    · skip
      refine at_op (i := 0) (v := .slice (some ⟨v0.heap.size, 0, none⟩) 0 0) (w1 := v0.alloc (.cells #[] 25)) rfl (by rfl) (by first | (go_simp; done) | (go_simp; rfl)) (hHeld.alloc hHeld.size _) (fun hHeld => ?_)
      (try simp only [Act.put, List.setIfInBounds_toArray, List.set_cons_zero, List.set_cons_succ])
      obtain ⟨v1, hv⟩ : ∃ V, V = v0.alloc (.cells #[] 25) := ⟨_, rfl⟩
      have HO := Lib.hid (Own.start hOld hv)
      rw [← hv] at hHeld ⊢
      have hbv : Below v0.heap.size v0 v1 := hv ▸ (Below.refl _ _).alloc (Nat.le_refl _) _
      have hzv1 : v0.heap.size < v1.heap.size := by rw [hv]; simp
      have hOld : w12.heap.size ≤ v1.heap.size := hHeld.size
      clear hv hbv
      refine ready2 (i := 3) (j := 10) (by as_aux_lemma => kernel_rfl) ?_ ?_
      · skip
        obtain ⟨va2, v3, hra, hoa, hga, hzv3⟩ := HO.out.first 23 (R6.out.below hHeld) Hx9.out
        refine at_op (i := 3) (v := va2) (w1 := v3) rfl (by rfl) (run_append_op (by rfl) (by rfl) hra) (below_own HO.out hHeld hga hOld) (fun hHeld => ?_)
        (try simp only [Act.put, List.setIfInBounds_toArray, List.set_cons_zero, List.set_cons_succ])
        have HO := Lib.hid hoa
        have hOld : w12.heap.size ≤ v3.heap.size := hHeld.size
        clear hra hoa hga
        refine ready2 (i := 6) (j := 10) (by as_aux_lemma => kernel_rfl) ?_ ?_
        · skip
          refine at_call (i := 6) (f := 28) (args := #[nodeVal (Px.source ys) (.slice a8 (Px.source ys).kids.length c8), .int .i64 by_, .bool true]) rfl (by rfl) (by first | rfl | (go_simp; done) | (simp only [nodeVal]; go_simp; done)) ?_
          refine (rshift_any 900000 (Px.source ys) by_ true 0 a8 c8 _ Hy9.out (Nat.le_refl _) Hb09.out.1 Hb09.out.2 HIn.out (.inl ⟨rfl, rfl⟩) ((R8.out.below hHeld).mono hOld)).mono ?_
          rintro e' v4 ⟨hq, ag5, cg6, rfl, hr⟩
          have hzv4 : v3.heap.size ≤ v4.heap.size := hq.size
          have HO := Lib.hid (HO.out.below hq)
          have HR := Lib.hid (show Row (fun i => v3.heap.size ≤ i ∧ i < v4.heap.size) v4 (Px.shL by_ ys) (.slice ag5 (Px.shL by_ ys).length cg6) from hr.lt)
          refine ⟨_, rfl, below_step hHeld hq, fun hHeld => ?_⟩
          (try simp only [Act.put, List.setIfInBounds_toArray, List.set_cons_zero, List.set_cons_succ])
          clear hq hr
          have hOld : w12.heap.size ≤ v4.heap.size := hHeld.size
          refine take_in (i := 7) (v := .slice ag5 (Px.shL by_ ys).length cg6) rfl (by as_aux_lemma => kernel_rfl) (by as_aux_lemma => kernel_rfl) (by as_aux_lemma => kernel_rfl) (fun _ _ _ h => h) (by rfl) (fun _ _ => by first | rfl | (go_simp; done) | (go_simp; rfl)) hHeld ?_
          (try simp only [Act.put, List.setIfInBounds_toArray, List.set_cons_zero, List.set_cons_succ])
          refine ready2 (i := 8) (j := 10) (by as_aux_lemma => kernel_rfl) ?_ ?_
          · skip
            obtain ⟨va7, v8, hra, hoa, hga, hzv8⟩ := HO.out.second 23 HR.out (by intro b hb hS; have hb : (b = v0.heap.size ∨ b = v1.heap.size) ∧ b < v3.heap.size := hb; have hS : v3.heap.size ≤ b ∧ b < v4.heap.size := hS; omega) Hx9.out Hm9.out
            refine at_op (i := 8) (v := va7) (w1 := v8) rfl (by rfl) (run_append_op (by rfl) (by rfl) hra) (below_own HO.out hHeld hga hOld) (fun hHeld => ?_)
            (try simp only [Act.put, List.setIfInBounds_toArray, List.set_cons_zero, List.set_cons_succ])
            have HO := Lib.hid hoa
            have hOld : w12.heap.size ≤ v8.heap.size := hHeld.size
            clear hra hoa hga HR
            obtain ⟨ar9, cr10, rfl⟩ := HO.out.form
            refine take_in (i := 9) (v := nodeVal (Px.source (xs' ++ Px.shL by_ ys)) (.slice ar9 (xs'.length + (Px.shL by_ ys).length) cr10)) rfl (by as_aux_lemma => kernel_rfl) (by as_aux_lemma => kernel_rfl) (by as_aux_lemma => kernel_rfl) (fun _ _ _ h => h) (by rfl) (fun _ _ => by first | rfl | (go_simp; done) | (go_simp; rfl)) hHeld ?_
            (try simp only [Act.put, List.setIfInBounds_toArray, List.set_cons_zero, List.set_cons_succ])
            refine ready1 (i := 10) (by as_aux_lemma => kernel_rfl) ?_
            refine at_op (i := 10) rfl (by rfl) run_allocN (hHeld.alloc hHeld.size _) (fun hHeld => ?_)
            (try simp only [Act.put, List.setIfInBounds_toArray, List.set_cons_zero, List.set_cons_succ])
            obtain ⟨v11, hv⟩ : ∃ V, V = v8.alloc (.cells #[.int .i64 0, .string ⟨#[]⟩, .string ⟨#[]⟩, .int .i64 0, .int .i64 0, .int .i64 0, .bool false, .slice none 0 0, .int .i64 0] 25) := ⟨_, rfl⟩
            rw [← hv] at hHeld ⊢
            have hbv : Below v8.heap.size v8 v11 := hv ▸ (Below.refl _ _).alloc (Nat.le_refl _) _
            have hzv11 : v8.heap.size < v11.heap.size := by rw [hv]; simp
            have zv : Var 25 v11 v8.heap.size #[.int .i64 0, .string ⟨#[]⟩, .string ⟨#[]⟩, .int .i64 0, .int .i64 0, .int .i64 0, .bool false, .slice none 0 0, .int .i64 0] := by rw [hv]; exact Var.new' rfl
            have HO := Lib.hid (HO.out.below hbv)
            have hgu : w12.heap.size ≤ v8.heap.size := hOld
            have hOld : w12.heap.size ≤ v11.heap.size := hHeld.size
            clear hv hbv
            refine ready1 (i := 11) (by as_aux_lemma => kernel_rfl) ?_
            refine at_skip (w1 := v11.setRow v8.heap.size (nodeCells (Px.source (xs' ++ Px.shL by_ ys)) (.slice ar9 (xs'.length + (Px.shL by_ ys).length) cr10)).toArray) rfl (by rfl) (run_storeT (t := (Px.source (xs' ++ Px.shL by_ ys))) (b := v8.heap.size) (old := #[.int .i64 0, .string ⟨#[]⟩, .string ⟨#[]⟩, .int .i64 0, .int .i64 0, .int .i64 0, .bool false, .slice none 0 0, .int .i64 0]) (by rfl) (by rfl) rfl zv) (below_setRow hHeld hgu _) (fun hHeld => ?_)
            refine wpAnyH_done (by as_aux_lemma => kernel_rfl) ?_ _
            go_wp2_with fail
            go_meet
            rw [HWT.out]
            exact ⟨v8.heap.size, rfl, Lib.hid (Own.tr HO.out zv Hlm.out hgu (by intro hS; have hS : v3.heap.size ≤ (v8.heap.size) ∧ (v8.heap.size) < v4.heap.size := hS; omega) (by intro hb; have hb : ((((v8.heap.size) = v0.heap.size ∨ (v8.heap.size) = v1.heap.size) ∧ (v8.heap.size) < v3.heap.size) ∨ (v8.heap.size) = v4.heap.size) ∧ (v8.heap.size) < v8.heap.size := hb; omega)), Lib.hid hHeld⟩
          · skip
            refine at_op (i := 10) rfl (by rfl) run_allocN (hHeld.alloc hHeld.size _) (fun hHeld => ?_)
            (try simp only [Act.put, List.setIfInBounds_toArray, List.set_cons_zero, List.set_cons_succ])
            obtain ⟨v12, hv⟩ : ∃ V, V = v4.alloc (.cells #[.int .i64 0, .string ⟨#[]⟩, .string ⟨#[]⟩, .int .i64 0, .int .i64 0, .int .i64 0, .bool false, .slice none 0 0, .int .i64 0] 25) := ⟨_, rfl⟩
            rw [← hv] at hHeld ⊢
            have hbv : Below v4.heap.size v4 v12 := hv ▸ (Below.refl _ _).alloc (Nat.le_refl _) _
            have hzv12 : v4.heap.size < v12.heap.size := by rw [hv]; simp
            have zv : Var 25 v12 v4.heap.size #[.int .i64 0, .string ⟨#[]⟩, .string ⟨#[]⟩, .int .i64 0, .int .i64 0, .int .i64 0, .bool false, .slice none 0 0, .int .i64 0] := by rw [hv]; exact Var.new' rfl
            have HO := Lib.hid (HO.out.below hbv)
            have HR := Lib.hid (HR.out.under hbv)
            have hgu : w12.heap.size ≤ v4.heap.size := hOld
            have hOld : w12.heap.size ≤ v12.heap.size := hHeld.size
            clear hv hbv
            refine ready1 (i := 8) (by as_aux_lemma => kernel_rfl) ?_
            obtain ⟨va13, v14, hra, hoa, hga, hzv14⟩ := HO.out.second 23 HR.out (by intro b hb hS; have hb : (b = v0.heap.size ∨ b = v1.heap.size) ∧ b < v3.heap.size := hb; have hS : v3.heap.size ≤ b ∧ b < v4.heap.size := hS; omega) Hx9.out Hm9.out
            refine at_op (i := 8) (v := va13) (w1 := v14) rfl (by rfl) (run_append_op (by rfl) (by rfl) hra) (below_own HO.out hHeld hga hOld) (fun hHeld => ?_)
            (try simp only [Act.put, List.setIfInBounds_toArray, List.set_cons_zero, List.set_cons_succ])
            have zv : Var 25 v14 v4.heap.size #[.int .i64 0, .string ⟨#[]⟩, .string ⟨#[]⟩, .int .i64 0, .int .i64 0, .int .i64 0, .bool false, .slice none 0 0, .int .i64 0] := zv.grown' hga (by intro j hj; have h1 : (j = v0.heap.size ∨ j = v1.heap.size) ∧ j < v3.heap.size := (HO.out.kb j hj).1; omega)
            have HO := Lib.hid hoa
            have hOld : w12.heap.size ≤ v14.heap.size := hHeld.size
            clear hra hoa hga HR
            obtain ⟨ar15, cr16, rfl⟩ := HO.out.form
            refine take_in (i := 9) (v := nodeVal (Px.source (xs' ++ Px.shL by_ ys)) (.slice ar15 (xs'.length + (Px.shL by_ ys).length) cr16)) rfl (by as_aux_lemma => kernel_rfl) (by as_aux_lemma => kernel_rfl) (by as_aux_lemma => kernel_rfl) (fun _ _ _ h => h) (by rfl) (fun _ _ => by first | rfl | (go_simp; done) | (go_simp; rfl)) hHeld ?_
            (try simp only [Act.put, List.setIfInBounds_toArray, List.set_cons_zero, List.set_cons_succ])
            refine ready1 (i := 11) (by as_aux_lemma => kernel_rfl) ?_
            refine at_skip (w1 := v14.setRow v4.heap.size (nodeCells (Px.source (xs' ++ Px.shL by_ ys)) (.slice ar15 (xs'.length + (Px.shL by_ ys).length) cr16)).toArray) rfl (by rfl) (run_storeT (t := (Px.source (xs' ++ Px.shL by_ ys))) (b := v4.heap.size) (old := #[.int .i64 0, .string ⟨#[]⟩, .string ⟨#[]⟩, .int .i64 0, .int .i64 0, .int .i64 0, .bool false, .slice none 0 0, .int .i64 0]) (by rfl) (by rfl) rfl zv) (below_setRow hHeld hgu _) (fun hHeld => ?_)
            refine wpAnyH_done (by as_aux_lemma => kernel_rfl) ?_ _
            go_wp2_with fail
            go_meet
            rw [HWT.out]
            exact ⟨v4.heap.size, rfl, Lib.hid (Own.tr HO.out zv Hlm.out hgu (by intro hS; have hS : v3.heap.size ≤ (v4.heap.size) ∧ (v4.heap.size) < v4.heap.size := hS; omega) (by intro hb; have hb : ((((v4.heap.size) = v0.heap.size ∨ (v4.heap.size) = v1.heap.size) ∧ (v4.heap.size) < v3.heap.size) ∨ (v4.heap.size) = v12.heap.size) ∧ (v4.heap.size) < v14.heap.size := hb; omega)), Lib.hid hHeld⟩
        · skip
          refine at_op (i := 10) rfl (by rfl) run_allocN (hHeld.alloc hHeld.size _) (fun hHeld => ?_)
          (try simp only [Act.put, List.setIfInBounds_toArray, List.set_cons_zero, List.set_cons_succ])
          obtain ⟨v17, hv⟩ : ∃ V, V = v3.alloc (.cells #[.int .i64 0, .string ⟨#[]⟩, .string ⟨#[]⟩, .int .i64 0, .int .i64 0, .int .i64 0, .bool false, .slice none 0 0, .int .i64 0] 25) := ⟨_, rfl⟩
          rw [← hv] at hHeld ⊢
          have hbv : Below v3.heap.size v3 v17 := hv ▸ (Below.refl _ _).alloc (Nat.le_refl _) _
          have hzv17 : v3.heap.size < v17.heap.size := by rw [hv]; simp
          have zv : Var 25 v17 v3.heap.size #[.int .i64 0, .string ⟨#[]⟩, .string ⟨#[]⟩, .int .i64 0, .int .i64 0, .int .i64 0, .bool false, .slice none 0 0, .int .i64 0] := by rw [hv]; exact Var.new' rfl
          have HO := Lib.hid (HO.out.below hbv)
          have hgu : w12.heap.size ≤ v3.heap.size := hOld
          have hOld : w12.heap.size ≤ v17.heap.size := hHeld.size
          clear hv hbv
          refine ready1 (i := 6) (by as_aux_lemma => kernel_rfl) ?_
          refine at_call (i := 6) (f := 28) (args := #[nodeVal (Px.source ys) (.slice a8 (Px.source ys).kids.length c8), .int .i64 by_, .bool true]) rfl (by rfl) (by first | rfl | (go_simp; done) | (simp only [nodeVal]; go_simp; done)) ?_
          refine (rshift_any 900000 (Px.source ys) by_ true 0 a8 c8 _ Hy9.out (Nat.le_refl _) Hb09.out.1 Hb09.out.2 HIn.out (.inl ⟨rfl, rfl⟩) ((R8.out.below hHeld).mono hOld)).mono ?_
          rintro e' v18 ⟨hq, ag19, cg20, rfl, hr⟩
          have hzv18 : v17.heap.size ≤ v18.heap.size := hq.size
          have zv : Var 25 v18 v3.heap.size #[.int .i64 0, .string ⟨#[]⟩, .string ⟨#[]⟩, .int .i64 0, .int .i64 0, .int .i64 0, .bool false, .slice none 0 0, .int .i64 0] := (hq.block _ zv.lt).trans zv
          have HO := Lib.hid (HO.out.below hq)
          have HR := Lib.hid (show Row (fun i => v17.heap.size ≤ i ∧ i < v18.heap.size) v18 (Px.shL by_ ys) (.slice ag19 (Px.shL by_ ys).length cg20) from hr.lt)
          refine ⟨_, rfl, below_step hHeld hq, fun hHeld => ?_⟩
          (try simp only [Act.put, List.setIfInBounds_toArray, List.set_cons_zero, List.set_cons_succ])
          clear hq hr
          have hOld : w12.heap.size ≤ v18.heap.size := hHeld.size
          refine take_in (i := 7) (v := .slice ag19 (Px.shL by_ ys).length cg20) rfl (by as_aux_lemma => kernel_rfl) (by as_aux_lemma => kernel_rfl) (by as_aux_lemma => kernel_rfl) (fun _ _ _ h => h) (by rfl) (fun _ _ => by first | rfl | (go_simp; done) | (go_simp; rfl)) hHeld ?_
          (try simp only [Act.put, List.setIfInBounds_toArray, List.set_cons_zero, List.set_cons_succ])
          refine ready1 (i := 8) (by as_aux_lemma => kernel_rfl) ?_
          obtain ⟨va21, v22, hra, hoa, hga, hzv22⟩ := HO.out.second 23 HR.out (by intro b hb hS; have hb : (b = v0.heap.size ∨ b = v1.heap.size) ∧ b < v3.heap.size := hb; have hS : v17.heap.size ≤ b ∧ b < v18.heap.size := hS; omega) Hx9.out Hm9.out
          refine at_op (i := 8) (v := va21) (w1 := v22) rfl (by rfl) (run_append_op (by rfl) (by rfl) hra) (below_own HO.out hHeld hga hOld) (fun hHeld => ?_)
          (try simp only [Act.put, List.setIfInBounds_toArray, List.set_cons_zero, List.set_cons_succ])
          have zv : Var 25 v22 v3.heap.size #[.int .i64 0, .string ⟨#[]⟩, .string ⟨#[]⟩, .int .i64 0, .int .i64 0, .int .i64 0, .bool false, .slice none 0 0, .int .i64 0] := zv.grown' hga (by intro j hj; have h1 : (j = v0.heap.size ∨ j = v1.heap.size) ∧ j < v3.heap.size := (HO.out.kb j hj).1; omega)
          have HO := Lib.hid hoa
          have hOld : w12.heap.size ≤ v22.heap.size := hHeld.size
          clear hra hoa hga HR
          obtain ⟨ar23, cr24, rfl⟩ := HO.out.form
          refine take_in (i := 9) (v := nodeVal (Px.source (xs' ++ Px.shL by_ ys)) (.slice ar23 (xs'.length + (Px.shL by_ ys).length) cr24)) rfl (by as_aux_lemma => kernel_rfl) (by as_aux_lemma => kernel_rfl) (by as_aux_lemma => kernel_rfl) (fun _ _ _ h => h) (by rfl) (fun _ _ => by first | rfl | (go_simp; done) | (go_simp; rfl)) hHeld ?_
          (try simp only [Act.put, List.setIfInBounds_toArray, List.set_cons_zero, List.set_cons_succ])
          refine ready1 (i := 11) (by as_aux_lemma => kernel_rfl) ?_
          refine at_skip (w1 := v22.setRow v3.heap.size (nodeCells (Px.source (xs' ++ Px.shL by_ ys)) (.slice ar23 (xs'.length + (Px.shL by_ ys).length) cr24)).toArray) rfl (by rfl) (run_storeT (t := (Px.source (xs' ++ Px.shL by_ ys))) (b := v3.heap.size) (old := #[.int .i64 0, .string ⟨#[]⟩, .string ⟨#[]⟩, .int .i64 0, .int .i64 0, .int .i64 0, .bool false, .slice none 0 0, .int .i64 0]) (by rfl) (by rfl) rfl zv) (below_setRow hHeld hgu _) (fun hHeld => ?_)
          refine wpAnyH_done (by as_aux_lemma => kernel_rfl) ?_ _
          go_wp2_with fail
          go_meet
          rw [HWT.out]
          exact ⟨v3.heap.size, rfl, Lib.hid (Own.tr HO.out zv Hlm.out hgu (by intro hS; have hS : v17.heap.size ≤ (v3.heap.size) ∧ (v3.heap.size) < v18.heap.size := hS; omega) (by intro hb; have hb : ((((v3.heap.size) = v0.heap.size ∨ (v3.heap.size) = v1.heap.size) ∧ (v3.heap.size) < v3.heap.size) ∨ (v3.heap.size) = v18.heap.size) ∧ (v3.heap.size) < v22.heap.size := hb; omega)), Lib.hid hHeld⟩
      · skip
        refine at_op (i := 10) rfl (by rfl) run_allocN (hHeld.alloc hHeld.size _) (fun hHeld => ?_)
        (try simp only [Act.put, List.setIfInBounds_toArray, List.set_cons_zero, List.set_cons_succ])
        obtain ⟨v25, hv⟩ : ∃ V, V = v1.alloc (.cells #[.int .i64 0, .string ⟨#[]⟩, .string ⟨#[]⟩, .int .i64 0, .int .i64 0, .int .i64 0, .bool false, .slice none 0 0, .int .i64 0] 25) := ⟨_, rfl⟩
        rw [← hv] at hHeld ⊢
        have hbv : Below v1.heap.size v1 v25 := hv ▸ (Below.refl _ _).alloc (Nat.le_refl _) _
        have hzv25 : v1.heap.size < v25.heap.size := by rw [hv]; simp
        have zv : Var 25 v25 v1.heap.size #[.int .i64 0, .string ⟨#[]⟩, .string ⟨#[]⟩, .int .i64 0, .int .i64 0, .int .i64 0, .bool false, .slice none 0 0, .int .i64 0] := by rw [hv]; exact Var.new' rfl
        have HO := Lib.hid (HO.out.below hbv)
        have hgu : w12.heap.size ≤ v1.heap.size := hOld
        have hOld : w12.heap.size ≤ v25.heap.size := hHeld.size
        clear hv hbv
        refine ready1 (i := 3) (by as_aux_lemma => kernel_rfl) ?_
        obtain ⟨va26, v27, hra, hoa, hga, hzv27⟩ := HO.out.first 23 (R6.out.below hHeld) Hx9.out
        refine at_op (i := 3) (v := va26) (w1 := v27) rfl (by rfl) (run_append_op (by rfl) (by rfl) hra) (below_own HO.out hHeld hga hOld) (fun hHeld => ?_)
        (try simp only [Act.put, List.setIfInBounds_toArray, List.set_cons_zero, List.set_cons_succ])
        have zv : Var 25 v27 v1.heap.size #[.int .i64 0, .string ⟨#[]⟩, .string ⟨#[]⟩, .int .i64 0, .int .i64 0, .int .i64 0, .bool false, .slice none 0 0, .int .i64 0] := zv.grown' hga (by intro j hj; have h1 : j = v0.heap.size := (HO.out.kb j hj).1; omega)
        have HO := Lib.hid hoa
        have hOld : w12.heap.size ≤ v27.heap.size := hHeld.size
        clear hra hoa hga
        refine ready1 (i := 6) (by as_aux_lemma => kernel_rfl) ?_
        refine at_call (i := 6) (f := 28) (args := #[nodeVal (Px.source ys) (.slice a8 (Px.source ys).kids.length c8), .int .i64 by_, .bool true]) rfl (by rfl) (by first | rfl | (go_simp; done) | (simp only [nodeVal]; go_simp; done)) ?_
        refine (rshift_any 900000 (Px.source ys) by_ true 0 a8 c8 _ Hy9.out (Nat.le_refl _) Hb09.out.1 Hb09.out.2 HIn.out (.inl ⟨rfl, rfl⟩) ((R8.out.below hHeld).mono hOld)).mono ?_
        rintro e' v28 ⟨hq, ag29, cg30, rfl, hr⟩
        have hzv28 : v27.heap.size ≤ v28.heap.size := hq.size
        have zv : Var 25 v28 v1.heap.size #[.int .i64 0, .string ⟨#[]⟩, .string ⟨#[]⟩, .int .i64 0, .int .i64 0, .int .i64 0, .bool false, .slice none 0 0, .int .i64 0] := (hq.block _ zv.lt).trans zv
        have HO := Lib.hid (HO.out.below hq)
        have HR := Lib.hid (show Row (fun i => v27.heap.size ≤ i ∧ i < v28.heap.size) v28 (Px.shL by_ ys) (.slice ag29 (Px.shL by_ ys).length cg30) from hr.lt)
        refine ⟨_, rfl, below_step hHeld hq, fun hHeld => ?_⟩
        (try simp only [Act.put, List.setIfInBounds_toArray, List.set_cons_zero, List.set_cons_succ])
        clear hq hr
        have hOld : w12.heap.size ≤ v28.heap.size := hHeld.size
        refine take_in (i := 7) (v := .slice ag29 (Px.shL by_ ys).length cg30) rfl (by as_aux_lemma => kernel_rfl) (by as_aux_lemma => kernel_rfl) (by as_aux_lemma => kernel_rfl) (fun _ _ _ h => h) (by rfl) (fun _ _ => by first | rfl | (go_simp; done) | (go_simp; rfl)) hHeld ?_
        (try simp only [Act.put, List.setIfInBounds_toArray, List.set_cons_zero, List.set_cons_succ])
        refine ready1 (i := 8) (by as_aux_lemma => kernel_rfl) ?_
        obtain ⟨va31, v32, hra, hoa, hga, hzv32⟩ := HO.out.second 23 HR.out (by intro b hb hS; have hb : (b = v0.heap.size ∨ b = v25.heap.size) ∧ b < v27.heap.size := hb; have hS : v27.heap.size ≤ b ∧ b < v28.heap.size := hS; omega) Hx9.out Hm9.out
        refine at_op (i := 8) (v := va31) (w1 := v32) rfl (by rfl) (run_append_op (by rfl) (by rfl) hra) (below_own HO.out hHeld hga hOld) (fun hHeld => ?_)
        (try simp only [Act.put, List.setIfInBounds_toArray, List.set_cons_zero, List.set_cons_succ])
        have zv : Var 25 v32 v1.heap.size #[.int .i64 0, .string ⟨#[]⟩, .string ⟨#[]⟩, .int .i64 0, .int .i64 0, .int .i64 0, .bool false, .slice none 0 0, .int .i64 0] := zv.grown' hga (by intro j hj; have h1 : (j = v0.heap.size ∨ j = v25.heap.size) ∧ j < v27.heap.size := (HO.out.kb j hj).1; omega)
        have HO := Lib.hid hoa
        have hOld : w12.heap.size ≤ v32.heap.size := hHeld.size
        clear hra hoa hga HR
        obtain ⟨ar33, cr34, rfl⟩ := HO.out.form
        refine take_in (i := 9) (v := nodeVal (Px.source (xs' ++ Px.shL by_ ys)) (.slice ar33 (xs'.length + (Px.shL by_ ys).length) cr34)) rfl (by as_aux_lemma => kernel_rfl) (by as_aux_lemma => kernel_rfl) (by as_aux_lemma => kernel_rfl) (fun _ _ _ h => h) (by rfl) (fun _ _ => by first | rfl | (go_simp; done) | (go_simp; rfl)) hHeld ?_
        (try simp only [Act.put, List.setIfInBounds_toArray, List.set_cons_zero, List.set_cons_succ])
        refine ready1 (i := 11) (by as_aux_lemma => kernel_rfl) ?_
        refine at_skip (w1 := v32.setRow v1.heap.size (nodeCells (Px.source (xs' ++ Px.shL by_ ys)) (.slice ar33 (xs'.length + (Px.shL by_ ys).length) cr34)).toArray) rfl (by rfl) (run_storeT (t := (Px.source (xs' ++ Px.shL by_ ys))) (b := v1.heap.size) (old := #[.int .i64 0, .string ⟨#[]⟩, .string ⟨#[]⟩, .int .i64 0, .int .i64 0, .int .i64 0, .bool false, .slice none 0 0, .int .i64 0]) (by rfl) (by rfl) rfl zv) (below_setRow hHeld hgu _) (fun hHeld => ?_)
        refine wpAnyH_done (by as_aux_lemma => kernel_rfl) ?_ _
        go_wp2_with fail
        go_meet
        rw [HWT.out]
        exact ⟨v1.heap.size, rfl, Lib.hid (Own.tr HO.out zv Hlm.out hgu (by intro hS; have hS : v27.heap.size ≤ (v1.heap.size) ∧ (v1.heap.size) < v28.heap.size := hS; omega) (by intro hb; have hb : ((((v1.heap.size) = v0.heap.size ∨ (v1.heap.size) = v25.heap.size) ∧ (v1.heap.size) < v27.heap.size) ∨ (v1.heap.size) = v28.heap.size) ∧ (v1.heap.size) < v32.heap.size := hb; omega)), Lib.hid hHeld⟩
    · skip
      refine at_op (i := 10) rfl (by rfl) run_allocN (hHeld.alloc hHeld.size _) (fun hHeld => ?_)
      (try simp only [Act.put, List.setIfInBounds_toArray, List.set_cons_zero, List.set_cons_succ])
      obtain ⟨v35, hv⟩ : ∃ V, V = v0.alloc (.cells #[.int .i64 0, .string ⟨#[]⟩, .string ⟨#[]⟩, .int .i64 0, .int .i64 0, .int .i64 0, .bool false, .slice none 0 0, .int .i64 0] 25) := ⟨_, rfl⟩
      rw [← hv] at hHeld ⊢
      have hbv : Below v0.heap.size v0 v35 := hv ▸ (Below.refl _ _).alloc (Nat.le_refl _) _
      have hzv35 : v0.heap.size < v35.heap.size := by rw [hv]; simp
      have zv : Var 25 v35 v0.heap.size #[.int .i64 0, .string ⟨#[]⟩, .string ⟨#[]⟩, .int .i64 0, .int .i64 0, .int .i64 0, .bool false, .slice none 0 0, .int .i64 0] := by rw [hv]; exact Var.new' rfl
      have hgu : w12.heap.size ≤ v0.heap.size := hOld
      have hOld : w12.heap.size ≤ v35.heap.size := hHeld.size
      clear hv hbv
      refine ready1 (i := 0) (by as_aux_lemma => kernel_rfl) ?_
      refine at_op (i := 0) (v := .slice (some ⟨v35.heap.size, 0, none⟩) 0 0) (w1 := v35.alloc (.cells #[] 25)) rfl (by rfl) (by first | (go_simp; done) | (go_simp; rfl)) (hHeld.alloc hHeld.size _) (fun hHeld => ?_)
      (try simp only [Act.put, List.setIfInBounds_toArray, List.set_cons_zero, List.set_cons_succ])
      obtain ⟨v36, hv⟩ : ∃ V, V = v35.alloc (.cells #[] 25) := ⟨_, rfl⟩
      have HO := Lib.hid (Own.start hOld hv)
      rw [← hv] at hHeld ⊢
      have hbv : Below v35.heap.size v35 v36 := hv ▸ (Below.refl _ _).alloc (Nat.le_refl _) _
      have hzv36 : v35.heap.size < v36.heap.size := by rw [hv]; simp
      have zv : Var 25 v36 v0.heap.size #[.int .i64 0, .string ⟨#[]⟩, .string ⟨#[]⟩, .int .i64 0, .int .i64 0, .int .i64 0, .bool false, .slice none 0 0, .int .i64 0] := (hbv.block _ zv.lt).trans zv
      have hOld : w12.heap.size ≤ v36.heap.size := hHeld.size
      clear hv hbv
      refine ready1 (i := 3) (by as_aux_lemma => kernel_rfl) ?_
      obtain ⟨va37, v38, hra, hoa, hga, hzv38⟩ := HO.out.first 23 (R6.out.below hHeld) Hx9.out
      refine at_op (i := 3) (v := va37) (w1 := v38) rfl (by rfl) (run_append_op (by rfl) (by rfl) hra) (below_own HO.out hHeld hga hOld) (fun hHeld => ?_)
      (try simp only [Act.put, List.setIfInBounds_toArray, List.set_cons_zero, List.set_cons_succ])
      have zv : Var 25 v38 v0.heap.size #[.int .i64 0, .string ⟨#[]⟩, .string ⟨#[]⟩, .int .i64 0, .int .i64 0, .int .i64 0, .bool false, .slice none 0 0, .int .i64 0] := zv.grown' hga (by intro j hj; have h1 : j = v35.heap.size := (HO.out.kb j hj).1; omega)
      have HO := Lib.hid hoa
      have hOld : w12.heap.size ≤ v38.heap.size := hHeld.size
      clear hra hoa hga
      refine ready1 (i := 6) (by as_aux_lemma => kernel_rfl) ?_
      refine at_call (i := 6) (f := 28) (args := #[nodeVal (Px.source ys) (.slice a8 (Px.source ys).kids.length c8), .int .i64 by_, .bool true]) rfl (by rfl) (by first | rfl | (go_simp; done) | (simp only [nodeVal]; go_simp; done)) ?_
      refine (rshift_any 900000 (Px.source ys) by_ true 0 a8 c8 _ Hy9.out (Nat.le_refl _) Hb09.out.1 Hb09.out.2 HIn.out (.inl ⟨rfl, rfl⟩) ((R8.out.below hHeld).mono hOld)).mono ?_
      rintro e' v39 ⟨hq, ag40, cg41, rfl, hr⟩
      have hzv39 : v38.heap.size ≤ v39.heap.size := hq.size
      have zv : Var 25 v39 v0.heap.size #[.int .i64 0, .string ⟨#[]⟩, .string ⟨#[]⟩, .int .i64 0, .int .i64 0, .int .i64 0, .bool false, .slice none 0 0, .int .i64 0] := (hq.block _ zv.lt).trans zv
      have HO := Lib.hid (HO.out.below hq)
      have HR := Lib.hid (show Row (fun i => v38.heap.size ≤ i ∧ i < v39.heap.size) v39 (Px.shL by_ ys) (.slice ag40 (Px.shL by_ ys).length cg41) from hr.lt)
      refine ⟨_, rfl, below_step hHeld hq, fun hHeld => ?_⟩
      (try simp only [Act.put, List.setIfInBounds_toArray, List.set_cons_zero, List.set_cons_succ])
      clear hq hr
      have hOld : w12.heap.size ≤ v39.heap.size := hHeld.size
      refine take_in (i := 7) (v := .slice ag40 (Px.shL by_ ys).length cg41) rfl (by as_aux_lemma => kernel_rfl) (by as_aux_lemma => kernel_rfl) (by as_aux_lemma => kernel_rfl) (fun _ _ _ h => h) (by rfl) (fun _ _ => by first | rfl | (go_simp; done) | (go_simp; rfl)) hHeld ?_
      (try simp only [Act.put, List.setIfInBounds_toArray, List.set_cons_zero, List.set_cons_succ])
      refine ready1 (i := 8) (by as_aux_lemma => kernel_rfl) ?_
      obtain ⟨va42, v43, hra, hoa, hga, hzv43⟩ := HO.out.second 23 HR.out (by intro b hb hS; have hb : (b = v35.heap.size ∨ b = v36.heap.size) ∧ b < v38.heap.size := hb; have hS : v38.heap.size ≤ b ∧ b < v39.heap.size := hS; omega) Hx9.out Hm9.out
      refine at_op (i := 8) (v := va42) (w1 := v43) rfl (by rfl) (run_append_op (by rfl) (by rfl) hra) (below_own HO.out hHeld hga hOld) (fun hHeld => ?_)
      (try simp only [Act.put, List.setIfInBounds_toArray, List.set_cons_zero, List.set_cons_succ])
      have zv : Var 25 v43 v0.heap.size #[.int .i64 0, .string ⟨#[]⟩, .string ⟨#[]⟩, .int .i64 0, .int .i64 0, .int .i64 0, .bool false, .slice none 0 0, .int .i64 0] := zv.grown' hga (by intro j hj; have h1 : (j = v35.heap.size ∨ j = v36.heap.size) ∧ j < v38.heap.size := (HO.out.kb j hj).1; omega)
      have HO := Lib.hid hoa
      have hOld : w12.heap.size ≤ v43.heap.size := hHeld.size
      clear hra hoa hga HR
      obtain ⟨ar44, cr45, rfl⟩ := HO.out.form
      refine take_in (i := 9) (v := nodeVal (Px.source (xs' ++ Px.shL by_ ys)) (.slice ar44 (xs'.length + (Px.shL by_ ys).length) cr45)) rfl (by as_aux_lemma => kernel_rfl) (by as_aux_lemma => kernel_rfl) (by as_aux_lemma => kernel_rfl) (fun _ _ _ h => h) (by rfl) (fun _ _ => by first | rfl | (go_simp; done) | (go_simp; rfl)) hHeld ?_
      (try simp only [Act.put, List.setIfInBounds_toArray, List.set_cons_zero, List.set_cons_succ])
      refine ready1 (i := 11) (by as_aux_lemma => kernel_rfl) ?_
      refine at_skip (w1 := v43.setRow v0.heap.size (nodeCells (Px.source (xs' ++ Px.shL by_ ys)) (.slice ar44 (xs'.length + (Px.shL by_ ys).length) cr45)).toArray) rfl (by rfl) (run_storeT (t := (Px.source (xs' ++ Px.shL by_ ys))) (b := v0.heap.size) (old := #[.int .i64 0, .string ⟨#[]⟩, .string ⟨#[]⟩, .int .i64 0, .int .i64 0, .int .i64 0, .bool false, .slice none 0 0, .int .i64 0]) (by rfl) (by rfl) rfl zv) (below_setRow hHeld hgu _) (fun hHeld => ?_)
      refine wpAnyH_done (by as_aux_lemma => kernel_rfl) ?_ _
      go_wp2_with fail
      go_meet
      rw [HWT.out]
      exact ⟨v0.heap.size, rfl, Lib.hid (Own.tr HO.out zv Hlm.out hgu (by intro hS; have hS : v38.heap.size ≤ (v0.heap.size) ∧ (v0.heap.size) < v39.heap.size := hS; omega) (by intro hb; have hb : ((((v0.heap.size) = v35.heap.size ∨ (v0.heap.size) = v36.heap.size) ∧ (v0.heap.size) < v38.heap.size) ∨ (v0.heap.size) = v39.heap.size) ∧ (v0.heap.size) < v43.heap.size := hb; omega)), Lib.hid hHeld⟩
  obtain ⟨g, rfl, T13, Hb13⟩ := hcut
  obtain ⟨w13, hw13⟩ : ∃ W, W = wc := ⟨_, rfl⟩
  subst hw13
  have hb13 := Hb13.out
  have HS' := Lib.hid (symsAt_below HS.out hb13 (symsAt_lt HS.out))
  clear HS
  have HS := HS'
  clear HS'
  have HM' := Lib.hid (HM.out.below hb13 HM.out.lt)
  clear HM
  have HM := HM'
  clear HM'
  have HB' := Lib.hid (HB.out.trans (hb13.mono HB.out.size))
  clear HB
  have HB := HB'
  clear HB'
  have T10' := Lib.hid (T10.out.below hb13)
  clear T10
  have T10 := T10'
  clear T10'
  have D9' := Lib.hid (D9.out.below hb13)
  clear D9
  have D9 := D9'
  clear D9'
  have D11' := Lib.hid (D11.out.below hb13)
  clear D11
  have D11 := D11'
  clear D11'
  clear hb13 Hb13 T6 T8
  go_upto_region 13 with (fail)
  by_cases he2 : e = [⟨2, 0⟩]
  · subst he2
    obtain ⟨bd, od, hea, hbd, q1, q2⟩ := D9.out.get (k := 0) (d := ⟨2, 0⟩) rfl
    subst hea
    simp only [Nat.zero_mul, Nat.add_zero] at q1 q2
    go_wp2_with fail
    go_ret
    exact ⟨ret_bool (by simp), HB.out⟩
  have H4 := Lib.hid (H3.out.resolve_left he2)
  clear H3
  by_cases hst : e = [] ∧ Px.fits WT = false
  · obtain ⟨rfl, hf⟩ := hst
    have Hf := Lib.hid hf
    clear hf
    obtain ⟨a13, c13, z13, r13⟩ := T13.out
    have z13l := z13.lt
    obtain ⟨z13c, z13f⟩ := obj_facts z13
    have R13 := Lib.hid r13
    clear r13
    go_wp2_with fail
    refine (rfits_any WT a13 c13 w13 R13.out).mono ?_
    rintro e' w14 ⟨rfl, hb14⟩
    rw [Hf.out]
    have HB := Lib.hid (HB.out.trans (hb14.mono HB.out.size))
    go_wp2_with fail
    go_ret
    exact ⟨ret_bool (by simp), HB.out⟩
  have H5 := Lib.hid (H4.out.resolve_left (fun h => hst ⟨h.1, h.2.1⟩))
  clear H4 hst
  have hZf : Z = WT ∧ f = e.map (Px.shD by_) := by
    have h := H5.out.2
    rw [← HSd.out, HZ.out] at h
    exact Prod.mk.inj h
  obtain ⟨rfl, rfl⟩ := hZf
  rw [List.length_map]
  go_cut [113] (fun v wx => v = .bool false ∧ Hid (Below w13.heap.size w13 wx))
  case first =>
    by_cases hn0 : e.length = 0
    · obtain rfl : e = [] := List.length_eq_zero_iff.1 hn0
      have hf := H5.out.1 rfl
      have Hf := Lib.hid hf
      clear hf
      obtain ⟨a13, c13, z13, r13⟩ := T13.out
      have z13l := z13.lt
      obtain ⟨z13c, z13f⟩ := obj_facts z13
      have R13 := Lib.hid r13
      clear r13
      go_wp2_with fail
      refine (rfits_any Z a13 c13 w13 R13.out).mono ?_
      rintro e' w14 ⟨rfl, hb14⟩
      rw [Hf.out]
      have Hb14 := Lib.hid hb14
      clear hb14
      go_wp2_with fail
      go_meet
      exact ⟨rfl, Hb14⟩
    · by_cases hn1 : e.length = 1
      · obtain ⟨d0, rfl⟩ := List.length_eq_one_iff.1 hn1
        obtain ⟨bd, od, hea, hbd, q1, q2⟩ := D9.out.get (k := 0) (d := d0) rfl
        subst hea
        simp only [Nat.zero_mul, Nat.add_zero] at q1 q2
        by_cases hd2 : d0.err = 2
        · have e1 : (d0.err == 2) = true := by rw [hd2]; rfl
          have e2 : (d0.off == 0) = false := beq_eq_false_iff_ne.2 (fun h => he2 (by cases d0; simp only at hd2 h; rw [hd2, h]))
          clear he2 hd2
          go_wp2_with fail
          go_meet
          exact ⟨rfl, Lib.hid (Below.refl _ _)⟩
        · have e1 : (d0.err == 2) = false := beq_eq_false_iff_ne.2 hd2
          clear he2 hd2
          go_wp2_with fail
          go_meet
          exact ⟨rfl, Lib.hid (Below.refl _ _)⟩
      · have hl0 : ((e.length : Int) == 0) = false := beq_eq_false_iff_ne.2 (by omega)
        have hl1 : ((e.length : Int) == 1) = false := beq_eq_false_iff_ne.2 (by omega)
        clear he2
        go_wp2_with fail
        go_meet
        exact ⟨rfl, Lib.hid (Below.refl _ _)⟩
  obtain ⟨rfl, Hb15⟩ := hcut
  obtain ⟨w15, hw15⟩ : ∃ W, W = wc := ⟨_, rfl⟩
  subst hw15
  have hb15 := Hb15.out
  have HS' := Lib.hid (symsAt_below HS.out hb15 (symsAt_lt HS.out))
  clear HS
  have HS := HS'
  clear HS'
  have HM' := Lib.hid (HM.out.below hb15 HM.out.lt)
  clear HM
  have HM := HM'
  clear HM'
  have HB' := Lib.hid (HB.out.trans (hb15.mono HB.out.size))
  clear HB
  have HB := HB'
  clear HB'
  have T10' := Lib.hid (T10.out.below hb15)
  clear T10
  have T10 := T10'
  clear T10'
  have T13' := Lib.hid (T13.out.below hb15)
  clear T13
  have T13 := T13'
  clear T13'
  have D9' := Lib.hid (D9.out.below hb15)
  clear D9
  have D9 := D9'
  clear D9'
  have D11' := Lib.hid (D11.out.below hb15)
  clear D11
  have D11 := D11'
  clear D11'
  clear hb15 Hb15 he2
  have HO := Lib.hid (parse_offs Hshb.out.2 HY.out)
  have hbd := Hby.out
  have hel := HO.out.2
  have HA := Lib.hid (show 0 ≤ by_ ∧ by_ ≤ 6001 by omega)
  have Hbl := Lib.hid (show b.data.toList.length ≤ 6000 from hb6)
  clear hbd
  go_wp2_with fail
  go_loopw [14, 15] (fun mv i wr => ∃ (n : Nat), n ≤ e.length ∧ i = .int .i64 n ∧ Hid (wr.ownsRow w15.heap.size 33 2 mv n (diagCells ((e.take n).map (Px.shD by_)))) ∧ Hid (Below w15.heap.size w15 wr)) (fun _ i _ => e.length - (intOf i).toNat)
  case atStart =>
    exact ⟨0, by omega, rfl, Lib.hid (World.ownsRow_nil _ _ _ _), Lib.hid (Below.refl _ _)⟩
  case round =>
    obtain ⟨n, hn, rfl, Hrow, Hb⟩ := hrel
    by_cases hlt : n < e.length
    · obtain ⟨d, hd⟩ : ∃ d, e[n]? = some d := ⟨_, List.getElem?_eq_getElem hlt⟩
      obtain ⟨bd, od, hea, hbd, q1, q2⟩ := D9.out.get hd
      subst hea
      have hoff := HO.out.1 d (List.mem_of_getElem? hd)
      have hwo : IntKind.i64.wrap (d.off + by_) = d.off + by_ := IntWalk.i64_in _ (by have := HA.out; have := Hbl.out; omega)
      have hk0 : (0 : Int) ≤ (n : Int) := Int.natCast_nonneg _
      have hk1 : (n : Int) < (e.length : Int) := by omega
      have Hsn := Lib.hid (moved_snoc by_ hd)
      have hbw : bd < w15.heap.size := hbd
      clear hd hoff
      go_wp2_with fail
      refine wp_region_held_drew (S := (fun w' => Below w15.heap.size w15 w')) (by as_aux_lemma => kernel_rfl) (Hb.out.drew) (fun hHeld => ?_)
      obtain ⟨v0, hv0⟩ : ∃ V, V = wr.drew := ⟨_, rfl⟩
      have Hrow := Lib.hid (show v0.ownsRow w15.heap.size 33 2 u14 n (diagCells ((e.take n).map (Px.shD by_))) by rw [hv0]; exact Hrow.out.drew)
      rw [← hv0] at hHeld ⊢
      clear hv0
      refine take_in (i := 0) (v := u14) rfl (by as_aux_lemma => kernel_rfl) (by as_aux_lemma => kernel_rfl) (by as_aux_lemma => kernel_rfl) (fun _ _ _ h => h) (by rfl) (fun _ _ => by first | rfl | (go_simp; done) | (go_simp; rfl)) hHeld ?_
      (try simp only [Act.put, List.setIfInBounds_toArray, List.set_cons_zero, List.set_cons_succ])
      refine take_in (i := 1) (v := .slice (some ⟨bd, od, none⟩) e.length ec) rfl (by as_aux_lemma => kernel_rfl) (by as_aux_lemma => kernel_rfl) (by as_aux_lemma => kernel_rfl) (fun _ _ _ h => h) (by rfl) (fun _ _ => by first | rfl | (go_simp; done) | (go_simp; rfl)) hHeld ?_
      (try simp only [Act.put, List.setIfInBounds_toArray, List.set_cons_zero, List.set_cons_succ])
      refine take_in (i := 2) (v := .int .i64 n) rfl (by as_aux_lemma => kernel_rfl) (by as_aux_lemma => kernel_rfl) (by as_aux_lemma => kernel_rfl) (fun _ _ _ h => h) (by rfl) (fun _ _ => by first | rfl | (go_simp; done) | (go_simp; rfl)) hHeld ?_
      (try simp only [Act.put, List.setIfInBounds_toArray, List.set_cons_zero, List.set_cons_succ])
      refine take_in (i := 3) (v := .pointer (some ⟨bd, od + n * 2, none⟩)) rfl (by as_aux_lemma => kernel_rfl) (by as_aux_lemma => kernel_rfl) (by as_aux_lemma => kernel_rfl) (fun _ _ _ h => h) (by rfl) (fun _ _ => by first | rfl | (go_simp; done) | (go_simp; rfl)) hHeld ?_
      (try simp only [Act.put, List.setIfInBounds_toArray, List.set_cons_zero, List.set_cons_succ])
      refine take_in (i := 4) (v := .pointer (some ⟨bd, od + n * 2, none⟩)) rfl (by as_aux_lemma => kernel_rfl) (by as_aux_lemma => kernel_rfl) (by as_aux_lemma => kernel_rfl) (fun _ _ _ h => h) (by rfl) (fun _ _ => by first | rfl | (go_simp; done) | (go_simp; rfl)) hHeld ?_
      (try simp only [Act.put, List.setIfInBounds_toArray, List.set_cons_zero, List.set_cons_succ])
      refine take_in (i := 5) (v := .int .i64 d.err) rfl (by as_aux_lemma => kernel_rfl) (by as_aux_lemma => kernel_rfl) (by as_aux_lemma => kernel_rfl) (fun _ _ _ h => h) (by rfl) (fun w' hb => by have hc := (hb.cell (p := ⟨bd, od + n * 2, none⟩) hbw).trans q1; go_simp) hHeld ?_
      (try simp only [Act.put, List.setIfInBounds_toArray, List.set_cons_zero, List.set_cons_succ])
      refine take_in (i := 6) (v := .slice (some ⟨bd, od, none⟩) e.length ec) rfl (by as_aux_lemma => kernel_rfl) (by as_aux_lemma => kernel_rfl) (by as_aux_lemma => kernel_rfl) (fun _ _ _ h => h) (by rfl) (fun _ _ => by first | rfl | (go_simp; done) | (go_simp; rfl)) hHeld ?_
      (try simp only [Act.put, List.setIfInBounds_toArray, List.set_cons_zero, List.set_cons_succ])
      refine take_in (i := 7) (v := .int .i64 n) rfl (by as_aux_lemma => kernel_rfl) (by as_aux_lemma => kernel_rfl) (by as_aux_lemma => kernel_rfl) (fun _ _ _ h => h) (by rfl) (fun _ _ => by first | rfl | (go_simp; done) | (go_simp; rfl)) hHeld ?_
      (try simp only [Act.put, List.setIfInBounds_toArray, List.set_cons_zero, List.set_cons_succ])
      refine take_in (i := 8) (v := .pointer (some ⟨bd, od + n * 2, none⟩)) rfl (by as_aux_lemma => kernel_rfl) (by as_aux_lemma => kernel_rfl) (by as_aux_lemma => kernel_rfl) (fun _ _ _ h => h) (by rfl) (fun _ _ => by first | rfl | (go_simp; done) | (go_simp; rfl)) hHeld ?_
      (try simp only [Act.put, List.setIfInBounds_toArray, List.set_cons_zero, List.set_cons_succ])
      refine take_in (i := 9) (v := .pointer (some ⟨bd, od + n * 2 + 1, none⟩)) rfl (by as_aux_lemma => kernel_rfl) (by as_aux_lemma => kernel_rfl) (by as_aux_lemma => kernel_rfl) (fun _ _ _ h => h) (by rfl) (fun _ _ => by first | rfl | (go_simp; done) | (go_simp; rfl)) hHeld ?_
      (try simp only [Act.put, List.setIfInBounds_toArray, List.set_cons_zero, List.set_cons_succ])
      refine take_in (i := 10) (v := .int .i64 d.off) rfl (by as_aux_lemma => kernel_rfl) (by as_aux_lemma => kernel_rfl) (by as_aux_lemma => kernel_rfl) (fun _ _ _ h => h) (by rfl) (fun w' hb => by have hc := (hb.cell (p := ⟨bd, od + n * 2 + 1, none⟩) hbw).trans q2; go_simp) hHeld ?_
      (try simp only [Act.put, List.setIfInBounds_toArray, List.set_cons_zero, List.set_cons_succ])
      refine take_in (i := 11) (v := .int .i64 by_) rfl (by as_aux_lemma => kernel_rfl) (by as_aux_lemma => kernel_rfl) (by as_aux_lemma => kernel_rfl) (fun _ _ _ h => h) (by rfl) (fun _ _ => by first | rfl | (go_simp; done) | (go_simp; rfl)) hHeld ?_
      (try simp only [Act.put, List.setIfInBounds_toArray, List.set_cons_zero, List.set_cons_succ])
      refine take_in (i := 12) (v := .int .i64 (d.off + by_)) rfl (by as_aux_lemma => kernel_rfl) (by as_aux_lemma => kernel_rfl) (by as_aux_lemma => kernel_rfl) (fun _ _ _ h => h) (by rfl) (fun _ _ => by first | rfl | (go_simp; done) | (go_simp; rfl)) hHeld ?_
      (try simp only [Act.put, List.setIfInBounds_toArray, List.set_cons_zero, List.set_cons_succ])
      refine take_in (i := 13) (v := .agg #[.int .i64 d.err, .int .i64 (d.off + by_)]) rfl (by as_aux_lemma => kernel_rfl) (by as_aux_lemma => kernel_rfl) (by as_aux_lemma => kernel_rfl) (fun _ _ _ h => h) (by rfl) (fun _ _ => by first | rfl | (go_simp; done) | (go_simp; rfl)) hHeld ?_
      (try simp only [Act.put, List.setIfInBounds_toArray, List.set_cons_zero, List.set_cons_succ])
      have hOld : w15.heap.size ≤ v0.heap.size := hHeld.size
      refine ready1 (i := 14) (by as_aux_lemma => kernel_rfl) ?_
      refine at_op (i := 14) (v := .slice (some ⟨v0.heap.size, 0, none⟩) 1 1) (w1 := v0.alloc (.cells #[.int .i64 d.err, .int .i64 (d.off + by_)] 33)) rfl (by rfl) (by first | (go_simp; done) | (go_simp; rfl)) (hHeld.alloc hOld _) (fun hHeld => ?_)
      (try simp only [Act.put, List.setIfInBounds_toArray, List.set_cons_zero, List.set_cons_succ])
      obtain ⟨v1, hv1⟩ : ∃ V, V = v0.alloc (.cells #[.int .i64 d.err, .int .i64 (d.off + by_)] 33) := ⟨_, rfl⟩
      have zd : Var 33 v1 v0.heap.size #[.int .i64 d.err, .int .i64 (d.off + by_)] := by rw [hv1]; exact Var.new' rfl
      have Hrow := Lib.hid (show v1.ownsRow w15.heap.size 33 2 u14 n (diagCells ((e.take n).map (Px.shD by_))) by rw [hv1]; exact Hrow.out.alloc _)
      rw [← hv1] at hHeld ⊢
      have hOld : w15.heap.size ≤ v1.heap.size := hHeld.size
      clear hv1
      obtain ⟨mv2, v2, hra, hoa, hga, hzz⟩ := run_append_diag v1 26 w15.heap.size _ n _ Hrow.out d.err (d.off + by_) v0.heap.size zd (by omega) hOld
      rw [← Hsn.out] at hoa
      have Hoa := Lib.hid hoa
      refine ready1 (i := 15) (by as_aux_lemma => kernel_rfl) ?_
      refine at_op (i := 15) (v := mv2) (w1 := v2) rfl (by rfl) (run_append_opD (by rfl) (by rfl) hra) (hHeld.grown hga hOld (fun j hj => (Hrow.out.lt j hj).1)) (fun hHeld => ?_)
      (try simp only [Act.put, List.setIfInBounds_toArray, List.set_cons_zero, List.set_cons_succ])
      refine take_in (i := 16) (v := mv2) rfl (by as_aux_lemma => kernel_rfl) (by as_aux_lemma => kernel_rfl) (by as_aux_lemma => kernel_rfl) (fun _ _ _ h => h) (by rfl) (fun _ _ => by first | rfl | (go_simp; done) | (go_simp; rfl)) hHeld ?_
      (try simp only [Act.put, List.setIfInBounds_toArray, List.set_cons_zero, List.set_cons_succ])
      refine wpAnyH_done (by as_aux_lemma => kernel_rfl) ?_ _
      go_wp2_with fail
      exact ⟨⟨n + 1, by omega, by go_num, Hoa, Lib.hid hHeld⟩, by simp [intOf]; omega⟩
    · obtain rfl : n = e.length := by omega
      rw [List.take_length] at Hrow
      obtain ⟨am, cm, rfl⟩ := ownsRow_form Hrow.out
      have DM := Lib.hid (show DiagsAt wr.heap.size wr am (e.map (Px.shD by_)) from DiagsAt.of (base := w15.heap.size) (cap := cm) (by rw [List.length_map]; exact Hrow.out))
      have hb16 := Hb.out
      have HS' := Lib.hid (symsAt_below HS.out hb16 (symsAt_lt HS.out))
      clear HS
      have HS := HS'
      clear HS'
      have HM' := Lib.hid (HM.out.below hb16 HM.out.lt)
      clear HM
      have HM := HM'
      clear HM'
      have HB' := Lib.hid (HB.out.trans (hb16.mono HB.out.size))
      clear HB
      have HB := HB'
      clear HB'
      have T10' := Lib.hid (T10.out.below hb16)
      clear T10
      have T10 := T10'
      clear T10'
      have T13' := Lib.hid (T13.out.below hb16)
      clear T13
      have T13 := T13'
      clear T13'
      have D11' := Lib.hid (D11.out.below hb16)
      clear D11
      have D11 := D11'
      clear D11'
      clear hb16 Hb D9 Hrow H5 HIn hn hlt
      obtain ⟨a10, c10, z10, r10⟩ := T10.out
      have z10l := z10.lt
      obtain ⟨z10c, z10f⟩ := obj_facts z10
      have R10 := Lib.hid r10
      clear r10
      obtain ⟨a13, c13, z13, r13⟩ := T13.out
      have z13l := z13.lt
      obtain ⟨z13c, z13f⟩ := obj_facts z13
      have R13 := Lib.hid r13
      clear r13
      go_wp2_with fail
      refine (same_any (Px.size Z) Z a10 a13 c10 c13 wr (Nat.le_refl _) R10.out R13.out).mono ?_
      rintro e' w16 ⟨rfl, hb16⟩
      have hda := diags_any (e.map (Px.shD by_)) fa am fc cm w16 (by rw [List.length_map]; have := HO.out.2; omega) (D11.out.below hb16) (DM.out.below hb16)
      rw [List.length_map] at hda
      have Hda := Lib.hid hda
      have HB := Lib.hid (HB.out.trans (hb16.mono HB.out.size))
      clear hda hb16 z10 z10l z10c z10f z13 z13l z13c z13f
      go_wp2_with fail
      refine Hda.out.mono ?_
      rintro e' w17 ⟨rfl, hb17⟩
      have HB := Lib.hid (HB.out.trans (hb17.mono HB.out.size))
      go_wp2_with fail
      go_ret
      exact ⟨ret_bool (by simp), HB.out⟩
end Go.Proofs.YtbgpboiblggmiaaGreatDoor
