/-
  The walk over ParserWellFormed.
-/
import Derived.Test.YtbgpboiblggmiaaGreatDoorWfd
import Derived.Test.YtbgpboiblggmiaaGreatDoorFwa
set_option linter.unusedVariables false
set_option linter.unusedSimpArgs false
namespace Go.Proofs.YtbgpboiblggmiaaGreatDoor
open Go.RowKit
open Px (St T D Res)

theorem zero_size : Px.size T.zero ≤ 1 := by decide
set_option maxRecDepth 100000 in
set_option maxHeartbeats 8000000 in
theorem wellformedp_walk (a b : ByteArray) (w : World) (hS : SymsAt w) (hM : MaxAt w) (hma : a.size ≤ maxLen) (hmb : b.size ≤ maxLen) :
    Calls Tryz.prog 3 #[.string a, .string b] w fun e w' => e = .returned (.bool true) ∧ Below w.heap.size w w' := by
  have HS := Lib.hid hS
  have HM := Lib.hid hM
  have HB := Lib.hid (Below.refl w.heap.size w)
  have Hma := Lib.hid hma
  have Hmb := Lib.hid hmb
  clear hS hM hma hmb
  go_enter Tryz.func3, Tryz.ntmps3
  go_wp2_with fail
  refine (head_any w HS.out HM.out).mono ?_
  rintro e w1 ⟨rfl, hb1⟩
  have HS' := Lib.hid (symsAt_below HS.out hb1 (symsAt_lt HS.out))
  clear HS
  have HS := HS'
  clear HS'
  have HM' := Lib.hid (HM.out.below hb1 HM.out.lt)
  clear HM
  have HM := HM'
  clear HM'
  have HB' := Lib.hid (HB.out.trans (hb1.mono HB.out.size))
  clear HB
  have HB := HB'
  clear HB'
  clear hb1
  by_cases ha6 : a.size ≤ 6000
  rotate_left
  · have hgt : decide ((6000 : Int) < (a.size : Int)) = true := decide_eq_true (by omega)
    go_wp2_with fail
    go_ret
    exact ⟨ret_bool (by simp), HB.out⟩
  have hga : decide ((6000 : Int) < (a.size : Int)) = false := decide_eq_false (by omega)
  by_cases hb6 : b.size ≤ 6000
  rotate_left
  · have hgt : decide ((6000 : Int) < (b.size : Int)) = true := decide_eq_true (by omega)
    go_wp2_with fail
    go_ret
    exact ⟨ret_bool (by simp), HB.out⟩
  have hgb : decide ((6000 : Int) < (b.size : Int)) = false := decide_eq_false (by omega)
  go_wp2_with fail
  refine (parse_any a w1 HS.out Hma.out).mono ?_
  intro e w2 hp
  obtain ⟨X, d, hX⟩ : ∃ X d, Px.parse a.data.toList = (X, d) := ⟨_, _, rfl⟩
  rw [hX] at hp
  have HX := Lib.hid hX
  clear hX hga hgb
  obtain ⟨hb2, a2, c2, da, dc, rfl, hr2, hd2⟩ := hp
  have HS' := Lib.hid (symsAt_below HS.out hb2 (symsAt_lt HS.out))
  clear HS
  have HS := HS'
  clear HS'
  have HM' := Lib.hid (HM.out.below hb2 HM.out.lt)
  clear HM
  have HM := HM'
  clear HM'
  have HB' := Lib.hid (HB.out.trans (hb2.mono HB.out.size))
  clear HB
  have HB := HB'
  clear HB'
  have D7 := Lib.hid hd2
  obtain ⟨w3, hw3⟩ : ∃ W, W = w2.alloc (.cells #[.int .i64 X.kind, .string ⟨X.name.toArray⟩, .string ⟨X.other.toArray⟩, .int .i64 X.n, .int .i64 X.len, .int .i64 X.init, .bool X.ghost, .slice a2 X.kids.length c2, .int .i64 X.off] 25) := ⟨_, rfl⟩
  have hb3 : Below w2.heap.size w2 w3 := by rw [hw3]; exact (Below.refl _ _).alloc (Nat.le_refl _) _
  have T6 := Lib.hid (show Tr w3 w2.heap.size X by rw [hw3]; exact Tr.new hr2 rfl)
  have HS' := Lib.hid (symsAt_below HS.out hb3 (symsAt_lt HS.out))
  clear HS
  have HS := HS'
  clear HS'
  have HM' := Lib.hid (HM.out.below hb3 HM.out.lt)
  clear HM
  have HM := HM'
  clear HM'
  have HB' := Lib.hid (HB.out.trans (hb3.mono HB.out.size))
  clear HB
  have HB := HB'
  clear HB'
  have D7' := Lib.hid (D7.out.below hb3)
  clear D7
  have D7 := D7'
  clear D7'
  clear hb2 hr2 hd2 hb3
  unfold nodeVal
  go_upto_region 5 with (fail)
  rw [← hw3]
  clear hw3
  have HW := Lib.hid (parse_wf HX.out)
  have HD := Lib.hid (parse_ds HX.out)
  go_cut [53] (fun v wx => v = .bool false ∧ Hid (Below w3.heap.size w3 wx))
  case first => as_aux_lemma =>
    obtain ⟨a6, c6, z6, r6⟩ := T6.out
    have z6l := z6.lt
    obtain ⟨z6c, z6f⟩ := obj_facts z6
    have R6 := Lib.hid r6
    clear r6
    have h62 := HW.out.2.1
    have hx1 : (X.kind == 62) = true := by rw [h62]; rfl
    have hx2 : (X.kind != 62) = false := by rw [h62]; rfl
    have hd20 : decide ((20 : Int) < (d.length : Int)) = false := decide_eq_false (by have := HD.out.1; omega)
    have H62 := Lib.hid h62
    clear h62
    by_cases hd0 : d.length = 0
    · have hv : ValidOk X := ⟨.inl H62.out, HW.out.2.2 (List.length_eq_zero_iff.1 hd0), HW.out.1⟩
      have Hv := Lib.hid hv
      have he0 : ((d.length : Int) == 0) = true := by rw [hd0]; rfl
      clear hv hd0
      go_wp2_with fail
      refine (few_any X 4000 a6 c6 w3 (by decide) (by decide) R6.out).mono ?_
      rintro e w4 ⟨rfl, hb4⟩
      rw [few_parse a.data.toList HX.out]
      have z6' : Var 25 w4 w2.heap.size _ := (hb4.block _ z6l).trans z6
      have R6' := Lib.hid (R6.out.next hb4)
      have Hb4 := Lib.hid hb4
      have HM4 := Lib.hid (HM.out.below hb4 HM.out.lt)
      clear z6 z6l z6c z6f R6 hb4
      have z6l := z6'.lt
      obtain ⟨z6c, z6f⟩ := obj_facts z6'
      go_wp2_with fail
      refine (valid_source X a6 c6 w4 H62.out Hv.out R6'.out HM4.out).mono ?_
      rintro e w5 ⟨rfl, hb5⟩
      have Hb5 := Lib.hid (Hb4.out.trans (hb5.mono Hb4.out.size))
      clear hb5
      go_wp2_with fail
      go_meet
      exact ⟨rfl, Hb5⟩
    · have he0 : ((d.length : Int) == 0) = false := beq_eq_false_iff_ne.2 (by omega)
      clear hd0
      go_wp2_with fail
      refine (few_any X 4000 a6 c6 w3 (by decide) (by decide) R6.out).mono ?_
      rintro e w4 ⟨rfl, hb4⟩
      rw [few_parse a.data.toList HX.out]
      have z6' : Var 25 w4 w2.heap.size _ := (hb4.block _ z6l).trans z6
      have R6' := Lib.hid (R6.out.next hb4)
      have Hb4 := Lib.hid hb4
      have HM4 := Lib.hid (HM.out.below hb4 HM.out.lt)
      clear z6 z6l z6c z6f R6 hb4
      have z6l := z6'.lt
      obtain ⟨z6c, z6f⟩ := obj_facts z6'
      go_wp2_with fail
      refine (rfits_any X a6 c6 w4 R6'.out).mono ?_
      rintro e w5 ⟨rfl, hb5⟩
      have z7 : Var 25 w5 w2.heap.size _ := (hb5.block _ z6l).trans z6'
      have R7 := Lib.hid (R6'.out.next hb5)
      have Hb5 := Lib.hid (Hb4.out.trans (hb5.mono Hb4.out.size))
      have HM5 := Lib.hid (HM4.out.below hb5 HM4.out.lt)
      clear z6' z6l z6c z6f R6' hb5
      have z7l := z7.lt
      obtain ⟨z7c, z7f⟩ := obj_facts z7
      by_cases hf : Px.fits X = true
      · have hv : ValidOk X := ⟨.inl H62.out, hf, HW.out.1⟩
        have Hv := Lib.hid hv
        rw [hf]
        clear hv hf
        go_wp2_with fail
        refine (valid_source X a6 c6 w5 H62.out Hv.out R7.out HM5.out).mono ?_
        rintro e w6 ⟨rfl, hb6⟩
        have Hb6 := Lib.hid (Hb5.out.trans (hb6.mono Hb5.out.size))
        clear hb6
        go_wp2_with fail
        go_meet
        exact ⟨rfl, Hb6⟩
      · have hf : Px.fits X = false := by simpa using hf
        rw [hf]
        clear hf
        go_wp2_with fail
        go_meet
        exact ⟨rfl, Hb5⟩
  obtain ⟨rfl, Hb4⟩ := hcut
  obtain ⟨w5, hw5⟩ : ∃ W, W = wc := ⟨_, rfl⟩
  subst hw5
  have hb5 := Hb4.out
  have HS' := Lib.hid (symsAt_below HS.out hb5 (symsAt_lt HS.out))
  clear HS
  have HS := HS'
  clear HS'
  have HM' := Lib.hid (HM.out.below hb5 HM.out.lt)
  clear HM
  have HM := HM'
  clear HM'
  have HB' := Lib.hid (HB.out.trans (hb5.mono HB.out.size))
  clear HB
  have HB := HB'
  clear HB'
  have D7' := Lib.hid (D7.out.below hb5)
  clear D7
  have D7 := D7'
  clear D7'
  clear hb5 Hb4 T6
  go_wp2_with fail
  go_loopw [8, 9] (fun v i wr => ∃ (n : Nat) (L : Int), n ≤ d.length ∧ i = .int .i64 n ∧ v = .int .i64 L ∧ (∀ x, d[n]? = some x → L < x.off) ∧ wr = w5) (fun _ i _ => d.length - (intOf i).toNat)
  case atStart =>
    exact ⟨0, -1, by omega, rfl, rfl, fun x hx => by have := (HD.out.2.2 x (List.mem_of_getElem? hx)).2.1; omega, rfl⟩
  case round =>
    obtain ⟨n, L, hn, rfl, rfl, hL, rfl⟩ := hrel
    by_cases hlt : n < d.length
    · obtain ⟨x, hx⟩ : ∃ x, d[n]? = some x := ⟨_, List.getElem?_eq_getElem hlt⟩
      obtain ⟨bd, od, hea, hbd, q1, q2⟩ := D7.out.get hx
      subst hea
      have hm := HD.out.2.2 x (List.mem_of_getElem? hx)
      have hL0 := hL x hx
      have e1 : (x.err == 0) = false := beq_eq_false_iff_ne.2 hm.1
      have e2 : decide (x.off ≤ L) = false := decide_eq_false (by omega)
      have e3 : decide ((a.size : Int) < x.off) = false := decide_eq_false (by have h9 : x.off ≤ (a.data.toList.length : Int) := hm.2.2; have : a.data.toList.length = a.size := rfl; omega)
      have hk0 : (0 : Int) ≤ (n : Int) := Int.natCast_nonneg _
      have hk1 : (n : Int) < (d.length : Int) := by omega
      have Hx := Lib.hid hx
      clear hx hL hm hL0
      have h20 := HD.out.1
      go_wp2_with fail
      refine ⟨⟨n + 1, x.off, ?_, by go_num, rfl, fun y hy => ?_, trivial⟩, ?_⟩
      · omega
      · have hp := List.pairwise_iff_getElem.1 HD.out.2.1 n (n + 1) hlt (List.getElem?_eq_some_iff.1 hy).1 (by omega)
        rw [(List.getElem?_eq_some_iff.1 Hx.out).2, (List.getElem?_eq_some_iff.1 hy).2] at hp
        exact hp
      · simp [intOf]
        omega
    · obtain rfl : n = d.length := by omega
      clear D7 hL hn hlt
      go_wp2_with fail
      refine (parseExpr_any b wr HS.out Hmb.out).mono ?_
      intro e' w8 hp
      obtain ⟨Y, e, hY⟩ : ∃ Y e, Px.parseExpr b.data.toList = (Y, e) := ⟨_, _, rfl⟩
      rw [hY] at hp
      have HV := Lib.hid (parseExpr_wf hY)
      obtain ⟨hb8, a8, c8, ea, ec, rfl, hr8, hd8⟩ := hp
      have HS' := Lib.hid (symsAt_below HS.out hb8 (symsAt_lt HS.out))
      clear HS
      have HS := HS'
      clear HS'
      have HM' := Lib.hid (HM.out.below hb8 HM.out.lt)
      clear HM
      have HM := HM'
      clear HM'
      have HB' := Lib.hid (HB.out.trans (hb8.mono HB.out.size))
      clear HB
      have HB := HB'
      clear HB'
      have D11 := Lib.hid hd8
      obtain ⟨w9, hw9⟩ : ∃ W, W = w8.alloc (.cells #[.int .i64 Y.kind, .string ⟨Y.name.toArray⟩, .string ⟨Y.other.toArray⟩, .int .i64 Y.n, .int .i64 Y.len, .int .i64 Y.init, .bool Y.ghost, .slice a8 Y.kids.length c8, .int .i64 Y.off] 25) := ⟨_, rfl⟩
      have hb9 : Below w8.heap.size w8 w9 := by rw [hw9]; exact (Below.refl _ _).alloc (Nat.le_refl _) _
      have T10 := Lib.hid (show Tr w9 w8.heap.size Y by rw [hw9]; exact Tr.new hr8 rfl)
      have HS' := Lib.hid (symsAt_below HS.out hb9 (symsAt_lt HS.out))
      clear HS
      have HS := HS'
      clear HS'
      have HM' := Lib.hid (HM.out.below hb9 HM.out.lt)
      clear HM
      have HM := HM'
      clear HM'
      have HB' := Lib.hid (HB.out.trans (hb9.mono HB.out.size))
      clear HB
      have HB := HB'
      clear HB'
      have D11' := Lib.hid (D11.out.below hb9)
      clear D11
      have D11 := D11'
      clear D11'
      clear hb8 hr8 hd8 hb9 hY
      unfold nodeVal
      go_upto_region 15 with (fail)
      rw [← hw9]
      clear hw9
      obtain ⟨a10, c10, z10, r10⟩ := T10.out
      have z10l := z10.lt
      obtain ⟨z10c, z10f⟩ := obj_facts z10
      have R10 := Lib.hid r10
      clear r10
      rcases HV.out with ⟨rfl, hv, hk1, hk2⟩ | ⟨d1, rfl, rfl, h1, h2, h3⟩
      · have hx1 : (Y.kind == 62) = false := beq_eq_false_iff_ne.2 (by omega)
        have hx2 : (Y.kind != 62) = true := by unfold bne; rw [hx1]; rfl
        have Hv := Lib.hid hv
        have Hk := Lib.hid (And.intro hk1 hk2)
        clear hv hk1 hk2 D11
        go_wp2_with fail
        refine (valid_expr Y a10 c10 w9 Hk.out Hv.out R10.out HM.out).mono ?_
        rintro e' w10 ⟨rfl, hb10⟩
        have HB := Lib.hid (HB.out.trans (hb10.mono HB.out.size))
        clear hb10
        go_wp2_with fail
        go_ret
        exact ⟨ret_bool (by simp), HB.out⟩
      · obtain ⟨bd, od, hea, hbd, q1, q2⟩ := D11.out.get (k := 0) (d := d1) rfl
        subst hea
        simp only [Nat.zero_mul, Nat.add_zero] at q1 q2
        have e1 : (d1.err == 0) = false := beq_eq_false_iff_ne.2 h1
        have e1' : (d1.err != 0) = true := by unfold bne; rw [e1]; rfl
        have e2 : decide (0 ≤ d1.off) = true := decide_eq_true h2
        have e3 : decide (d1.off ≤ (b.size : Int)) = true := decide_eq_true h3
        clear h1 h2 h3 D11
        go_wp2_with fail
        refine (same_any 1 T.zero a10 none c10 0 w9 zero_size R10.out (RRow.nil _ _)).mono ?_
        rintro e' w10 ⟨rfl, hb10⟩
        have HB := Lib.hid (HB.out.trans (hb10.mono HB.out.size))
        clear hb10
        go_wp2_with fail
        go_ret
        exact ⟨ret_bool (by simp), HB.out⟩
end Go.Proofs.YtbgpboiblggmiaaGreatDoor
