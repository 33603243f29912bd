/-
  The walk over ParserTruncated.
-/
import Derived.Test.YtlncbemdbpbccaaGreatDoorPrd
set_option linter.unusedVariables false
set_option linter.unusedSimpArgs false
namespace Go.Proofs.YtlncbemdbpbccaaGreatDoor
open Go.RowKit
open Px (St T D Res)

set_option maxRecDepth 100000 in
set_option maxHeartbeats 4000000 in
theorem truncated_walk (s : ByteArray) (j : Int) (w : World) (hS : SymsAt w) (hM : MaxAt w) (hm : s.size ≤ maxLen) (hj : (Lit.int .u16 j).wf = true) :
    Calls Tryz.prog 9 #[.string s, .int .u16 j] w fun e w' => e = .returned (.bool true) ∧ Below w.heap.size w w' := by
  have hjb : 0 ≤ j ∧ j ≤ 65535 := by simpa [Lit.wf, IntKind.min, IntKind.max, IntKind.signed, IntKind.bits] using hj
  obtain ⟨J, rfl⟩ := Int.eq_ofNat_of_zero_le hjb.1
  clear hj
  have HS := Lib.hid hS
  have HM := Lib.hid hM
  have HB := Lib.hid (Below.refl w.heap.size w)
  have Hm := Lib.hid hm
  clear hS hM hm
  go_enter Tryz.func9, Tryz.ntmps9
  go_wp2_with fail
  refine (head_any w HS.out HM.out).mono ?_
  rintro e w1 ⟨rfl, hb1⟩
  have HS' := Lib.hid (symsAt_below HS.out hb1 (symsAt_lt HS.out))
  clear HS
  have HS := HS'
  clear HS'
  have HM' := Lib.hid (HM.out.below hb1 HM.out.lt)
  clear HM
  have HM := HM'
  clear HM'
  have HB' := Lib.hid (HB.out.trans (hb1.mono HB.out.size))
  clear HB
  have HB := HB'
  clear HB'
  clear hb1
  rcases short_cases s with ⟨ts, hsh⟩ | hno
  rotate_left
  · go_wp2_with fail
    refine (short_no s w1 Hm.out hno).mono ?_
    rintro e w2 ⟨rfl, hb2⟩
    have HS' := Lib.hid (symsAt_below HS.out hb2 (symsAt_lt HS.out))
    clear HS
    have HS := HS'
    clear HS'
    have HM' := Lib.hid (HM.out.below hb2 HM.out.lt)
    clear HM
    have HM := HM'
    clear HM'
    have HB' := Lib.hid (HB.out.trans (hb2.mono HB.out.size))
    clear HB
    have HB := HB'
    clear HB'
    go_wp2_with fail
    go_ret
    exact ⟨ret_bool (by simp), HB.out⟩
  have Hsh := Lib.hid hsh
  have hsz := hsh.1
  clear hsh
  go_wp2_with fail
  refine (short_yes s w1 Hsh.out).mono ?_
  rintro e w2 ⟨rfl, hb2⟩
  have HS' := Lib.hid (symsAt_below HS.out hb2 (symsAt_lt HS.out))
  clear HS
  have HS := HS'
  clear HS'
  have HM' := Lib.hid (HM.out.below hb2 HM.out.lt)
  clear HM
  have HM := HM'
  clear HM'
  have HB' := Lib.hid (HB.out.trans (hb2.mono HB.out.size))
  clear HB
  have HB := HB'
  clear HB'
  clear hb2
  go_wp2_with fail
  refine (parse_cap s w2 HS.out Hm.out).mono ?_
  intro e w3 hp
  obtain ⟨X, d, hX⟩ : ∃ X d, Px.parse s.data.toList = (X, d) := ⟨_, _, rfl⟩
  rw [hX] at hp
  have HX := Lib.hid hX
  clear hX
  obtain ⟨hb3, a3, c3, da, dc, rfl, hr3, hd3, hk3⟩ := hp
  have HS' := Lib.hid (symsAt_below HS.out hb3 (symsAt_lt HS.out))
  clear HS
  have HS := HS'
  clear HS'
  have HM' := Lib.hid (HM.out.below hb3 HM.out.lt)
  clear HM
  have HM := HM'
  clear HM'
  have HB' := Lib.hid (HB.out.trans (hb3.mono HB.out.size))
  clear HB
  have HB := HB'
  clear HB'
  have D5 := Lib.hid hd3
  obtain ⟨w4, hw4⟩ : ∃ W, W = w3.alloc (.cells #[.int .i64 X.kind, .string ⟨X.name.toArray⟩, .string ⟨X.other.toArray⟩, .int .i64 X.n, .int .i64 X.len, .int .i64 X.init, .bool X.ghost, .slice a3 X.kids.length c3, .int .i64 X.off] 25) := ⟨_, rfl⟩
  have hb4 : Below w3.heap.size w3 w4 := by rw [hw4]; exact (Below.refl _ _).alloc (Nat.le_refl _) _
  have T6 := Lib.hid (show TrC w4 w3.heap.size X by rw [hw4]; exact TrC.new hr3 hk3 rfl)
  have HS' := Lib.hid (symsAt_below HS.out hb4 (symsAt_lt HS.out))
  clear HS
  have HS := HS'
  clear HS'
  have HM' := Lib.hid (HM.out.below hb4 HM.out.lt)
  clear HM
  have HM := HM'
  clear HM'
  have HB' := Lib.hid (HB.out.trans (hb4.mono HB.out.size))
  clear HB
  have HB := HB'
  clear HB'
  have D5' := Lib.hid (D5.out.below hb4)
  clear D5
  have D5 := D5'
  clear D5'
  clear hb3 hr3 hd3 hb4 hk3
  unfold nodeVal
  go_upto_region 5 with (fail)
  rw [← hw4]
  clear hw4
  go_wp2_with fail
  refine (lexR s _ Hm.out).mono ?_
  intro e w5 hl
  obtain ⟨a, ca, rfl, hb5, ho5⟩ := lexSaid_open Hsh.out.2 hl
  have HS' := Lib.hid (symsAt_below HS.out hb5 (symsAt_lt HS.out))
  clear HS
  have HS := HS'
  clear HS'
  have HM' := Lib.hid (HM.out.below hb5 HM.out.lt)
  clear HM
  have HM := HM'
  clear HM'
  have HB' := Lib.hid (HB.out.trans (hb5.mono HB.out.size))
  clear HB
  have HB := HB'
  clear HB'
  have T6' := Lib.hid (T6.out.below hb5)
  clear T6
  have T6 := T6'
  clear T6'
  have Ho := Lib.hid ho5
  have hlen := Lx.lex_len_of Hsh.out.2
  clear hl hb5 ho5
  cases d with
  | cons d0 r =>
    have hgt : decide ((0 : Int) < (r.length : Int) + 1) = true := decide_eq_true (by omega)
    go_wp2_with fail
    go_ret
    exact ⟨ret_bool (by simp), HB.out⟩
  | nil =>
  rcases Nat.eq_zero_or_pos ts.length with hne | hne
  · obtain rfl : ts = [] := List.length_eq_zero_iff.1 hne
    go_wp2_with fail
    go_ret
    exact ⟨ret_bool (by simp), HB.out⟩
  have hz : ((ts.length : Int) == 0) = false := beq_eq_false_iff_ne.2 (by omega)
  obtain ⟨a6, c6, z6, r6, k6⟩ := T6.out
  have z6l := z6.lt
  obtain ⟨z6c, z6f⟩ := obj_facts z6
  have R6 := Lib.hid r6
  clear r6
  go_wp2_with fail
  refine (few_any X 4000 a6 c6 w5 (by decide) (by decide) R6.out).mono ?_
  rintro e w6 ⟨rfl, hb6⟩
  rw [few_parse s.data.toList HX.out]
  have HS' := Lib.hid (symsAt_below HS.out hb6 (symsAt_lt HS.out))
  clear HS
  have HS := HS'
  clear HS'
  have HM' := Lib.hid (HM.out.below hb6 HM.out.lt)
  clear HM
  have HM := HM'
  clear HM'
  have HB' := Lib.hid (HB.out.trans (hb6.mono HB.out.size))
  clear HB
  have HB := HB'
  clear HB'
  have T6' := Lib.hid (T6.out.below hb6)
  clear T6
  have T6 := T6'
  clear T6'
  have Ho := Lib.hid (ownsRow_below Ho.out hb6)
  clear hb6 z6 z6l z6c z6f R6 k6
  obtain ⟨m, hjm⟩ : ∃ m, m = J % ts.length := ⟨_, rfl⟩
  have hml : m < ts.length := by rw [hjm]; exact Nat.mod_lt _ hne
  have hmod : ((J : Int) % (ts.length : Int)) = (m : Int) := by rw [hjm]; exact (Int.natCast_emod J ts.length).symm
  obtain ⟨t, ht⟩ : ∃ t, ts[m]? = some t := ⟨_, List.getElem?_eq_getElem hml⟩
  obtain ⟨g, hga, hgw, hx0, hx1, hx2⟩ := toks_cells Ho.out m t ht
  subst hga
  have Ht := Lib.hid ht
  clear ht hjm
  obtain ⟨ys, more, E, hY, hXX, hE⟩ := Px.truncated Hsh.out.2 (show (Px.parse s.data.toList).2 = [] by rw [HX.out]) Ht.out
  have hend : t.off + t.text.length ≤ s.size := (Lx.lex_prefix Hsh.out.2 Ht.out).1
  have HXX := Lib.hid (show X = Px.source (ys ++ more) by rw [HX.out] at hXX; exact hXX)
  have HE := Lib.hid hE
  have HY := Lib.hid (show Px.parse (s.extract 0 (t.off + t.text.length)).data.toList = (Px.source ys, E) by rw [extract_front]; exact hY)
  have hz9 : (s.extract 0 (t.off + t.text.length)).size = t.off + t.text.length := by
    have e : (s.extract 0 (t.off + t.text.length)).data.toList.length = (s.extract 0 (t.off + t.text.length)).size := rfl
    rw [extract_front, List.length_take] at e
    have : s.data.toList.length = s.size := rfl
    omega
  clear hY hXX hE
  go_upto_region 9 with (fail)
  obtain ⟨w7, hw7⟩ : ∃ W, W = w6.alloc (.cells #[.int .i64 t.kind, .string ⟨t.text.toArray⟩, .int .i64 t.off] 53) := ⟨_, rfl⟩
  have hb7 : Below w6.heap.size w6 w7 := by rw [hw7]; exact (Below.refl _ _).alloc (Nat.le_refl _) _
  have z11 : Var 53 w7 w6.heap.size #[.int .i64 t.kind, .string ⟨t.text.toArray⟩, .int .i64 t.off] := by rw [hw7]; exact Var.new _ _ _
  have z11l := z11.lt
  obtain ⟨z11c, z11f⟩ := obj_facts z11
  have HS' := Lib.hid (symsAt_below HS.out hb7 (symsAt_lt HS.out))
  clear HS
  have HS := HS'
  clear HS'
  have HM' := Lib.hid (HM.out.below hb7 HM.out.lt)
  clear HM
  have HM := HM'
  clear HM'
  have HB' := Lib.hid (HB.out.trans (hb7.mono HB.out.size))
  clear HB
  have HB := HB'
  clear HB'
  have T6' := Lib.hid (T6.out.below hb7)
  clear T6
  have T6 := T6'
  clear T6'
  rw [← hw7]
  clear hw7 hb7 hx0 hx1 hx2 hmod
  have hwr : IntKind.i64.wrap ((t.off : Int) + (t.text.length : Int)) = (t.off : Int) + (t.text.length : Int) := IntWalk.i64_in _ (by omega)
  have hi0 : (0 : Int) ≤ (t.off : Int) + (t.text.length : Int) := by omega
  have hi1 : (t.off : Int) + (t.text.length : Int) ≤ (s.size : Int) := by omega
  have hi2 : ((t.off : Int) + (t.text.length : Int)).toNat = t.off + t.text.length := by omega
  go_upto_region 10 with (fail)
  try rw [hi2]
  go_wp2_with fail
  refine (parse_any (s.extract 0 (t.off + t.text.length)) w7 HS.out (by unfold maxLen; omega)).mono ?_
  intro e w8 hp
  rw [HY.out] at hp
  obtain ⟨hb8, a8, c8, d8, e8, rfl, hr8, hd8⟩ := hp
  have HS' := Lib.hid (symsAt_below HS.out hb8 (symsAt_lt HS.out))
  clear HS
  have HS := HS'
  clear HS'
  have HM' := Lib.hid (HM.out.below hb8 HM.out.lt)
  clear HM
  have HM := HM'
  clear HM'
  have HB' := Lib.hid (HB.out.trans (hb8.mono HB.out.size))
  clear HB
  have HB := HB'
  clear HB'
  have T6' := Lib.hid (T6.out.below hb8)
  clear T6
  have T6 := T6'
  clear T6'
  have D9 := Lib.hid hd8
  obtain ⟨w10, hw10⟩ : ∃ W, W = w8.alloc (.cells #[.int .i64 (Px.source ys).kind, .string ⟨(Px.source ys).name.toArray⟩, .string ⟨(Px.source ys).other.toArray⟩, .int .i64 (Px.source ys).n, .int .i64 (Px.source ys).len, .int .i64 (Px.source ys).init, .bool (Px.source ys).ghost, .slice a8 (Px.source ys).kids.length c8, .int .i64 (Px.source ys).off] 25) := ⟨_, rfl⟩
  have hb10 : Below w8.heap.size w8 w10 := by rw [hw10]; exact (Below.refl _ _).alloc (Nat.le_refl _) _
  have T13 := Lib.hid (show Tr w10 w8.heap.size (Px.source ys) by rw [hw10]; exact Tr.new hr8 rfl)
  have HS' := Lib.hid (symsAt_below HS.out hb10 (symsAt_lt HS.out))
  clear HS
  have HS := HS'
  clear HS'
  have HM' := Lib.hid (HM.out.below hb10 HM.out.lt)
  clear HM
  have HM := HM'
  clear HM'
  have HB' := Lib.hid (HB.out.trans (hb10.mono HB.out.size))
  clear HB
  have HB := HB'
  clear HB'
  have T6' := Lib.hid (T6.out.below hb10)
  clear T6
  have T6 := T6'
  clear T6'
  have D9' := Lib.hid (D9.out.below hb10)
  clear D9
  have D9 := D9'
  clear D9'
  clear hb8 hr8 hd8 hb10 z11 z11l z11c z11f
  unfold nodeVal
  go_upto_region 11 with (fail)
  rw [← hw10]
  clear hw10
  obtain ⟨a6, c6, z6, r6, k6⟩ := T6.out
  have z6l := z6.lt
  obtain ⟨z6c, z6f⟩ := obj_facts z6
  have R6 := Lib.hid r6
  clear r6
  obtain ⟨a13, c13, z13, r13⟩ := T13.out
  have z13l := z13.lt
  obtain ⟨z13c, z13f⟩ := obj_facts z13
  have R13 := Lib.hid r13
  clear r13
  have hyx : ys.length ≤ X.kids.length := by rw [HXX.out]; show ys.length ≤ (ys ++ more).length; rw [List.length_append]; omega
  have hyk : (Px.source ys).kids = ys := rfl
  have hcmp : decide ((X.kids.length : Int) < ((Px.source ys).kids.length : Int)) = false := decide_eq_false (by rw [hyk]; omega)
  go_wp2_with fail
  refine (few_any (Px.source ys) 4000 a13 c13 w10 (by decide) (by decide) R13.out).mono ?_
  rintro e w11 ⟨rfl, hb11⟩
  rw [few_parse _ HY.out]
  clear z6 z6l z6c z6f R6 k6 z13 z13l z13c z13f R13
  have HS' := Lib.hid (symsAt_below HS.out hb11 (symsAt_lt HS.out))
  clear HS
  have HS := HS'
  clear HS'
  have HM' := Lib.hid (HM.out.below hb11 HM.out.lt)
  clear HM
  have HM := HM'
  clear HM'
  have HB' := Lib.hid (HB.out.trans (hb11.mono HB.out.size))
  clear HB
  have HB := HB'
  clear HB'
  have T6' := Lib.hid (T6.out.below hb11)
  clear T6
  have T6 := T6'
  clear T6'
  have T13' := Lib.hid (T13.out.below hb11)
  clear T13
  have T13 := T13'
  clear T13'
  have D9' := Lib.hid (D9.out.below hb11)
  clear D9
  have D9 := D9'
  clear D9'
  clear hb11
  go_upto_region 13 with (fail)
  obtain ⟨a6, c6, z6, r6, k6⟩ := T6.out
  have z6l := z6.lt
  obtain ⟨z6c, z6f⟩ := obj_facts z6
  have R6 := Lib.hid r6
  clear r6
  obtain ⟨a13, c13, z13, r13⟩ := T13.out
  have z13l := z13.lt
  obtain ⟨z13c, z13f⟩ := obj_facts z13
  have R13 := Lib.hid r13
  clear r13
  have hsl := slice_row a6 X.kids.length c6 (Px.source ys).kids.length ((Px.source ys).kids.length : Int) rfl (by rw [hyk]; omega)
  have R6f := Lib.hid (show RRow w11.heap.size w11 (Px.source ys).kids (.slice a6 (Px.source ys).kids.length c6) by
    have h := R6.out
    have hX : X.kids = ys ++ more := by rw [HXX.out]; rfl
    rw [hX] at h
    exact h.front)
  have hz9' : ((s.extract 0 (t.off + t.text.length)).size : Int) = ((t.off + t.text.length : Nat) : Int) := by rw [hz9]
  have hyc : ys.length ≤ c6 := by omega
  go_cut [15] (fun v wx => v = .bool true ∧ Hid (Below w11.heap.size w11 wx))
  case first =>
    go_still_tail 8, (by kernel_rfl)
    change wpList _ _ _ _ _ w11.drew
    obtain ⟨w12, hw12⟩ : ∃ W, W = w11.drew := ⟨_, rfl⟩
    have hb12 : Below w11.heap.size w11 w12 := by rw [hw12]; exact (Below.refl _ _).drew
    rw [← hw12]
    clear hw12
    go_wp2_with fail
    refine (same_any (Px.size (Px.source ys)) (Px.source ys) a13 a6 c13 c6 w12 (Nat.le_refl _) (R13.out.next hb12) (R6f.out.next hb12)).mono ?_
    rintro e w13 ⟨rfl, hb13⟩
    go_wp2_with fail
    go_meet
    exact ⟨rfl, Lib.hid (hb12.trans (hb13.mono hb12.size))⟩
  case rest =>
    obtain ⟨rfl, Hb12⟩ := hcut
    have HB := Lib.hid (HB.out.trans (Hb12.out.mono HB.out.size))
    have D9 := Lib.hid (D9.out.below Hb12.out)
    have hyc := ()
    clear z6 z6l z6c z6f R6 k6 z13 z13l z13c z13f R13 R6f hsl hyx hcmp hyk hz9
    rcases HE.out with he | he
    · subst he
      go_wp2_with fail
      go_ret
      exact ⟨ret_bool (by simp), HB.out⟩
    · subst he
      go_wp2_with fail
      have hpc : ((t.off + t.text.length : Nat) : Int) = (t.off : Int) + (t.text.length : Int) := by push_cast; rfl
      have D9y := D9.out
      rw [hpc] at D9y
      clear hpc
      refine (one_any 21 ((t.off : Int) + (t.text.length : Int)) d8 e8 _ D9y).mono ?_
      rintro e w13 ⟨rfl, hb13⟩
      have HB := Lib.hid (HB.out.trans (hb13.mono HB.out.size))
      go_wp2_with fail
      go_ret
      exact ⟨ret_bool (by simp), HB.out⟩
end Go.Proofs.YtlncbemdbpbccaaGreatDoor
