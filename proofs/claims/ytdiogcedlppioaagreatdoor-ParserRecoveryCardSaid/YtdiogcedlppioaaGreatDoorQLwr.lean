/-
  The walk over ParserRecovery.
-/
import Derived.Test.YtdiogcedlppioaaGreatDoorQRci
import Derived.Test.YtdiogcedlppioaaGreatDoorQRgn
set_option linter.unusedVariables false
set_option linter.unusedSimpArgs false
namespace Go.Proofs.YtdiogcedlppioaaGreatDoor
open Go.RowKit
open Px (St T D Res itemsT itemsG)

set_option maxRecDepth 100000 in
set_option maxHeartbeats 4000000 in
theorem recovery_walk (s : ByteArray) (j : Int) (w : World) (hS : SymsAt w) (hM : MaxAt w) (hm : s.size ≤ maxLen) (hj : (Lit.int .u16 j).wf = true) :
    Calls Tryz.prog 8 #[.string s, .int .u16 j] w fun e w' => e = .returned (.bool true) ∧ Below w.heap.size w w' := by
  have hjb : 0 ≤ j ∧ j ≤ 65535 := by simpa [Lit.wf, IntKind.min, IntKind.max, IntKind.signed, IntKind.bits] using hj
  obtain ⟨J, rfl⟩ := Int.eq_ofNat_of_zero_le hjb.1
  clear hj
  have HS := Lib.hid hS
  have HM := Lib.hid hM
  have HB := Lib.hid (Below.refl w.heap.size w)
  have Hm := Lib.hid hm
  clear hS hM hm
  go_enter Tryz.func8, Tryz.ntmps8
  go_wp2_with fail
  refine (head_any w HS.out HM.out).mono ?_
  rintro e w1 ⟨rfl, hb1⟩
  have HS' := Lib.hid (symsAt_below HS.out hb1 (symsAt_lt HS.out))
  clear HS
  have HS := HS'
  clear HS'
  have HM' := Lib.hid (HM.out.below hb1 HM.out.lt)
  clear HM
  have HM := HM'
  clear HM'
  have HB' := Lib.hid (HB.out.trans (hb1.mono HB.out.size))
  clear HB
  have HB := HB'
  clear HB'
  clear hb1
  by_cases hsz : s.size ≤ 6000
  rotate_left
  · have hgt : decide ((6000 : Int) < (s.size : Int)) = true := decide_eq_true (by omega)
    go_wp2_with fail
    go_ret
    exact ⟨ret_bool (by simp), HB.out⟩
  have hgt : decide ((6000 : Int) < (s.size : Int)) = false := decide_eq_false (by omega)
  go_wp2_with fail
  refine (parse_any s w1 HS.out Hm.out).mono ?_
  intro e w3 hp
  clear hgt
  obtain ⟨X, d, hX⟩ : ∃ X d, Px.parse s.data.toList = (X, d) := ⟨_, _, rfl⟩
  rw [hX] at hp
  have HX := Lib.hid hX
  clear hX
  obtain ⟨hb3, a3, c3, da, dc, rfl, hr3, hd3⟩ := hp
  have HS' := Lib.hid (symsAt_below HS.out hb3 (symsAt_lt HS.out))
  clear HS
  have HS := HS'
  clear HS'
  have HM' := Lib.hid (HM.out.below hb3 HM.out.lt)
  clear HM
  have HM := HM'
  clear HM'
  have HB' := Lib.hid (HB.out.trans (hb3.mono HB.out.size))
  clear HB
  have HB := HB'
  clear HB'
  obtain ⟨w4, hw4⟩ : ∃ W, W = w3.alloc (.cells #[.int .i64 X.kind, .string ⟨X.name.toArray⟩, .string ⟨X.other.toArray⟩, .int .i64 X.n, .int .i64 X.len, .int .i64 X.init, .bool X.ghost, .slice a3 X.kids.length c3, .int .i64 X.off] 25) := ⟨_, rfl⟩
  have hb4 : Below w3.heap.size w3 w4 := by rw [hw4]; exact (Below.refl _ _).alloc (Nat.le_refl _) _
  have T6 := Lib.hid (show Tr w4 w3.heap.size X by rw [hw4]; exact Tr.new hr3 rfl)
  have HS' := Lib.hid (symsAt_below HS.out hb4 (symsAt_lt HS.out))
  clear HS
  have HS := HS'
  clear HS'
  have HM' := Lib.hid (HM.out.below hb4 HM.out.lt)
  clear HM
  have HM := HM'
  clear HM'
  have HB' := Lib.hid (HB.out.trans (hb4.mono HB.out.size))
  clear HB
  have HB := HB'
  clear HB'
  clear hb3 hr3 hd3 hb4
  unfold nodeVal
  go_upto_region 5 with (fail)
  rw [← hw4]
  clear hw4
  cases d with
  | cons d0 r =>
    have hgt : decide ((0 : Int) < (r.length : Int) + 1) = true := decide_eq_true (by omega)
    go_wp2_with fail
    go_ret
    exact ⟨ret_bool (by simp), HB.out⟩
  | nil =>
  have hsX : Px.size X ≤ 3001 := by
    have := Px.parse_size (src := s.data.toList)
    rw [HX.out] at this
    exact this
  obtain ⟨a6, c6, z6, r6⟩ := T6.out
  have z6l := z6.lt
  obtain ⟨z6c, z6f⟩ := obj_facts z6
  have R6 := Lib.hid r6
  clear r6
  go_wp2_with fail
  refine (few_any X 4000 a6 c6 w4 (by decide) (by decide) R6.out).mono ?_
  rintro e w6 ⟨rfl, hb6⟩
  rw [few_parse s.data.toList HX.out]
  have HS' := Lib.hid (symsAt_below HS.out hb6 (symsAt_lt HS.out))
  clear HS
  have HS := HS'
  clear HS'
  have HM' := Lib.hid (HM.out.below hb6 HM.out.lt)
  clear HM
  have HM := HM'
  clear HM'
  have HB' := Lib.hid (HB.out.trans (hb6.mono HB.out.size))
  clear HB
  have HB := HB'
  clear HB'
  have T6' := Lib.hid (T6.out.below hb6)
  clear T6
  have T6 := T6'
  clear T6'
  clear hb6 z6 z6l z6c z6f R6
  obtain ⟨a6, c6, z6, r6⟩ := T6.out
  have z6l := z6.lt
  obtain ⟨z6c, z6f⟩ := obj_facts z6
  have R6 := Lib.hid r6
  clear r6
  go_wp2_with fail
  refine (items_any _ X w6.heap.size a6 c6 (.slice none 0 0) [] w6 (Nat.le_refl _) (by simp; omega) (Nat.le_refl _) R6.out (World.ownsRow_nil _ _ _ _)).mono ?_
  rintro e w7 ⟨v7, rfl, hown7, hg7⟩
  have hb7 : Below w6.heap.size w6 w7 := hg7.below (Nat.le_refl _) (fun j hj => by cases hj)
  rw [List.nil_append] at hown7
  have hil := itemsT_len _ X (Nat.le_refl _)
  obtain ⟨I, hI⟩ : ∃ I, I = itemsT X := ⟨_, rfl⟩
  rw [← hI] at hown7 hil
  have HI := Lib.hid hI
  have Hown7 := Lib.hid hown7
  have hbs7 := hb7.size
  have Hb7 := Lib.hid hb7
  have hmx : (100001 : Nat) ≤ maxLen := by decide
  obtain ⟨i0, hi, hz0, hz1, hz2⟩ := info_parts infoIt
  clear hb7 hg7 hown7 hI z6 z6l z6c z6f R6
  go_upto_region 8 with (at_builtin; (refine wpList_append_lies _ rfl (.tmp 34) (.tmp 37) 40 rfl w6.heap.size 3 i0 (.int .i64 0) 1 8 Tryz.underlying40 hi hz0 hz1 hz2 rfl (by decide) _ I.length _ rfl (Hown7.out.alloc _) ⟨w7.heap.size, 0, none⟩ 1 1 [.int .i64 s.size] rfl rfl (World.news_of_block (cs := #[.int .i64 s.size]) (obj_new w7 _)) (by simp [Value.oneCell']) (by decide) (by omega) (by omega) (by simp; omega) _ rfl ?_); intro g capA w8 hown8 hgrow8 hlie8 hlt8)
  have hb8 : Below w6.heap.size w6 w8 := (Hb7.out.alloc hbs7 _).grown hgrow8 (by simp; omega) (fun j hj => (Hown7.out.lt j hj).1)
  clear hi hz0 hz1 hz2 hmx hgrow8 hlie8
  obtain ⟨Q, hQ⟩ : ∃ Q, Q = I.length + 1 := ⟨_, rfl⟩
  rw [← hQ] at hown8 ⊢
  obtain ⟨m, hjm⟩ : ∃ m, m = J % Q := ⟨_, rfl⟩
  have hml : m < Q := by rw [hjm]; exact Nat.mod_lt _ (by omega)
  have hmod : ((J : Int) % (Q : Int)) = (m : Int) := by rw [hjm]; exact (Int.natCast_emod J Q).symm
  obtain ⟨p, hp, hx, hxf⟩ := items_cell hQ hown8 hml
  rw [HI.out] at hp
  obtain ⟨y, rfl, hy1, hy2⟩ := place_of HX.out hp
  have Hy2 := Lib.hid hy2
  have hqz : ((Q : Int) == 0) = false := beq_eq_false_iff_ne.2 (by omega)
  have hy3 : decide ((s.size : Int) < (y : Int)) = false := decide_eq_false (by omega)
  have HQ := Lib.hid hQ
  clear hp hy2 hjm hown8 hQ
  have HS' := Lib.hid (symsAt_below HS.out hb8 (symsAt_lt HS.out))
  clear HS
  have HS := HS'
  clear HS'
  have HM' := Lib.hid (HM.out.below hb8 HM.out.lt)
  clear HM
  have HM := HM'
  clear HM'
  have HB' := Lib.hid (HB.out.trans (hb8.mono HB.out.size))
  clear HB
  have HB := HB'
  clear HB'
  have T6' := Lib.hid (T6.out.below hb8)
  clear T6
  have T6 := T6'
  clear T6'
  clear hb8
  have hmq : (m : Int) < (Q : Int) := by omega
  have hm0 : (0 : Int) ≤ (m : Int) := Int.natCast_nonneg _
  go_upto_region 11 with (fail)
  clear hx hxf hmod hmq hm0 hqz hml
  have hy0 : (0 : Int) ≤ (y : Int) := Int.natCast_nonneg _
  have hyi : (y : Int) ≤ (s.size : Int) := by omega
  have hyn : ((y : Int)).toNat = y := rfl
  rcases Nat.lt_or_ge y s.size with hlt | hge
  · have heq : ((y : Int) == (s.size : Int)) = false := beq_eq_false_iff_ne.2 (by omega)
    have hin := Hy2.out hlt
    go_upto_region 15 with (fail)
    go_wp2_with fail
    obtain ⟨S, hS4⟩ : ∃ S, S = s.extract 0 y ++ { data := #[63, 59, 32] } ++ s.extract y s.size := ⟨_, rfl⟩
    have hSz : S.size ≤ maxLen := by rw [hS4]; simp only [ByteArray.size_append, ByteArray.size_extract]; have h3 : ({ data := #[63, 59, 32] } : ByteArray).size = 3 := rfl; rw [h3]; unfold maxLen; omega
    have HR := Lib.hid (show ∀ us q, Lx.lex S.data.toList = (us, 0, q) → ∃ Y, Px.parse S.data.toList = (Y, [⟨20, ((y : Nat) : Int)⟩]) ∧ stripT X = stripT Y from fun us q hl => by rw [hS4] at hl ⊢; exact rec_mid HX.out hin hl)
    rw [← hS4]
    clear hS4
    have HSz := Lib.hid hSz
    clear hSz hy3 hy0 hyi hyn hy1 heq
    rcases short_cases S with ⟨us, hsh⟩ | hno
    rotate_left
    · refine (short_no S w8 HSz.out hno).mono ?_
      rintro e w9 ⟨rfl, hb9⟩
      have HB := Lib.hid (HB.out.trans (hb9.mono HB.out.size))
      go_wp2_with fail
      go_ret
      exact ⟨ret_bool (by simp), HB.out⟩
    obtain ⟨Y, hY, hXY⟩ := HR.out us _ hsh.2
    have HY := Lib.hid hY
    have HXY := Lib.hid hXY
    refine (short_yes S w8 hsh).mono ?_
    rintro e w9 ⟨rfl, hb9⟩
    have HS' := Lib.hid (symsAt_below HS.out hb9 (symsAt_lt HS.out))
    clear HS
    have HS := HS'
    clear HS'
    have HM' := Lib.hid (HM.out.below hb9 HM.out.lt)
    clear HM
    have HM := HM'
    clear HM'
    have HB' := Lib.hid (HB.out.trans (hb9.mono HB.out.size))
    clear HB
    have HB := HB'
    clear HB'
    have T6' := Lib.hid (T6.out.below hb9)
    clear T6
    have T6 := T6'
    clear T6'
    clear hb9 hsh hY hXY
    go_wp2_with fail
    refine (parse_any S w9 HS.out HSz.out).mono ?_
    intro e w10 hp
    rw [HY.out] at hp
    obtain ⟨hb10, a10, c10, d10, e10, rfl, hr10, hd10⟩ := hp
    have HS' := Lib.hid (symsAt_below HS.out hb10 (symsAt_lt HS.out))
    clear HS
    have HS := HS'
    clear HS'
    have HM' := Lib.hid (HM.out.below hb10 HM.out.lt)
    clear HM
    have HM := HM'
    clear HM'
    have HB' := Lib.hid (HB.out.trans (hb10.mono HB.out.size))
    clear HB
    have HB := HB'
    clear HB'
    have T6' := Lib.hid (T6.out.below hb10)
    clear T6
    have T6 := T6'
    clear T6'
    have D9 := Lib.hid hd10
    obtain ⟨w11, hw11⟩ : ∃ W, W = w10.alloc (.cells #[.int .i64 Y.kind, .string ⟨Y.name.toArray⟩, .string ⟨Y.other.toArray⟩, .int .i64 Y.n, .int .i64 Y.len, .int .i64 Y.init, .bool Y.ghost, .slice a10 Y.kids.length c10, .int .i64 Y.off] 25) := ⟨_, rfl⟩
    have hb11 : Below w10.heap.size w10 w11 := by rw [hw11]; exact (Below.refl _ _).alloc (Nat.le_refl _) _
    have T12 := Lib.hid (show Tr w11 w10.heap.size Y by rw [hw11]; exact Tr.new hr10 rfl)
    have HS' := Lib.hid (symsAt_below HS.out hb11 (symsAt_lt HS.out))
    clear HS
    have HS := HS'
    clear HS'
    have HM' := Lib.hid (HM.out.below hb11 HM.out.lt)
    clear HM
    have HM := HM'
    clear HM'
    have HB' := Lib.hid (HB.out.trans (hb11.mono HB.out.size))
    clear HB
    have HB := HB'
    clear HB'
    have T6' := Lib.hid (T6.out.below hb11)
    clear T6
    have T6 := T6'
    clear T6'
    have D9' := Lib.hid (D9.out.below hb11)
    clear D9
    have D9 := D9'
    clear D9'
    clear hb10 hr10 hd10 hb11
    unfold nodeVal
    go_upto_region 18 with (fail)
    rw [← hw11]
    clear hw11
    obtain ⟨a6, c6, z6, r6⟩ := T6.out
    have z6l := z6.lt
    obtain ⟨z6c, z6f⟩ := obj_facts z6
    have R6 := Lib.hid r6
    clear r6
    obtain ⟨a12, c12, z12, r12⟩ := T12.out
    have z12l := z12.lt
    obtain ⟨z12c, z12f⟩ := obj_facts z12
    have R12 := Lib.hid r12
    clear r12
    have hsY : Px.size Y ≤ 3001 := by
      have := Px.parse_size (src := S.data.toList)
      rw [HY.out] at this
      exact this
    have hfew := few_parse S.data.toList HY.out
    have Hfew := Lib.hid hfew
    have hbz : ((s.extract 0 y).size : Int) = (y : Int) := by rw [ByteArray.size_extract]; omega
    have HD := Lib.hid (show DiagsAt w11.heap.size w11 d10 [⟨20, ((s.extract 0 y).size : Int)⟩] by rw [hbz]; exact D9.out)
    clear hbz
    clear hfew
    go_cut [4] (fun v wx => v = .bool true ∧ Hid (Below w11.heap.size w11 wx))
    case first =>
      refine wp_region_held_drew (S := (fun w' => Below w11.heap.size w11 w')) (by kernel_rfl) ((Below.refl _ _).drew) (fun hHeld => ?_)
      refine take_in (i := 0) (v := .bool true) rfl (by kernel_rfl) (by kernel_rfl) (by kernel_rfl) (fun _ _ _ h => h) (by rfl) (fun _ _ => by first | rfl | (go_simp; done)) hHeld ?_
      (try simp only [Act.put, List.setIfInBounds_toArray, List.set_cons_zero, List.set_cons_succ])
      refine take_in (i := 1) (v := .bool true) rfl (by kernel_rfl) (by kernel_rfl) (by kernel_rfl) (fun _ _ _ h => h) (by rfl) (fun _ _ => by first | rfl | (go_simp; done)) hHeld ?_
      (try simp only [Act.put, List.setIfInBounds_toArray, List.set_cons_zero, List.set_cons_succ])
      refine take_in (i := 2) (v := .slice d10 1 e10) rfl (by kernel_rfl) (by kernel_rfl) (by kernel_rfl) (fun _ _ _ h => h) (by rfl) (fun _ _ => by first | rfl | (go_simp; done)) hHeld ?_
      (try simp only [Act.put, List.setIfInBounds_toArray, List.set_cons_zero, List.set_cons_succ])
      refine take_in (i := 3) (v := .string (s.extract 0 y)) rfl (by kernel_rfl) (by kernel_rfl) (by kernel_rfl) (fun _ _ _ h => h) (by rfl) (fun _ _ => by first | rfl | (go_simp; done)) hHeld ?_
      (try simp only [Act.put, List.setIfInBounds_toArray, List.set_cons_zero, List.set_cons_succ])
      refine take_in (i := 4) (v := .int .i64 (s.extract 0 y).size) rfl (by kernel_rfl) (by kernel_rfl) (by kernel_rfl) (fun _ _ _ h => h) (by rfl) (fun _ _ => by first | rfl | (go_simp; done)) hHeld ?_
      (try simp only [Act.put, List.setIfInBounds_toArray, List.set_cons_zero, List.set_cons_succ])
      refine call_in (i := 5) (f := 24) (args := #[.slice d10 1 e10, .int .i64 20, .int .i64 (s.extract 0 y).size]) (by kernel_rfl) rfl (by rfl) (by first | rfl | (go_simp; done) | (simp only [nodeVal]; go_simp; done)) ?_
      refine (one_any 20 _ d10 e10 _ (HD.out.below hHeld)).mono ?_
      rintro e wa ⟨rfl, hq⟩
      refine ⟨_, rfl, (below_step hHeld hq), fun hHeld => ?_⟩
      (try simp only [Act.put, List.setIfInBounds_toArray, List.set_cons_zero, List.set_cons_succ])
      refine take_in (i := 6) (v := .bool true) rfl (by kernel_rfl) (by kernel_rfl) (by kernel_rfl) (fun _ _ _ h => h) (by rfl) (fun _ _ => by first | rfl | (go_simp; done)) hHeld ?_
      (try simp only [Act.put, List.setIfInBounds_toArray, List.set_cons_zero, List.set_cons_succ])
      refine take_in (i := 7) (v := .bool true) rfl (by kernel_rfl) (by kernel_rfl) (by kernel_rfl) (fun _ _ _ h => h) (by rfl) (fun _ _ => by first | rfl | (go_simp; done)) hHeld ?_
      (try simp only [Act.put, List.setIfInBounds_toArray, List.set_cons_zero, List.set_cons_succ])
      refine take_in (i := 8) rfl (by kernel_rfl) (by kernel_rfl) (by kernel_rfl) (fun _ _ _ h => h) (by rfl) (fun w' hb => run_loadN (b := w10.heap.size) (by rfl) (by rfl) ((hb.block _ z12l).trans z12)) hHeld ?_
      (try simp only [Act.put, List.setIfInBounds_toArray, List.set_cons_zero, List.set_cons_succ])
      refine call_in (i := 9) (f := 13) (args := #[nodeVal Y (.slice a12 Y.kids.length c12), .int .i64 4000]) (by kernel_rfl) rfl (by rfl) (by first | rfl | (go_simp; done) | (simp only [nodeVal]; go_simp; done)) ?_
      refine (few_any Y 4000 a12 c12 _ (by decide) (by decide) (R12.out.next hHeld)).mono ?_
      rintro e wb ⟨rfl, hq2⟩
      rw [Hfew.out]
      refine ⟨_, rfl, (below_step hHeld hq2), fun hHeld => ?_⟩
      (try simp only [Act.put, List.setIfInBounds_toArray, List.set_cons_zero, List.set_cons_succ])
      refine take_in (i := 10) (v := .bool true) rfl (by kernel_rfl) (by kernel_rfl) (by kernel_rfl) (fun _ _ _ h => h) (by rfl) (fun _ _ => by first | rfl | (go_simp; done)) hHeld ?_
      (try simp only [Act.put, List.setIfInBounds_toArray, List.set_cons_zero, List.set_cons_succ])
      refine take_in (i := 11) (v := .bool true) rfl (by kernel_rfl) (by kernel_rfl) (by kernel_rfl) (fun _ _ _ h => h) (by rfl) (fun _ _ => by first | rfl | (go_simp; done)) hHeld ?_
      (try simp only [Act.put, List.setIfInBounds_toArray, List.set_cons_zero, List.set_cons_succ])
      refine take_in (i := 12) rfl (by kernel_rfl) (by kernel_rfl) (by kernel_rfl) (fun _ _ _ h => h) (by rfl) (fun w' hb => run_loadN (b := w3.heap.size) (by rfl) (by rfl) ((hb.block _ z6l).trans z6)) hHeld ?_
      (try simp only [Act.put, List.setIfInBounds_toArray, List.set_cons_zero, List.set_cons_succ])
      refine take_in (i := 14) rfl (by kernel_rfl) (by kernel_rfl) (by kernel_rfl) (fun _ _ _ h => h) (by rfl) (fun w' hb => run_loadN (b := w10.heap.size) (by rfl) (by rfl) ((hb.block _ z12l).trans z12)) hHeld ?_
      (try simp only [Act.put, List.setIfInBounds_toArray, List.set_cons_zero, List.set_cons_succ])
      refine call_in (i := 13) (f := 21) (args := #[nodeVal X (.slice a6 X.kids.length c6)]) (by kernel_rfl) rfl (by rfl) (by first | rfl | (go_simp; done) | (simp only [nodeVal]; go_simp; done)) ?_
      refine (rstrip_any (Px.size X) X a6 c6 _ (Nat.le_refl _) (by omega) (R6.out.next hHeld)).mono ?_
      rintro e wx ⟨hq3, ax, cx, rfl, hrx⟩
      have HRx := Lib.hid hrx.read
      refine ⟨_, rfl, (below_step hHeld hq3), fun hHeld => ?_⟩
      (try simp only [Act.put, List.setIfInBounds_toArray, List.set_cons_zero, List.set_cons_succ])
      refine call_in (i := 15) (f := 21) (args := #[nodeVal Y (.slice a12 Y.kids.length c12)]) (by kernel_rfl) rfl (by rfl) (by first | rfl | (go_simp; done) | (simp only [nodeVal]; go_simp; done)) ?_
      refine (rstrip_any (Px.size Y) Y a12 c12 _ (Nat.le_refl _) (by omega) (R12.out.next hHeld)).mono ?_
      rw [← HXY.out]
      rintro e wy ⟨hq4, ay, cy, rfl, hry⟩
      have HRy := Lib.hid hry.read
      have HRx := Lib.hid (HRx.out.next hq4)
      refine ⟨_, rfl, (below_step hHeld hq4), fun hHeld => ?_⟩
      (try simp only [Act.put, List.setIfInBounds_toArray, List.set_cons_zero, List.set_cons_succ])
      refine call_in (i := 16) (f := 17) (args := #[nodeVal (stripT X) (.slice ax (stripT X).kids.length cx), nodeVal (stripT X) (.slice ay (stripT X).kids.length cy)]) (by kernel_rfl) rfl (by rfl) (by first | rfl | (go_simp; done) | (simp only [nodeVal]; go_simp; done)) ?_
      refine (same_any (Px.size (stripT X)) (stripT X) ax ay cx cy _ (Nat.le_refl _) HRx.out HRy.out).mono ?_
      rintro e wz ⟨rfl, hq5⟩
      refine ⟨_, rfl, (below_step hHeld hq5), fun hHeld => ?_⟩
      (try simp only [Act.put, List.setIfInBounds_toArray, List.set_cons_zero, List.set_cons_succ])
      refine take_in (i := 17) (v := .bool true) rfl (by kernel_rfl) (by kernel_rfl) (by kernel_rfl) (fun _ _ _ h => h) (by rfl) (fun _ _ => by first | rfl | (go_simp; done)) hHeld ?_
      (try simp only [Act.put, List.setIfInBounds_toArray, List.set_cons_zero, List.set_cons_succ])
      refine take_in (i := 18) (v := .bool true) rfl (by kernel_rfl) (by kernel_rfl) (by kernel_rfl) (fun _ _ _ h => h) (by rfl) (fun _ _ => by first | rfl | (go_simp; done)) hHeld ?_
      (try simp only [Act.put, List.setIfInBounds_toArray, List.set_cons_zero, List.set_cons_succ])
      refine wpAnyH_done (by kernel_rfl) ?_ _
      go_wp2_with fail
      go_meet
      exact ⟨rfl, Lib.hid hHeld⟩
    case rest =>
      obtain ⟨rfl, Hb12⟩ := hcut
      have HB := Lib.hid (HB.out.trans (Hb12.out.mono HB.out.size))
      clear T6 D9 z6 z6l z6c z6f z12 z12l z12c z12f R6 R12 HD
      go_wp2_with fail
      go_ret
      exact ⟨ret_bool (by simp), HB.out⟩
  · obtain rfl : y = s.size := by omega
    have heq : ((s.size : Int) == (s.size : Int)) = true := beq_self_eq_true _
    go_upto_region 15 with (fail)
    go_wp2_with fail
    obtain ⟨S, hS4⟩ : ∃ S, S = s ++ { data := #[10] } ++ { data := #[63, 59, 32] } := ⟨_, rfl⟩
    have hSz : S.size ≤ maxLen := by rw [hS4]; simp only [ByteArray.size_append]; have h3 : ({ data := #[63, 59, 32] } : ByteArray).size = 3 := rfl; have h1 : ({ data := #[10] } : ByteArray).size = 1 := rfl; rw [h3, h1]; unfold maxLen; omega
    have HR := Lib.hid (show ∀ us q, Lx.lex S.data.toList = (us, 0, q) → ∃ Y, Px.parse S.data.toList = (Y, [⟨20, ((s.size + 1 : Nat) : Int)⟩]) ∧ stripT X = stripT Y from fun us q hl => by rw [hS4] at hl ⊢; exact rec_last HX.out hl)
    rw [← hS4]
    clear hS4
    have HSz := Lib.hid hSz
    clear hSz hy3 hy0 hyi hyn hy1 heq
    rcases short_cases S with ⟨us, hsh⟩ | hno
    rotate_left
    · refine (short_no S w8 HSz.out hno).mono ?_
      rintro e w9 ⟨rfl, hb9⟩
      have HB := Lib.hid (HB.out.trans (hb9.mono HB.out.size))
      go_wp2_with fail
      go_ret
      exact ⟨ret_bool (by simp), HB.out⟩
    obtain ⟨Y, hY, hXY⟩ := HR.out us _ hsh.2
    have HY := Lib.hid hY
    have HXY := Lib.hid hXY
    refine (short_yes S w8 hsh).mono ?_
    rintro e w9 ⟨rfl, hb9⟩
    have HS' := Lib.hid (symsAt_below HS.out hb9 (symsAt_lt HS.out))
    clear HS
    have HS := HS'
    clear HS'
    have HM' := Lib.hid (HM.out.below hb9 HM.out.lt)
    clear HM
    have HM := HM'
    clear HM'
    have HB' := Lib.hid (HB.out.trans (hb9.mono HB.out.size))
    clear HB
    have HB := HB'
    clear HB'
    have T6' := Lib.hid (T6.out.below hb9)
    clear T6
    have T6 := T6'
    clear T6'
    clear hb9 hsh hY hXY
    go_wp2_with fail
    refine (parse_any S w9 HS.out HSz.out).mono ?_
    intro e w10 hp
    rw [HY.out] at hp
    obtain ⟨hb10, a10, c10, d10, e10, rfl, hr10, hd10⟩ := hp
    have HS' := Lib.hid (symsAt_below HS.out hb10 (symsAt_lt HS.out))
    clear HS
    have HS := HS'
    clear HS'
    have HM' := Lib.hid (HM.out.below hb10 HM.out.lt)
    clear HM
    have HM := HM'
    clear HM'
    have HB' := Lib.hid (HB.out.trans (hb10.mono HB.out.size))
    clear HB
    have HB := HB'
    clear HB'
    have T6' := Lib.hid (T6.out.below hb10)
    clear T6
    have T6 := T6'
    clear T6'
    have D9 := Lib.hid hd10
    obtain ⟨w11, hw11⟩ : ∃ W, W = w10.alloc (.cells #[.int .i64 Y.kind, .string ⟨Y.name.toArray⟩, .string ⟨Y.other.toArray⟩, .int .i64 Y.n, .int .i64 Y.len, .int .i64 Y.init, .bool Y.ghost, .slice a10 Y.kids.length c10, .int .i64 Y.off] 25) := ⟨_, rfl⟩
    have hb11 : Below w10.heap.size w10 w11 := by rw [hw11]; exact (Below.refl _ _).alloc (Nat.le_refl _) _
    have T12 := Lib.hid (show Tr w11 w10.heap.size Y by rw [hw11]; exact Tr.new hr10 rfl)
    have HS' := Lib.hid (symsAt_below HS.out hb11 (symsAt_lt HS.out))
    clear HS
    have HS := HS'
    clear HS'
    have HM' := Lib.hid (HM.out.below hb11 HM.out.lt)
    clear HM
    have HM := HM'
    clear HM'
    have HB' := Lib.hid (HB.out.trans (hb11.mono HB.out.size))
    clear HB
    have HB := HB'
    clear HB'
    have T6' := Lib.hid (T6.out.below hb11)
    clear T6
    have T6 := T6'
    clear T6'
    have D9' := Lib.hid (D9.out.below hb11)
    clear D9
    have D9 := D9'
    clear D9'
    clear hb10 hr10 hd10 hb11
    unfold nodeVal
    go_upto_region 18 with (fail)
    rw [← hw11]
    clear hw11
    obtain ⟨a6, c6, z6, r6⟩ := T6.out
    have z6l := z6.lt
    obtain ⟨z6c, z6f⟩ := obj_facts z6
    have R6 := Lib.hid r6
    clear r6
    obtain ⟨a12, c12, z12, r12⟩ := T12.out
    have z12l := z12.lt
    obtain ⟨z12c, z12f⟩ := obj_facts z12
    have R12 := Lib.hid r12
    clear r12
    have hsY : Px.size Y ≤ 3001 := by
      have := Px.parse_size (src := S.data.toList)
      rw [HY.out] at this
      exact this
    have hfew := few_parse S.data.toList HY.out
    have Hfew := Lib.hid hfew
    have hbz : ((s ++ { data := #[10] } : ByteArray).size : Int) = ((s.size + 1 : Nat) : Int) := by rw [ByteArray.size_append]; rfl
    have HD := Lib.hid (show DiagsAt w11.heap.size w11 d10 [⟨20, ((s ++ { data := #[10] } : ByteArray).size : Int)⟩] by rw [hbz]; exact D9.out)
    clear hbz
    clear hfew
    go_cut [4] (fun v wx => v = .bool true ∧ Hid (Below w11.heap.size w11 wx))
    case first =>
      refine wp_region_held_drew (S := (fun w' => Below w11.heap.size w11 w')) (by kernel_rfl) ((Below.refl _ _).drew) (fun hHeld => ?_)
      refine take_in (i := 0) (v := .bool true) rfl (by kernel_rfl) (by kernel_rfl) (by kernel_rfl) (fun _ _ _ h => h) (by rfl) (fun _ _ => by first | rfl | (go_simp; done)) hHeld ?_
      (try simp only [Act.put, List.setIfInBounds_toArray, List.set_cons_zero, List.set_cons_succ])
      refine take_in (i := 1) (v := .bool true) rfl (by kernel_rfl) (by kernel_rfl) (by kernel_rfl) (fun _ _ _ h => h) (by rfl) (fun _ _ => by first | rfl | (go_simp; done)) hHeld ?_
      (try simp only [Act.put, List.setIfInBounds_toArray, List.set_cons_zero, List.set_cons_succ])
      refine take_in (i := 2) (v := .slice d10 1 e10) rfl (by kernel_rfl) (by kernel_rfl) (by kernel_rfl) (fun _ _ _ h => h) (by rfl) (fun _ _ => by first | rfl | (go_simp; done)) hHeld ?_
      (try simp only [Act.put, List.setIfInBounds_toArray, List.set_cons_zero, List.set_cons_succ])
      refine take_in (i := 3) (v := .string (s ++ { data := #[10] })) rfl (by kernel_rfl) (by kernel_rfl) (by kernel_rfl) (fun _ _ _ h => h) (by rfl) (fun _ _ => by first | rfl | (go_simp; done)) hHeld ?_
      (try simp only [Act.put, List.setIfInBounds_toArray, List.set_cons_zero, List.set_cons_succ])
      refine take_in (i := 4) (v := .int .i64 (s ++ { data := #[10] }).size) rfl (by kernel_rfl) (by kernel_rfl) (by kernel_rfl) (fun _ _ _ h => h) (by rfl) (fun _ _ => by first | rfl | (go_simp; done)) hHeld ?_
      (try simp only [Act.put, List.setIfInBounds_toArray, List.set_cons_zero, List.set_cons_succ])
      refine call_in (i := 5) (f := 24) (args := #[.slice d10 1 e10, .int .i64 20, .int .i64 (s ++ { data := #[10] }).size]) (by kernel_rfl) rfl (by rfl) (by first | rfl | (go_simp; done) | (simp only [nodeVal]; go_simp; done)) ?_
      refine (one_any 20 _ d10 e10 _ (HD.out.below hHeld)).mono ?_
      rintro e wa ⟨rfl, hq⟩
      refine ⟨_, rfl, (below_step hHeld hq), fun hHeld => ?_⟩
      (try simp only [Act.put, List.setIfInBounds_toArray, List.set_cons_zero, List.set_cons_succ])
      refine take_in (i := 6) (v := .bool true) rfl (by kernel_rfl) (by kernel_rfl) (by kernel_rfl) (fun _ _ _ h => h) (by rfl) (fun _ _ => by first | rfl | (go_simp; done)) hHeld ?_
      (try simp only [Act.put, List.setIfInBounds_toArray, List.set_cons_zero, List.set_cons_succ])
      refine take_in (i := 7) (v := .bool true) rfl (by kernel_rfl) (by kernel_rfl) (by kernel_rfl) (fun _ _ _ h => h) (by rfl) (fun _ _ => by first | rfl | (go_simp; done)) hHeld ?_
      (try simp only [Act.put, List.setIfInBounds_toArray, List.set_cons_zero, List.set_cons_succ])
      refine take_in (i := 8) rfl (by kernel_rfl) (by kernel_rfl) (by kernel_rfl) (fun _ _ _ h => h) (by rfl) (fun w' hb => run_loadN (b := w10.heap.size) (by rfl) (by rfl) ((hb.block _ z12l).trans z12)) hHeld ?_
      (try simp only [Act.put, List.setIfInBounds_toArray, List.set_cons_zero, List.set_cons_succ])
      refine call_in (i := 9) (f := 13) (args := #[nodeVal Y (.slice a12 Y.kids.length c12), .int .i64 4000]) (by kernel_rfl) rfl (by rfl) (by first | rfl | (go_simp; done) | (simp only [nodeVal]; go_simp; done)) ?_
      refine (few_any Y 4000 a12 c12 _ (by decide) (by decide) (R12.out.next hHeld)).mono ?_
      rintro e wb ⟨rfl, hq2⟩
      rw [Hfew.out]
      refine ⟨_, rfl, (below_step hHeld hq2), fun hHeld => ?_⟩
      (try simp only [Act.put, List.setIfInBounds_toArray, List.set_cons_zero, List.set_cons_succ])
      refine take_in (i := 10) (v := .bool true) rfl (by kernel_rfl) (by kernel_rfl) (by kernel_rfl) (fun _ _ _ h => h) (by rfl) (fun _ _ => by first | rfl | (go_simp; done)) hHeld ?_
      (try simp only [Act.put, List.setIfInBounds_toArray, List.set_cons_zero, List.set_cons_succ])
      refine take_in (i := 11) (v := .bool true) rfl (by kernel_rfl) (by kernel_rfl) (by kernel_rfl) (fun _ _ _ h => h) (by rfl) (fun _ _ => by first | rfl | (go_simp; done)) hHeld ?_
      (try simp only [Act.put, List.setIfInBounds_toArray, List.set_cons_zero, List.set_cons_succ])
      refine take_in (i := 12) rfl (by kernel_rfl) (by kernel_rfl) (by kernel_rfl) (fun _ _ _ h => h) (by rfl) (fun w' hb => run_loadN (b := w3.heap.size) (by rfl) (by rfl) ((hb.block _ z6l).trans z6)) hHeld ?_
      (try simp only [Act.put, List.setIfInBounds_toArray, List.set_cons_zero, List.set_cons_succ])
      refine take_in (i := 14) rfl (by kernel_rfl) (by kernel_rfl) (by kernel_rfl) (fun _ _ _ h => h) (by rfl) (fun w' hb => run_loadN (b := w10.heap.size) (by rfl) (by rfl) ((hb.block _ z12l).trans z12)) hHeld ?_
      (try simp only [Act.put, List.setIfInBounds_toArray, List.set_cons_zero, List.set_cons_succ])
      refine call_in (i := 13) (f := 21) (args := #[nodeVal X (.slice a6 X.kids.length c6)]) (by kernel_rfl) rfl (by rfl) (by first | rfl | (go_simp; done) | (simp only [nodeVal]; go_simp; done)) ?_
      refine (rstrip_any (Px.size X) X a6 c6 _ (Nat.le_refl _) (by omega) (R6.out.next hHeld)).mono ?_
      rintro e wx ⟨hq3, ax, cx, rfl, hrx⟩
      have HRx := Lib.hid hrx.read
      refine ⟨_, rfl, (below_step hHeld hq3), fun hHeld => ?_⟩
      (try simp only [Act.put, List.setIfInBounds_toArray, List.set_cons_zero, List.set_cons_succ])
      refine call_in (i := 15) (f := 21) (args := #[nodeVal Y (.slice a12 Y.kids.length c12)]) (by kernel_rfl) rfl (by rfl) (by first | rfl | (go_simp; done) | (simp only [nodeVal]; go_simp; done)) ?_
      refine (rstrip_any (Px.size Y) Y a12 c12 _ (Nat.le_refl _) (by omega) (R12.out.next hHeld)).mono ?_
      rw [← HXY.out]
      rintro e wy ⟨hq4, ay, cy, rfl, hry⟩
      have HRy := Lib.hid hry.read
      have HRx := Lib.hid (HRx.out.next hq4)
      refine ⟨_, rfl, (below_step hHeld hq4), fun hHeld => ?_⟩
      (try simp only [Act.put, List.setIfInBounds_toArray, List.set_cons_zero, List.set_cons_succ])
      refine call_in (i := 16) (f := 17) (args := #[nodeVal (stripT X) (.slice ax (stripT X).kids.length cx), nodeVal (stripT X) (.slice ay (stripT X).kids.length cy)]) (by kernel_rfl) rfl (by rfl) (by first | rfl | (go_simp; done) | (simp only [nodeVal]; go_simp; done)) ?_
      refine (same_any (Px.size (stripT X)) (stripT X) ax ay cx cy _ (Nat.le_refl _) HRx.out HRy.out).mono ?_
      rintro e wz ⟨rfl, hq5⟩
      refine ⟨_, rfl, (below_step hHeld hq5), fun hHeld => ?_⟩
      (try simp only [Act.put, List.setIfInBounds_toArray, List.set_cons_zero, List.set_cons_succ])
      refine take_in (i := 17) (v := .bool true) rfl (by kernel_rfl) (by kernel_rfl) (by kernel_rfl) (fun _ _ _ h => h) (by rfl) (fun _ _ => by first | rfl | (go_simp; done)) hHeld ?_
      (try simp only [Act.put, List.setIfInBounds_toArray, List.set_cons_zero, List.set_cons_succ])
      refine take_in (i := 18) (v := .bool true) rfl (by kernel_rfl) (by kernel_rfl) (by kernel_rfl) (fun _ _ _ h => h) (by rfl) (fun _ _ => by first | rfl | (go_simp; done)) hHeld ?_
      (try simp only [Act.put, List.setIfInBounds_toArray, List.set_cons_zero, List.set_cons_succ])
      refine wpAnyH_done (by kernel_rfl) ?_ _
      go_wp2_with fail
      go_meet
      exact ⟨rfl, Lib.hid hHeld⟩
    case rest =>
      obtain ⟨rfl, Hb12⟩ := hcut
      have HB := Lib.hid (HB.out.trans (Hb12.out.mono HB.out.size))
      clear T6 D9 z6 z6l z6c z6f z12 z12l z12c z12f R6 R12 HD
      go_wp2_with fail
      go_ret
      exact ⟨ret_bool (by simp), HB.out⟩
end Go.Proofs.YtdiogcedlppioaaGreatDoor

