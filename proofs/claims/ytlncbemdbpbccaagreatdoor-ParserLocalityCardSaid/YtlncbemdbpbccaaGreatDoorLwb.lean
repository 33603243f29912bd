/-
  The walk over ParserLocality.
-/
import Derived.Test.YtlncbemdbpbccaaGreatDoorLwu
import Derived.Deep.RegionHeld3
set_option linter.unusedVariables false
set_option linter.unusedSimpArgs false
namespace Go.Proofs.YtlncbemdbpbccaaGreatDoor
open Go.RowKit
open Px (St T D Res)

set_option maxRecDepth 100000 in
set_option maxHeartbeats 4000000 in
theorem locality_walk (s : ByteArray) (w : World) (hS : SymsAt w) (hM : MaxAt w) (hm : s.size ≤ maxLen) :
    Calls Tryz.prog 10 #[.string s] w fun e w' => e = .returned (.bool true) ∧ Below w.heap.size w w' := by
  have HS := Lib.hid hS
  have HM := Lib.hid hM
  have HB := Lib.hid (Below.refl w.heap.size w)
  have Hm := Lib.hid hm
  clear hS hM hm
  go_enter Tryz.func10, Tryz.ntmps10
  go_wp2_with fail
  refine (head_any w HS.out HM.out).mono ?_
  rintro e w1 ⟨rfl, hb1⟩
  have HS' := Lib.hid (symsAt_below HS.out hb1 (symsAt_lt HS.out))
  clear HS
  have HS := HS'
  clear HS'
  have HM' := Lib.hid (HM.out.below hb1 HM.out.lt)
  clear HM
  have HM := HM'
  clear HM'
  have HB' := Lib.hid (HB.out.trans (hb1.mono HB.out.size))
  clear HB
  have HB := HB'
  clear HB'
  clear hb1
  rcases short_cases s with ⟨ts, hsh⟩ | hno
  rotate_left
  · go_wp2_with fail
    refine (short_no s w1 Hm.out hno).mono ?_
    rintro e w2 ⟨rfl, hb2⟩
    have HS' := Lib.hid (symsAt_below HS.out hb2 (symsAt_lt HS.out))
    clear HS
    have HS := HS'
    clear HS'
    have HM' := Lib.hid (HM.out.below hb2 HM.out.lt)
    clear HM
    have HM := HM'
    clear HM'
    have HB' := Lib.hid (HB.out.trans (hb2.mono HB.out.size))
    clear HB
    have HB := HB'
    clear HB'
    go_wp2_with fail
    go_ret
    exact ⟨ret_bool (by simp), HB.out⟩
  have Hsh := Lib.hid hsh
  have hsz := hsh.1
  clear hsh
  go_wp2_with fail
  refine (short_yes s w1 Hsh.out).mono ?_
  rintro e w2 ⟨rfl, hb2⟩
  have HS' := Lib.hid (symsAt_below HS.out hb2 (symsAt_lt HS.out))
  clear HS
  have HS := HS'
  clear HS'
  have HM' := Lib.hid (HM.out.below hb2 HM.out.lt)
  clear HM
  have HM := HM'
  clear HM'
  have HB' := Lib.hid (HB.out.trans (hb2.mono HB.out.size))
  clear HB
  have HB := HB'
  clear HB'
  clear hb2
  go_wp2_with fail
  refine (parse_any s w2 HS.out Hm.out).mono ?_
  intro e w3 hp
  obtain ⟨X, d, hX⟩ : ∃ X d, Px.parse s.data.toList = (X, d) := ⟨_, _, rfl⟩
  rw [hX] at hp
  have HX := Lib.hid hX
  clear hX
  obtain ⟨hb3, a3, c3, da, dc, rfl, hr3, hd3⟩ := hp
  have HS' := Lib.hid (symsAt_below HS.out hb3 (symsAt_lt HS.out))
  clear HS
  have HS := HS'
  clear HS'
  have HM' := Lib.hid (HM.out.below hb3 HM.out.lt)
  clear HM
  have HM := HM'
  clear HM'
  have HB' := Lib.hid (HB.out.trans (hb3.mono HB.out.size))
  clear HB
  have HB := HB'
  clear HB'
  have D5 := Lib.hid hd3
  obtain ⟨w4, hw4⟩ : ∃ W, W = w3.alloc (.cells #[.int .i64 X.kind, .string ⟨X.name.toArray⟩, .string ⟨X.other.toArray⟩, .int .i64 X.n, .int .i64 X.len, .int .i64 X.init, .bool X.ghost, .slice a3 X.kids.length c3, .int .i64 X.off] 25) := ⟨_, rfl⟩
  have hb4 : Below w3.heap.size w3 w4 := by rw [hw4]; exact (Below.refl _ _).alloc (Nat.le_refl _) _
  have T4 := Lib.hid (show Tr w4 w3.heap.size X by rw [hw4]; exact Tr.new hr3 rfl)
  have HS' := Lib.hid (symsAt_below HS.out hb4 (symsAt_lt HS.out))
  clear HS
  have HS := HS'
  clear HS'
  have HM' := Lib.hid (HM.out.below hb4 HM.out.lt)
  clear HM
  have HM := HM'
  clear HM'
  have HB' := Lib.hid (HB.out.trans (hb4.mono HB.out.size))
  clear HB
  have HB := HB'
  clear HB'
  have D5' := Lib.hid (D5.out.below hb4)
  clear D5
  have D5 := D5'
  clear D5'
  clear hb3 hr3 hd3 hb4 T4
  unfold nodeVal
  cases d with
  | nil =>
    go_wp2_with fail
    rw [← hw4]
    go_wp2_with fail
    go_ret
    exact ⟨ret_bool (by simp), HB.out⟩
  | cons d0 r =>
    obtain ⟨b, o, hda, hbl, q1, q2⟩ := D5.out.get (k := 0) (d := d0) rfl
    subst hda
    simp only [Nat.zero_mul, Nat.add_zero] at q1 q2
    have hne : ((r.length : Int) + 1 == 0) = false := beq_eq_false_iff_ne.2 (by omega)
    go_upto_region 5 with (fail)
    rw [← hw4]
    clear hw4
    by_cases hw : d0.err = 2 ∧ d0.off = 0
    · have e1 : (d0.err == 2) = true := by rw [hw.1]; rfl
      have e2 : (d0.off == 0) = true := by rw [hw.2]; rfl
      clear hw
      go_wp2_with fail
      go_ret
      exact ⟨ret_bool (by simp), HB.out⟩
    obtain ⟨hA, hB⟩ := Px.locality Hsh.out.2 (show (Px.parse s.data.toList).2 = d0 :: r by rw [HX.out]) hw
    have HA := Lib.hid hA
    have HN := Lib.hid hB
    clear hA hB
    have hww : (d0.err == 2) = false ∨ (d0.err == 2) = true ∧ (d0.off == 0) = false := by
      by_cases h1 : d0.err = 2
      · right
        exact ⟨by rw [h1]; rfl, beq_eq_false_iff_ne.2 fun h2 => hw ⟨h1, h2⟩⟩
      · exact .inl (beq_eq_false_iff_ne.2 h1)
    have Hw := Lib.hid hww
    clear hw hww
    go_cut [38] (fun v wx => v = .bool false ∧ wx = w4)
    case first =>
      rcases Hw.out with e1 | ⟨e1, e2⟩
      · go_wp2_with fail
        go_meet
        exact ⟨rfl, rfl⟩
      · go_wp2_with fail
        go_meet
        exact ⟨rfl, rfl⟩
    obtain ⟨rfl, hwc⟩ := hcut
    obtain ⟨w5, hw5⟩ : ∃ W, W = wc := ⟨_, rfl⟩
    subst hw5
    subst hwc
    have hlen := Lx.lex_len_of Hsh.out.2
    go_wp2_with fail
    refine (lexR s _ Hm.out).mono ?_
    intro e w6 hl
    obtain ⟨a, ca, rfl, hb6, ho6⟩ := lexSaid_open Hsh.out.2 hl
    rw [← hb6.cell (p := ⟨b, o, none⟩) hbl] at q1
    rw [← hb6.cell (p := ⟨b, o + 1, none⟩) hbl] at q2
    have hbl := Nat.lt_of_lt_of_le hbl hb6.size
    have HS' := Lib.hid (symsAt_below HS.out hb6 (symsAt_lt HS.out))
    clear HS
    have HS := HS'
    clear HS'
    have HM' := Lib.hid (HM.out.below hb6 HM.out.lt)
    clear HM
    have HM := HM'
    clear HM'
    have HB' := Lib.hid (HB.out.trans (hb6.mono HB.out.size))
    clear HB
    have HB := HB'
    clear HB'
    have Ho := Lib.hid ho6
    have Q1 := Lib.hid q1
    have Q2 := Lib.hid q2
    clear hl hb6 ho6 q1 q2 D5
    go_wp2_with fail
    go_loopw [9] (fun i wr => ∃ k : Nat, k ≤ ts.length ∧ i = .int .i64 k ∧ (∀ t ∈ ts.take k, (t.off : Int) ≠ d0.off) ∧ Hid (Below w6.heap.size w6 wr)) (fun i _ => ts.length - (intOf i).toNat)
    case atStart => exact ⟨0, by omega, rfl, by simp, Lib.hid (Below.refl _ _)⟩
    case round =>
      obtain ⟨k, hk, rfl, hno, Hbr⟩ := hrel
      have Hno := Lib.hid hno
      clear hno
      have q1 := Q1.out
      have q2 := Q2.out
      rw [← Hbr.out.cell (p := ⟨b, o, none⟩) hbl] at q1
      rw [← Hbr.out.cell (p := ⟨b, o + 1, none⟩) hbl] at q2
      have HS := Lib.hid (symsAt_below HS.out Hbr.out (symsAt_lt HS.out))
      have HB := Lib.hid (HB.out.trans (Hbr.out.mono HB.out.size))
      by_cases hlt : k < ts.length
      · obtain ⟨t, ht⟩ : ∃ t, ts[k]? = some t := ⟨_, List.getElem?_eq_getElem hlt⟩
        obtain ⟨g, hga, hgw, hx0, hx1, hx2⟩ := toks_cells Ho.out k t ht
        subst hga
        rw [← Hbr.out.cell (p := ⟨g, k * 3, none⟩) hgw] at hx0
        rw [← Hbr.out.cell (p := ⟨g, k * 3 + 1, none⟩) hgw] at hx1
        rw [← Hbr.out.cell (p := ⟨g, k * 3 + 2, none⟩) hgw] at hx2
        have Ht := Lib.hid ht
        clear ht
        by_cases he : (t.off : Int) = d0.off
        · have he' : ((t.off : Int) == d0.off) = true := by rw [he]; exact beq_self_eq_true _
          obtain ⟨r', hr'⟩ := HA.out k t Ht.out he
          have Hr' := Lib.hid hr'
          clear he hr'
          go_upto_region 12 with (go_quiet (fail))
          obtain ⟨w7, hw7⟩ : ∃ W, W = wr.drewN nq := ⟨_, rfl⟩
          have hb7 : Below wr.heap.size wr w7 := by rw [hw7]; exact Below.drewN' (Below.refl _ _) _
          rw [← hw7]
          clear hw7
          have hse := hb7.size
          rw [← hb7.cell (p := ⟨b, o, none⟩) (Nat.lt_of_lt_of_le hbl Hbr.out.size)] at q1
          rw [← hb7.cell (p := ⟨b, o + 1, none⟩) (Nat.lt_of_lt_of_le hbl Hbr.out.size)] at q2
          rw [← hb7.cell (p := ⟨g, k * 3, none⟩) (Nat.lt_of_lt_of_le hgw Hbr.out.size)] at hx0
          rw [← hb7.cell (p := ⟨g, k * 3 + 1, none⟩) (Nat.lt_of_lt_of_le hgw Hbr.out.size)] at hx1
          rw [← hb7.cell (p := ⟨g, k * 3 + 2, none⟩) (Nat.lt_of_lt_of_le hgw Hbr.out.size)] at hx2
          have hbl7 : b < w7.heap.size := by have := Hbr.out.size; omega
          have hgw7 : g < w7.heap.size := by have := Hbr.out.size; omega
          have hgn : ¬ g = w7.heap.size := by omega
          have HS := Lib.hid (symsAt_below HS.out hb7 (symsAt_lt HS.out))
          have HB := Lib.hid (HB.out.trans (hb7.mono HB.out.size))
          have hend : t.off + t.text.length ≤ s.size := (Lx.lex_prefix Hsh.out.2 Ht.out).1
          have hwr : IntKind.i64.wrap ((t.off : Int) + (t.text.length : Int)) = (t.off : Int) + (t.text.length : Int) := IntWalk.i64_in _ (by omega)
          have sl : ∀ W, (Instr.slice 9 (.string s) none (some (.int .i64 ((t.off : Int) + (t.text.length : Int)))) none).run Tryz.prog W = .ok (.string (s.extract 0 (t.off + t.text.length))) W :=
            slice_front s _ _ (by omega) hend
          obtain ⟨Y, hY⟩ : ∃ Y, Px.parse (s.extract 0 (t.off + t.text.length)).data.toList = (Y, d0 :: r') := by
            rw [extract_front]
            exact ⟨_, Prod.ext rfl Hr'.out⟩
          have hz : (s.extract 0 (t.off + t.text.length)).size ≤ maxLen := by
            have e : (s.extract 0 (t.off + t.text.length)).data.toList.length = (s.extract 0 (t.off + t.text.length)).size := rfl
            rw [extract_front, List.length_take] at e
            unfold maxLen
            omega
          have HY := Lib.hid hY
          have Hz := Lib.hid hz
          clear hb7 hY hz
          have n1 := World.new_ne _ _ hx1
          have n2 := World.new_ne _ _ hx2
          go_cut [11] (fun v wx => ∃ a2 dc2, v = .slice a2 (r'.length + 1) dc2 ∧ Hid (DiagsAt wx.heap.size wx a2 (d0 :: r')) ∧ Hid (Below w7.heap.size w7 wx))
          case first =>
            go_region_held3 (fun w' => w'.cell? ⟨g, k * 3 + 1, none⟩ = some (.string ⟨t.text.toArray⟩) ∧ w'.cell? ⟨g, k * 3 + 2, none⟩ = some (.int .i64 t.off)) (go_keep) ((go_at_call 12; refine (parse_any (s.extract 0 (t.off + t.text.length)) _ (symsAt_below HS.out (B := w7.heap.size) (by (repeat (first | exact Below.refl _ _ | refine Below.drew ?_ | refine Below.alloc ?_ (by simp <;> omega) _))) (symsAt_lt HS.out)) Hz.out).mono ?_; intro e w8 hp; rw [HY.out] at hp; obtain ⟨hq8, a8, c8, da8, dc8, rfl, hr8, hd8⟩ := hp; unfold nodeVal; have hb8 : Below w7.heap.size w7 w8 := below_step (by (repeat (first | exact Below.refl _ _ | refine Below.drew ?_ | refine Below.alloc ?_ (by simp <;> omega) _))) hq8; have hs8 := hb8.size; (first | (have zz2 : Var 25 w8 _ #[.int .i64 0, .string ⟨#[]⟩, .string ⟨#[]⟩, .int .i64 0, .int .i64 0, .int .i64 0, .bool false, .slice none 0 0, .int .i64 0] := (hb8.block _ zzl).trans zz; clear zz zzl; have zz := zz2; clear zz2; have zzl := zz.lt) | (refine with_fact (p := Var 25 w8 (w7.heap.size) #[.int .i64 0, .string ⟨#[]⟩, .string ⟨#[]⟩, .int .i64 0, .int .i64 0, .int .i64 0, .bool false, .slice none 0 0, .int .i64 0]) ?_ (fun zz => ?_); (focus (refine (hq8.block _ ?_).trans (Var.new' ?_) <;> (simp <;> omega))); have zzl := zz.lt) | (refine with_fact (p := Var 25 w8 (w7.heap.size) #[.int .i64 0, .string ⟨#[]⟩, .string ⟨#[]⟩, .int .i64 0, .int .i64 0, .int .i64 0, .bool false, .slice none 0 0, .int .i64 0]) ?_ (fun zz => ?_); (focus (refine (hq8.block _ ?_).trans (Var.alloc (Var.new' ?_) _) <;> (simp <;> omega))); have zzl := zz.lt) | (refine with_fact (p := Var 25 w8 (w7.heap.size + 1) #[.int .i64 0, .string ⟨#[]⟩, .string ⟨#[]⟩, .int .i64 0, .int .i64 0, .int .i64 0, .bool false, .slice none 0 0, .int .i64 0]) ?_ (fun zz => ?_); (focus (refine (hq8.block _ ?_).trans (Var.new' ?_) <;> (simp <;> omega))); have zzl := zz.lt) | skip); clear hq8; have hx1' := (hb8.cell (p := ⟨g, k * 3 + 1, none⟩) hgw7).trans hx1; have hx2' := (hb8.cell (p := ⟨g, k * 3 + 2, none⟩) hgw7).trans hx2; have n3 := World.new_ne _ _ hx1'; have n4 := World.new_ne _ _ hx2'; (first | (have zzc := (obj_facts zz).1; have zzf := (obj_facts zz).2) | skip)))
            all_goals go_wp2_with fail
            all_goals go_meet
            all_goals (first
              | (rw [storeN _ _ _ _ _ _ _ _ _ (HasN.of zz (by rfl))]; exact ⟨_, _, rfl, Lib.hid ((diagsAt_setRow hd8 zz (by decide) _).keep (by simp [World.setRow]) (fun _ _ => rfl)), Lib.hid (below_setRow hb8 (Nat.le_refl _) _)⟩)
              | exact ⟨_, _, rfl, Lib.hid (hd8.below ((Below.refl _ _).alloc (Nat.le_refl _) _)), Lib.hid (hb8.alloc hb8.size _)⟩)
          case rest =>
            obtain ⟨a2, dc2, rfl, D9, Hb9⟩ := hcut
            obtain ⟨b2, o2, hda2, hbl2, p1, p2⟩ := D9.out.get (k := 0) (d := d0) rfl
            subst hda2
            simp only [Nat.zero_mul, Nat.add_zero] at p1 p2
            rw [← Hb9.out.cell (p := ⟨b, o, none⟩) hbl7] at q1
            rw [← Hb9.out.cell (p := ⟨b, o + 1, none⟩) hbl7] at q2
            have HB := Lib.hid (HB.out.trans (Hb9.out.mono HB.out.size))
            clear hx0 hx1 hx2 n1 n2 D9 Hb9
            have hgt : decide ((0 : Int) < (r'.length : Int) + 1) = true := decide_eq_true (by omega)
            have ht1 : (0 : Int) < (r'.length : Int) + 1 := by omega
            have ht2 : (0 : Int) < (r.length : Int) + 1 := by omega
            go_wp2_with fail
            go_quiet (fail)
            go_wp2_with fail
            go_ret
            exact ⟨ret_bool (by simp), Below.drewN' HB.out _⟩
        · have he' : ((t.off : Int) == d0.off) = false := beq_eq_false_iff_ne.2 he
          have Hno' := Lib.hid (show ∀ u ∈ ts.take (k + 1), (u.off : Int) ≠ d0.off by
            intro u hu
            rw [take_snoc ts k t Ht.out] at hu
            rcases List.mem_append.1 hu with h | h
            · exact Hno.out u h
            · rw [List.mem_singleton.1 h]; exact he)
          clear he
          go_wp2_with fail
          go_quiet (fail)
          go_wp2_with fail
          go_roundw
          case rel => exact ⟨k + 1, by omega, by go_num, Hno'.out, Lib.hid (by first | exact Below.drewN' Hbr.out _ | exact Hbr.out)⟩
          case measure => simp [intOf]; omega
      · have hd := HN.out (fun t ht => Hno.out t (by rw [List.take_of_length_le (by omega)]; exact ht))
        have e1 : (d0.err == 21) = true := by rw [hd]; rfl
        have e2 : (d0.off == (s.size : Int)) = true := by rw [hd]; exact beq_self_eq_true _
        clear hd
        go_wp2_with fail
        go_ret
        exact ⟨ret_bool (by simp), HB.out⟩
end Go.Proofs.YtlncbemdbpbccaaGreatDoor
