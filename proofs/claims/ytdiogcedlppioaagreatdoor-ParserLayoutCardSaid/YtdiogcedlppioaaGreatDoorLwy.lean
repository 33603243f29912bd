/-
  The walk over ParserLayout.
-/
import Derived.Test.YtdiogcedlppioaaGreatDoorLyc
import Derived.Test.YtdiogcedlppioaaGreatDoorRgn
import Derived.OwnWalk
import Derived.Deep.AppendLies
import Derived.Deep.RegionHeld3
import Derived.BigQuiet
set_option linter.unusedVariables false
set_option linter.unusedSimpArgs false
namespace Go.Proofs.YtdiogcedlppioaaGreatDoor
open Go.RowKit
open Px (St T D Res)

set_option maxRecDepth 100000 in
set_option maxHeartbeats 4000000 in
theorem layoutp_walk (s : ByteArray) (ga : Option Addr) (gc gn : Nat) (zs : List Int) (w : World) (hS : SymsAt w) (hM : MaxAt w) (hm : s.size ≤ maxLen) (hgn : zs.length = gn) (hgl : gn ≤ 9223372036854775807) (hz : ∀ z ∈ zs, 0 ≤ z ∧ z ≤ 255)
    (hgc : ∀ i z, zs[i]? = some z → ∃ ad : Addr, ga = some ad ∧ ad.block < w.heap.size ∧ w.cell? (ad.add i) = some (.int .u8 z)) :
    Calls Tryz.prog 6 #[.string s, .slice ga gn gc] w fun e w' => e = .returned (.bool true) ∧ Below w.heap.size w w' := by
  obtain ⟨i0, hi, hz0, hz1, hz2⟩ := info_parts info_int
  have HS := Lib.hid hS
  have HM := Lib.hid hM
  have HB := Lib.hid (Below.refl w.heap.size w)
  have Hm := Lib.hid hm
  have Hgn := Lib.hid hgn
  have Hz := Lib.hid hz
  have Hgc := Lib.hid hgc
  clear hS hM hm hgn hz hgc
  go_enter Tryz.func6, Tryz.ntmps6
  go_wp2_with fail
  refine (head_any w HS.out HM.out).mono ?_
  rintro e w1 ⟨rfl, hb1⟩
  have HS' := Lib.hid (symsAt_below HS.out hb1 (symsAt_lt HS.out))
  clear HS
  have HS := HS'
  clear HS'
  have HM' := Lib.hid (HM.out.below hb1 HM.out.lt)
  clear HM
  have HM := HM'
  clear HM'
  have HB' := Lib.hid (HB.out.trans (hb1.mono HB.out.size))
  clear HB
  have HB := HB'
  clear HB'
  clear hb1
  rcases short_cases s with ⟨ts, hsh⟩ | hno
  rotate_left
  · go_wp2_with fail
    refine (short_no s w1 Hm.out hno).mono ?_
    rintro e w2 ⟨rfl, hb2⟩
    have HS' := Lib.hid (symsAt_below HS.out hb2 (symsAt_lt HS.out))
    clear HS
    have HS := HS'
    clear HS'
    have HM' := Lib.hid (HM.out.below hb2 HM.out.lt)
    clear HM
    have HM := HM'
    clear HM'
    have HB' := Lib.hid (HB.out.trans (hb2.mono HB.out.size))
    clear HB
    have HB := HB'
    clear HB'
    go_wp2_with fail
    go_ret
    exact ⟨ret_bool (by simp), HB.out⟩
  have Hsh := Lib.hid hsh
  have hsz := hsh.1
  clear hsh
  go_wp2_with fail
  refine (short_yes s w1 Hsh.out).mono ?_
  rintro e w2 ⟨rfl, hb2⟩
  have HS' := Lib.hid (symsAt_below HS.out hb2 (symsAt_lt HS.out))
  clear HS
  have HS := HS'
  clear HS'
  have HM' := Lib.hid (HM.out.below hb2 HM.out.lt)
  clear HM
  have HM := HM'
  clear HM'
  have HB' := Lib.hid (HB.out.trans (hb2.mono HB.out.size))
  clear HB
  have HB := HB'
  clear HB'
  clear hb2
  go_wp2_with fail
  refine (lexR s _ Hm.out).mono ?_
  intro e w3 hl
  obtain ⟨a, ca, rfl, hb3, ho3⟩ := lexSaid_open Hsh.out.2 hl
  have HS' := Lib.hid (symsAt_below HS.out hb3 (symsAt_lt HS.out))
  clear HS
  have HS := HS'
  clear HS'
  have HM' := Lib.hid (HM.out.below hb3 HM.out.lt)
  clear HM
  have HM := HM'
  clear HM'
  have HB' := Lib.hid (HB.out.trans (hb3.mono HB.out.size))
  clear HB
  have HB := HB'
  clear HB'
  have Ho := Lib.hid ho3
  have hlen := Lx.lex_len_of Hsh.out.2
  clear hl hb3 ho3
  have htx : ∀ x ∈ ts, x.text.length ≤ 4000 := by
    intro x hx
    obtain ⟨k, hk⟩ := List.mem_iff_getElem?.1 hx
    have := (Lx.lex_prefix Hsh.out.2 hk).1
    have : s.data.toList.length = s.size := rfl
    omega
  have Htx := Lib.hid htx
  clear htx
  obtain ⟨gp, hgp⟩ : ∃ gp, gp = Lx.gapIn zs := ⟨_, rfl⟩
  have Hgp := Lib.hid hgp
  have Hok := Lib.hid (show ∀ i, Lx.OkGap (gp i) from by rw [hgp]; exact Lx.gapIn_ok zs)
  clear hgp
  go_upto_region 7 with (at_make; (refine wpList_make_own _ rfl _ _ 40 rfl w3.heap.size 3 i0 (.int .i64 0) 1 Tryz.underlying40 hi hz0 hz1 .i64 .i64 _ ts.length rfl rfl rfl (by rw [hz2]; omega) (by unfold maxLen; omega) (Nat.le_refl _) ?_); intro w4 hown4 hgrow4)
  have hb4 : Below w3.heap.size w3 w4 := (Below.refl _ _).grown hgrow4 (Nat.le_refl _) (fun j hj => by cases hj)
  have Hown4 := Lib.hid hown4
  have Hb4 := Lib.hid hb4
  have hbs4 := hb4.size
  clear hown4 hgrow4 hb4
  go_wp2_with fail
  go_loopw [9, 10, 11] (fun vo va i wr => ∃ (k : Nat) (bs : List UInt8), k ≤ ts.length ∧ i = .int .i64 k ∧ vo = .string ⟨bs.toArray⟩ ∧ Hid (bs = Lx.lay2 gp 0 (ts.take k)) ∧ LayLen k bs.length ∧ Hid (wr.ownsRow w3.heap.size 3 1 va k (offsV (Lx.newOff gp ts) k)) ∧ Hid (Below w3.heap.size w3 wr)) (fun _ _ i _ => ts.length - (intOf i).toNat)
  case atStart => exact ⟨0, [], by omega, rfl, rfl, Lib.hid rfl, ⟨by simp⟩, Lib.hid Hown4.out, Lib.hid Hb4.out⟩
  case round =>
    obtain ⟨k, bs, hk, rfl, rfl, Hbs, hbl, Hown, Hbr⟩ := hrel
    have hbrs := Hbr.out.size
    obtain ⟨va, vc, rfl⟩ := ownsRow_form Hown.out
    by_cases hlt : k < ts.length
    · obtain ⟨t, ht⟩ : ∃ t, ts[k]? = some t := ⟨_, List.getElem?_eq_getElem hlt⟩
      have htl : t.text.length ≤ 4000 := Htx.out t (List.mem_of_getElem? ht)
      have Ht := Lib.hid ht
      clear ht
      have hgz : (gp k).length ≤ 13 := by obtain ⟨_, _, _, _, h, _⟩ := Hok.out k; exact h
      obtain ⟨gq, hgq⟩ : ∃ gq, gq = gp k := ⟨_, rfl⟩
      have Hgq := Lib.hid hgq
      rw [← hgq] at hgz
      clear hgq
      have hmx := hbl.max (by omega : k ≤ 1500)
      go_upto_if 43 with (fail)
      go_cut [9] (fun v wx => v = .string ⟨(bs ++ gq).toArray⟩ ∧ Hid (Below wr.heap.size wr wx))
      case first =>
        by_cases hgk : k < gn
        · obtain ⟨z, hz⟩ : ∃ z, zs[k]? = some z := ⟨_, List.getElem?_eq_getElem (by rw [Hgn.out]; exact hgk)⟩
          obtain ⟨ad, hgb, hbw, hgcell⟩ := Hgc.out k z hz
          subst hgb
          obtain ⟨hz0', hz1'⟩ := Hz.out z (List.mem_of_getElem? hz)
          obtain ⟨c, rfl⟩ := Int.eq_ofNat_of_zero_le hz0'
          have Hga := Lib.hid (show gq = Lx.gapP (c % 5) by rw [Hgq.out, Hgp.out]; unfold Lx.gapIn; rw [hz]; rfl)
          have hcc := (((HB.out.trans (Hbr.out.mono HB.out.size)) : Below w.heap.size w wr).cell (p := ad.add k) (by rw [block_of_add]; exact hbw)).trans hgcell
          have hc5 : c ≤ 255 := by omega
          clear hz hz0' hz1' hgcell
          go_wp2_with fail
          refine (gap2_any c _ hc5).mono ?_
          rintro e w5 ⟨rfl, hb5⟩
          rw [← Hga.out]
          have Hb5 := Lib.hid hb5
          clear hb5
          go_wp2_with fail
          go_meet
          rw [ba_app]
          exact ⟨rfl, Lib.hid Hb5.out⟩
        · have Hga := Lib.hid (show gq = [32] by rw [Hgq.out, Hgp.out]; unfold Lx.gapIn; rw [List.getElem?_eq_none (by rw [Hgn.out]; omega)])
          go_wp2_with fail
          go_meet
          rw [Hga.out, show ({ data := #[32] } : ByteArray) = ⟨([32] : List UInt8).toArray⟩ from rfl, ba_app]
          exact ⟨rfl, Lib.hid (Below.refl _ _)⟩
      case rest =>
        obtain ⟨rfl, Hb5⟩ := hcut
        obtain ⟨w5, hw5⟩ : ∃ W, W = wc := ⟨_, rfl⟩
        subst hw5
        have Hbr := Lib.hid (Hbr.out.trans (Hb5.out.mono Hbr.out.size))
        have Hown := Lib.hid (ownsRow_below Hown.out Hb5.out)
        have hs5 := Hb5.out.size
        obtain ⟨g, hga, hgw, hx0, hx1, hx2⟩ := toks_cells Ho.out k t Ht.out
        subst hga
        clear hx0 hx2
        obtain ⟨G, hG⟩ : ∃ G : ByteArray, G = ⟨(bs ++ gq).toArray⟩ := ⟨_, rfl⟩
        have hGs : G.size = Lx.newOff gp ts k := by
          rw [hG]
          show (bs ++ gq).toArray.size = _
          unfold Lx.newOff
          rw [← Hbs.out, ← Hgq.out]
          simp
        have Hnew := Lib.hid (show G ++ ⟨t.text.toArray⟩ = (⟨(bs ++ gq ++ t.text).toArray⟩ : ByteArray) by rw [hG, ba_app])
        have Hlay := Lib.hid (show bs ++ gq ++ t.text = Lx.lay2 gp 0 (ts.take (k + 1)) by rw [Lx.lay2_next Ht.out, ← Hbs.out, ← Hgq.out])
        have Hlen := Lib.hid (hbl.next hgz htl)
        rw [← hG]
        have HGs := Lib.hid hGs
        have hGl : ¬ (9223372036854775807 < G.size + t.text.length) := by
          have e : G.size = bs.length + gq.length := by rw [hG]; show (bs ++ gq).toArray.size = _; simp
          omega
        clear hG hGs hbl hgz htl hmx
        have hk1 : (k : Int) < (ts.length : Int) := by omega
        have hk0 : (0 : Int) ≤ (k : Int) := Int.natCast_nonneg _
        go_upto_region 14 with (at_builtin; (refine wpList_append_lies _ rfl (.tmp 53) (.tmp 56) 40 rfl w3.heap.size 3 i0 (.int .i64 0) 1 8 Tryz.underlying40 hi hz0 hz1 hz2 rfl (by decide) _ k _ rfl (Hown.out.alloc _) ⟨w5.heap.size, 0, none⟩ 1 1 [.int .i64 G.size] rfl rfl (World.news_of_block (cs := #[.int .i64 G.size]) (obj_new w5 _)) (by simp [Value.oneCell']) (by decide) (by unfold maxLen; omega) (by omega) (by simp; omega) _ rfl ?_); intro g6 cap6 w6 hown6 hgrow6 hlie6 hlt6)
        have hb6 : Below w3.heap.size w5 w6 := ((Below.refl _ _).alloc (by omega) _).grown hgrow6 (by simp; omega) (fun j hj => (Hown.out.lt j hj).1)
        have Hb6 := Lib.hid (Hbr.out.trans hb6)
        have hx1' := (Hb6.out.cell (p := ⟨g, k * 3 + 1, none⟩) hgw).trans hx1
        rw [HGs.out, ← offsV_next] at hown6
        have Hown6 := Lib.hid hown6
        clear hb6 hgrow6 hlie6 hlt6 hx1 hown6
        go_wp2_with fail
        refine ⟨⟨k + 1, bs ++ gq ++ t.text, by omega, by go_num, ?_, Hlay, ?_, Hown6, Hb6⟩, by simp [intOf]; omega⟩
        · rw [Hnew.out]
        · have := Hlen.out
          rw [List.length_append, List.length_append]
          exact this
    · obtain rfl : k = ts.length := by omega
      rw [List.take_length] at Hbs
      have HB := Lib.hid (HB.out.trans (Hbr.out.mono HB.out.size))
      have HS := Lib.hid (symsAt_below HS.out Hbr.out (symsAt_lt HS.out))
      have HM := Lib.hid (HM.out.below Hbr.out HM.out.lt)
      have Ho := Lib.hid (ownsRow_below Ho.out Hbr.out)
      obtain ⟨O, hO⟩ : ∃ O : ByteArray, O = ⟨bs.toArray⟩ := ⟨_, rfl⟩
      have hOd : O.data.toList = bs := by rw [hO]
      have hOs : O.size = bs.length := by rw [hO]; show bs.toArray.size = _; simp
      have HOd := Lib.hid hOd
      have hmx := hbl.max hlen
      have hOm : O.size ≤ maxLen := by rw [hOs]; unfold maxLen; omega
      have HOs := Lib.hid hOs
      have HOm := Lib.hid hOm
      rw [← hO]
      clear hO hOd hOs hOm hbl hmx
      clear Hown4 Hb4 hbs4
      rcases short_cases O with ⟨us, hsh2⟩ | hno
      rotate_left
      · go_wp2_with fail
        refine (short_no O wr HOm.out hno).mono ?_
        rintro e w5 ⟨rfl, hb5⟩
        have HB := Lib.hid (HB.out.trans (hb5.mono HB.out.size))
        go_wp2_with fail
        go_ret
        exact ⟨ret_bool (by simp), HB.out⟩
      have hO4 := hsh2.1
      have HF := Lib.hid (show ∀ X d Y d', Px.parse s.data.toList = (X, d) → Px.parse O.data.toList = (Y, d') → Px.Laid ts (Lx.newOff gp ts) s.data.toList.length O.size X Y d d' by
        intro X d Y d' hX hY
        rw [HOd.out, Hbs.out] at hY
        have h := Px.laid Hsh.out.2 gp Hok.out (by rw [← Hbs.out, ← HOs.out]; exact hO4) hX hY
        rw [← Hbs.out, ← HOs.out] at h
        exact h)
      go_wp2_with fail
      refine (short_yes O wr hsh2).mono ?_
      rintro e w5 ⟨rfl, hb5⟩
      have HS' := Lib.hid (symsAt_below HS.out hb5 (symsAt_lt HS.out))
      clear HS
      have HS := HS'
      clear HS'
      have HM' := Lib.hid (HM.out.below hb5 HM.out.lt)
      clear HM
      have HM := HM'
      clear HM'
      have HB' := Lib.hid (HB.out.trans (hb5.mono HB.out.size))
      clear HB
      have HB := HB'
      clear HB'
      have Ho := Lib.hid (ownsRow_below Ho.out hb5)
      have Hown := Lib.hid (ownsRow_below Hown.out hb5)
      clear hb5 hsh2 Hbs
      go_wp2_with fail
      refine (parse_any s w5 HS.out Hm.out).mono ?_
      intro e w6 hp
      obtain ⟨X, d, hX⟩ : ∃ X d, Px.parse s.data.toList = (X, d) := ⟨_, _, rfl⟩
      rw [hX] at hp
      have HX := Lib.hid hX
      clear hX
      obtain ⟨hb6, a6, c6, da, dc, rfl, hr6, hd6⟩ := hp
      have HS' := Lib.hid (symsAt_below HS.out hb6 (symsAt_lt HS.out))
      clear HS
      have HS := HS'
      clear HS'
      have HM' := Lib.hid (HM.out.below hb6 HM.out.lt)
      clear HM
      have HM := HM'
      clear HM'
      have HB' := Lib.hid (HB.out.trans (hb6.mono HB.out.size))
      clear HB
      have HB := HB'
      clear HB'
      have D13 := Lib.hid hd6
      have Ho := Lib.hid (ownsRow_below Ho.out hb6)
      have Hown := Lib.hid (ownsRow_below Hown.out hb6)
      obtain ⟨w7, hw7⟩ : ∃ W, W = w6.alloc (.cells #[.int .i64 X.kind, .string ⟨X.name.toArray⟩, .string ⟨X.other.toArray⟩, .int .i64 X.n, .int .i64 X.len, .int .i64 X.init, .bool X.ghost, .slice a6 X.kids.length c6, .int .i64 X.off] 25) := ⟨_, rfl⟩
      have hb7 : Below w6.heap.size w6 w7 := by rw [hw7]; exact (Below.refl _ _).alloc (Nat.le_refl _) _
      have T12 := Lib.hid (show Tr w7 w6.heap.size X by rw [hw7]; exact Tr.new hr6 rfl)
      have HS' := Lib.hid (symsAt_below HS.out hb7 (symsAt_lt HS.out))
      clear HS
      have HS := HS'
      clear HS'
      have HM' := Lib.hid (HM.out.below hb7 HM.out.lt)
      clear HM
      have HM := HM'
      clear HM'
      have HB' := Lib.hid (HB.out.trans (hb7.mono HB.out.size))
      clear HB
      have HB := HB'
      clear HB'
      have D13' := Lib.hid (D13.out.below hb7)
      clear D13
      have D13 := D13'
      clear D13'
      have Ho := Lib.hid (ownsRow_below Ho.out hb7)
      have Hown := Lib.hid (ownsRow_below Hown.out hb7)
      clear hb6 hr6 hd6 hb7
      unfold nodeVal
      go_upto_region 18 with (fail)
      rw [← hw7]
      clear hw7
      go_wp2_with fail
      refine (parse_any O w7 HS.out HOm.out).mono ?_
      intro e w8 hp
      obtain ⟨Y, d', hY⟩ : ∃ Y d, Px.parse O.data.toList = (Y, d) := ⟨_, _, rfl⟩
      rw [hY] at hp
      have HY := Lib.hid hY
      clear hY
      obtain ⟨hb8, a8, c8, ea, ec, rfl, hr8, hd8⟩ := hp
      have HS' := Lib.hid (symsAt_below HS.out hb8 (symsAt_lt HS.out))
      clear HS
      have HS := HS'
      clear HS'
      have HM' := Lib.hid (HM.out.below hb8 HM.out.lt)
      clear HM
      have HM := HM'
      clear HM'
      have HB' := Lib.hid (HB.out.trans (hb8.mono HB.out.size))
      clear HB
      have HB := HB'
      clear HB'
      have T12' := Lib.hid (T12.out.below hb8)
      clear T12
      have T12 := T12'
      clear T12'
      have D13' := Lib.hid (D13.out.below hb8)
      clear D13
      have D13 := D13'
      clear D13'
      have D15 := Lib.hid hd8
      have Ho := Lib.hid (ownsRow_below Ho.out hb8)
      have Hown := Lib.hid (ownsRow_below Hown.out hb8)
      obtain ⟨w9, hw9⟩ : ∃ W, W = w8.alloc (.cells #[.int .i64 Y.kind, .string ⟨Y.name.toArray⟩, .string ⟨Y.other.toArray⟩, .int .i64 Y.n, .int .i64 Y.len, .int .i64 Y.init, .bool Y.ghost, .slice a8 Y.kids.length c8, .int .i64 Y.off] 25) := ⟨_, rfl⟩
      have hb9 : Below w8.heap.size w8 w9 := by rw [hw9]; exact (Below.refl _ _).alloc (Nat.le_refl _) _
      have T14 := Lib.hid (show Tr w9 w8.heap.size Y by rw [hw9]; exact Tr.new hr8 rfl)
      have HS' := Lib.hid (symsAt_below HS.out hb9 (symsAt_lt HS.out))
      clear HS
      have HS := HS'
      clear HS'
      have HM' := Lib.hid (HM.out.below hb9 HM.out.lt)
      clear HM
      have HM := HM'
      clear HM'
      have HB' := Lib.hid (HB.out.trans (hb9.mono HB.out.size))
      clear HB
      have HB := HB'
      clear HB'
      have T12' := Lib.hid (T12.out.below hb9)
      clear T12
      have T12 := T12'
      clear T12'
      have D13' := Lib.hid (D13.out.below hb9)
      clear D13
      have D13 := D13'
      clear D13'
      have D15' := Lib.hid (D15.out.below hb9)
      clear D15
      have D15 := D15'
      clear D15'
      have Ho := Lib.hid (ownsRow_below Ho.out hb9)
      have Hown := Lib.hid (ownsRow_below Hown.out hb9)
      clear hb8 hr8 hd8 hb9
      unfold nodeVal
      go_upto_region 19 with (fail)
      rw [← hw9]
      clear hw9
      have HL := Lib.hid (HF.out X d Y d' HX.out HY.out)
      obtain ⟨a12, c12, z12, r12⟩ := T12.out
      have z12l := z12.lt
      obtain ⟨z12c, z12f⟩ := obj_facts z12
      have R12 := Lib.hid r12
      clear r12
      obtain ⟨a14, c14, z14, r14⟩ := T14.out
      have z14l := z14.lt
      obtain ⟨z14c, z14f⟩ := obj_facts z14
      have R14 := Lib.hid r14
      clear r14
      have hfx := few_parse s.data.toList HX.out
      have hfy := few_parse O.data.toList HY.out
      have Hfx := Lib.hid hfx
      have Hfy := Lib.hid hfy
      have hsX : Px.size X ≤ 3001 := by
        have := Px.parse_size (src := s.data.toList)
        rw [HX.out] at this
        exact this
      have hsY : Px.size Y ≤ 3001 := by
        have := Px.parse_size (src := O.data.toList)
        rw [HY.out] at this
        exact this
      have hne : ((d.length : Int) != (d'.length : Int)) = false := by rw [HL.out.len]; simp
      have HXY := Lib.hid HL.out.strip
      clear hfx hfy
      go_cut [101] (fun v wx => v = .bool false ∧ Hid (Below w9.heap.size w9 wx))
      case first =>
        refine wp_region_held_drew (S := (fun w' => Below w9.heap.size w9 w')) (by kernel_rfl) ((Below.refl _ _).drew) (fun hHeld => ?_)
        refine take_in (i := 0) (v := .slice da d.length dc) rfl (by kernel_rfl) (by kernel_rfl) (by kernel_rfl) (fun _ _ _ h => h) (by rfl) (fun _ _ => by first | rfl | (go_simp; done)) hHeld ?_
        (try simp only [Act.put, List.setIfInBounds_toArray, List.set_cons_zero, List.set_cons_succ])
        refine take_in (i := 1) (v := .int .i64 d.length) rfl (by kernel_rfl) (by kernel_rfl) (by kernel_rfl) (fun _ _ _ h => h) (by rfl) (fun _ _ => by first | rfl | (go_simp; done)) hHeld ?_
        (try simp only [Act.put, List.setIfInBounds_toArray, List.set_cons_zero, List.set_cons_succ])
        refine take_in (i := 2) (v := .slice ea d'.length ec) rfl (by kernel_rfl) (by kernel_rfl) (by kernel_rfl) (fun _ _ _ h => h) (by rfl) (fun _ _ => by first | rfl | (go_simp; done)) hHeld ?_
        (try simp only [Act.put, List.setIfInBounds_toArray, List.set_cons_zero, List.set_cons_succ])
        refine take_in (i := 3) (v := .int .i64 d'.length) rfl (by kernel_rfl) (by kernel_rfl) (by kernel_rfl) (fun _ _ _ h => h) (by rfl) (fun _ _ => by first | rfl | (go_simp; done)) hHeld ?_
        (try simp only [Act.put, List.setIfInBounds_toArray, List.set_cons_zero, List.set_cons_succ])
        refine take_in (i := 4) (v := .bool false) rfl (by kernel_rfl) (by kernel_rfl) (by kernel_rfl) (fun _ _ _ h => h) (by rfl) (fun _ _ => by first | rfl | (go_simp; done)) hHeld ?_
        (try simp only [Act.put, List.setIfInBounds_toArray, List.set_cons_zero, List.set_cons_succ])
        refine take_in (i := 5) (v := .bool false) rfl (by kernel_rfl) (by kernel_rfl) (by kernel_rfl) (fun _ _ _ h => h) (by rfl) (fun _ _ => by first | rfl | (go_simp; done)) hHeld ?_
        (try simp only [Act.put, List.setIfInBounds_toArray, List.set_cons_zero, List.set_cons_succ])
        refine take_in (i := 6) rfl (by kernel_rfl) (by kernel_rfl) (by kernel_rfl) (fun _ _ _ h => h) (by rfl) (fun w' hb => run_loadN (b := w6.heap.size) (by rfl) (by rfl) ((hb.block _ z12l).trans z12)) hHeld ?_
        (try simp only [Act.put, List.setIfInBounds_toArray, List.set_cons_zero, List.set_cons_succ])
        refine call_in (i := 7) (f := 13) (args := #[nodeVal X (.slice a12 X.kids.length c12), .int .i64 4000]) (by kernel_rfl) rfl (by rfl) (by first | rfl | (go_simp; done) | (simp only [nodeVal]; go_simp; done)) ?_
        refine (few_any X 4000 a12 c12 _ (by decide) (by decide) (R12.out.next hHeld)).mono ?_
        rintro e wa ⟨rfl, hq1⟩
        rw [Hfx.out]
        refine ⟨_, rfl, (below_step hHeld hq1), fun hHeld => ?_⟩
        (try simp only [Act.put, List.setIfInBounds_toArray, List.set_cons_zero, List.set_cons_succ])
        refine take_in (i := 8) (v := .bool false) rfl (by kernel_rfl) (by kernel_rfl) (by kernel_rfl) (fun _ _ _ h => h) (by rfl) (fun _ _ => by first | rfl | (go_simp; done)) hHeld ?_
        (try simp only [Act.put, List.setIfInBounds_toArray, List.set_cons_zero, List.set_cons_succ])
        refine take_in (i := 9) (v := .bool false) rfl (by kernel_rfl) (by kernel_rfl) (by kernel_rfl) (fun _ _ _ h => h) (by rfl) (fun _ _ => by first | rfl | (go_simp; done)) hHeld ?_
        (try simp only [Act.put, List.setIfInBounds_toArray, List.set_cons_zero, List.set_cons_succ])
        refine take_in (i := 10) (v := .bool false) rfl (by kernel_rfl) (by kernel_rfl) (by kernel_rfl) (fun _ _ _ h => h) (by rfl) (fun _ _ => by first | rfl | (go_simp; done)) hHeld ?_
        (try simp only [Act.put, List.setIfInBounds_toArray, List.set_cons_zero, List.set_cons_succ])
        refine take_in (i := 11) rfl (by kernel_rfl) (by kernel_rfl) (by kernel_rfl) (fun _ _ _ h => h) (by rfl) (fun w' hb => run_loadN (b := w8.heap.size) (by rfl) (by rfl) ((hb.block _ z14l).trans z14)) hHeld ?_
        (try simp only [Act.put, List.setIfInBounds_toArray, List.set_cons_zero, List.set_cons_succ])
        refine call_in (i := 12) (f := 13) (args := #[nodeVal Y (.slice a14 Y.kids.length c14), .int .i64 4000]) (by kernel_rfl) rfl (by rfl) (by first | rfl | (go_simp; done) | (simp only [nodeVal]; go_simp; done)) ?_
        refine (few_any Y 4000 a14 c14 _ (by decide) (by decide) (R14.out.next hHeld)).mono ?_
        rintro e wb ⟨rfl, hq2⟩
        rw [Hfy.out]
        refine ⟨_, rfl, (below_step hHeld hq2), fun hHeld => ?_⟩
        (try simp only [Act.put, List.setIfInBounds_toArray, List.set_cons_zero, List.set_cons_succ])
        refine take_in (i := 13) (v := .bool false) rfl (by kernel_rfl) (by kernel_rfl) (by kernel_rfl) (fun _ _ _ h => h) (by rfl) (fun _ _ => by first | rfl | (go_simp; done)) hHeld ?_
        (try simp only [Act.put, List.setIfInBounds_toArray, List.set_cons_zero, List.set_cons_succ])
        refine take_in (i := 14) (v := .bool false) rfl (by kernel_rfl) (by kernel_rfl) (by kernel_rfl) (fun _ _ _ h => h) (by rfl) (fun _ _ => by first | rfl | (go_simp; done)) hHeld ?_
        (try simp only [Act.put, List.setIfInBounds_toArray, List.set_cons_zero, List.set_cons_succ])
        refine take_in (i := 15) (v := .bool false) rfl (by kernel_rfl) (by kernel_rfl) (by kernel_rfl) (fun _ _ _ h => h) (by rfl) (fun _ _ => by first | rfl | (go_simp; done)) hHeld ?_
        (try simp only [Act.put, List.setIfInBounds_toArray, List.set_cons_zero, List.set_cons_succ])
        refine take_in (i := 16) rfl (by kernel_rfl) (by kernel_rfl) (by kernel_rfl) (fun _ _ _ h => h) (by rfl) (fun w' hb => run_loadN (b := w6.heap.size) (by rfl) (by rfl) ((hb.block _ z12l).trans z12)) hHeld ?_
        (try simp only [Act.put, List.setIfInBounds_toArray, List.set_cons_zero, List.set_cons_succ])
        refine take_in (i := 18) rfl (by kernel_rfl) (by kernel_rfl) (by kernel_rfl) (fun _ _ _ h => h) (by rfl) (fun w' hb => run_loadN (b := w8.heap.size) (by rfl) (by rfl) ((hb.block _ z14l).trans z14)) hHeld ?_
        (try simp only [Act.put, List.setIfInBounds_toArray, List.set_cons_zero, List.set_cons_succ])
        refine call_in (i := 17) (f := 21) (args := #[nodeVal X (.slice a12 X.kids.length c12)]) (by kernel_rfl) rfl (by rfl) (by first | rfl | (go_simp; done) | (simp only [nodeVal]; go_simp; done)) ?_
        refine (rstrip_any (Px.size X) X a12 c12 _ (Nat.le_refl _) (by omega) (R12.out.next hHeld)).mono ?_
        rintro e wx ⟨hq3, ax, cx, rfl, hrx⟩
        have HRx := Lib.hid hrx.read
        refine ⟨_, rfl, (below_step hHeld hq3), fun hHeld => ?_⟩
        (try simp only [Act.put, List.setIfInBounds_toArray, List.set_cons_zero, List.set_cons_succ])
        refine call_in (i := 19) (f := 21) (args := #[nodeVal Y (.slice a14 Y.kids.length c14)]) (by kernel_rfl) rfl (by rfl) (by first | rfl | (go_simp; done) | (simp only [nodeVal]; go_simp; done)) ?_
        refine (rstrip_any (Px.size Y) Y a14 c14 _ (Nat.le_refl _) (by omega) (R14.out.next hHeld)).mono ?_
        rw [← HXY.out]
        rintro e wy ⟨hq4, ay, cy, rfl, hry⟩
        have HRy := Lib.hid hry.read
        have HRx := Lib.hid (HRx.out.next hq4)
        refine ⟨_, rfl, (below_step hHeld hq4), fun hHeld => ?_⟩
        (try simp only [Act.put, List.setIfInBounds_toArray, List.set_cons_zero, List.set_cons_succ])
        refine call_in (i := 20) (f := 17) (args := #[nodeVal (stripT X) (.slice ax (stripT X).kids.length cx), nodeVal (stripT X) (.slice ay (stripT X).kids.length cy)]) (by kernel_rfl) rfl (by rfl) (by first | rfl | (go_simp; done) | (simp only [nodeVal]; go_simp; done)) ?_
        refine (same_any (Px.size (stripT X)) (stripT X) ax ay cx cy _ (Nat.le_refl _) HRx.out HRy.out).mono ?_
        rintro e wz ⟨rfl, hq5⟩
        refine ⟨_, rfl, (below_step hHeld hq5), fun hHeld => ?_⟩
        (try simp only [Act.put, List.setIfInBounds_toArray, List.set_cons_zero, List.set_cons_succ])
        refine take_in (i := 21) (v := .bool false) rfl (by kernel_rfl) (by kernel_rfl) (by kernel_rfl) (fun _ _ _ h => h) (by rfl) (fun _ _ => by first | rfl | (go_simp; done)) hHeld ?_
        (try simp only [Act.put, List.setIfInBounds_toArray, List.set_cons_zero, List.set_cons_succ])
        refine take_in (i := 22) (v := .bool false) rfl (by kernel_rfl) (by kernel_rfl) (by kernel_rfl) (fun _ _ _ h => h) (by rfl) (fun _ _ => by first | rfl | (go_simp; done)) hHeld ?_
        (try simp only [Act.put, List.setIfInBounds_toArray, List.set_cons_zero, List.set_cons_succ])
        refine wpAnyH_done (by kernel_rfl) ?_ _
        go_wp2_with fail
        go_meet
        exact ⟨rfl, Lib.hid hHeld⟩
      case rest =>
        obtain ⟨rfl, Hb10⟩ := hcut
        obtain ⟨w10, hw10⟩ : ∃ W, W = wc := ⟨_, rfl⟩
        subst hw10
        have HB := Lib.hid (HB.out.trans (Hb10.out.mono HB.out.size))
        have D13 := Lib.hid (D13.out.below Hb10.out)
        have D15 := Lib.hid (D15.out.below Hb10.out)
        have Ho := Lib.hid (ownsRow_below Ho.out Hb10.out)
        have Hown := Lib.hid (ownsRow_below Hown.out Hb10.out)
        clear T12 T14 z12 z12l z12c z12f R12 z14 z14l z14c z14f R14 hne HXY HS HM Hfx Hfy HY HF hsX hsY HOd HOm
        have hd20 : d.length ≤ 20 := by
          have h := Px.parse_num Hsh.out.2
          rw [HX.out] at h
          exact h
        clear HX
        go_wp2_with fail
        go_loopw [16] (fun i wr => ∃ n : Nat, n ≤ d.length ∧ i = .int .i64 n ∧ Hid (Below w10.heap.size w10 wr)) (fun i _ => d.length - (intOf i).toNat)
        case atStart => exact ⟨0, by omega, rfl, Lib.hid (Below.refl _ _)⟩
        case round =>
          obtain ⟨n, hn, rfl, Hbn⟩ := hrel
          by_cases hlt : n < d.length
          · skip
            obtain ⟨x, hx⟩ : ∃ x, d[n]? = some x := ⟨_, List.getElem?_eq_getElem hlt⟩
            obtain ⟨y, hy, hw⟩ := HL.out.each n x hx
            have hlt' : n < d'.length := (List.getElem?_eq_some_iff.1 hy).1
            have Hw := Lib.hid hw
            obtain ⟨b1, o1, hb1, hbl1, p1, p2⟩ := D13.out.get hx
            obtain ⟨b2, o2, hb2, hbl2, q1, q2⟩ := D15.out.get hy
            subst hb1
            subst hb2
            rw [hw.1] at q1
            have P1 := Lib.hid p1
            have P2 := Lib.hid p2
            have Q1 := Lib.hid q1
            have Q2 := Lib.hid q2
            have hn0 : (0 : Int) ≤ (n : Int) := Int.natCast_nonneg _
            have hn1 : (n : Int) < (d.length : Int) := by omega
            have hn2 : (n : Int) < (d'.length : Int) := by omega
            clear hx hy hw p1 p2 q1 q2
            obtain ⟨F, hF⟩ : ∃ F, F = O.size := ⟨_, rfl⟩
            go_wp2_with fail
            rw [← hF] at Hw ⊢
            clear hF
            go_loopw [17, 18] (fun v i wl => ∃ (k vv : Nat), k ≤ ts.length ∧ i = .int .i64 k ∧ v = .int .i64 vv ∧ Hid (Px.Found ts (Lx.newOff gp ts) F x.off k vv) ∧ Hid (Below w10.heap.size w10 wl)) (fun _ i _ => ts.length - (intOf i).toNat)
            case atStart => exact ⟨0, F, by omega, rfl, rfl, Lib.hid (Px.Found.start _ _ _ _), Hbn⟩
            case round =>
              obtain ⟨k, vv, hk, rfl, rfl, Hf, Hbl⟩ := hrel
              by_cases hlk : k < ts.length
              · obtain ⟨t, ht⟩ : ∃ t, ts[k]? = some t := ⟨_, List.getElem?_eq_getElem hlk⟩
                obtain ⟨g, hga, hgw, hx0, hx1, hx2⟩ := toks_cells Ho.out k t ht
                subst hga
                obtain ⟨g2, hgb, hgw2, hy0⟩ := offs_cell Hown.out hlk
                subst hgb
                have Ht := Lib.hid ht
                have p2 := (Hbl.out.cell (p := ⟨b1, o1 + n * 2 + 1, none⟩) hbl1).trans P2.out
                have hx2' := (Hbl.out.cell (p := ⟨g, k * 3 + 2, none⟩) hgw).trans hx2
                have hy0' := (Hbl.out.cell (p := ⟨g2, k, none⟩) hgw2).trans hy0
                have hk0 : (0 : Int) ≤ (k : Int) := Int.natCast_nonneg _
                have hk1 : (k : Int) < (ts.length : Int) := by omega
                clear hx0 hx1 hx2 hy0 ht
                by_cases he : (t.off : Int) = x.off
                · have he' : ((t.off : Int) == x.off) = true := by rw [he]; exact beq_self_eq_true _
                  have Hf' := Lib.hid (Px.Found.hit (at_ := Lx.newOff gp ts) (F := F) Ht.out he)
                  clear he
                  go_wp2_with fail
                  go_quiet (fail)
                  go_wp2_with fail
                  go_roundw
                  case rel => exact ⟨k + 1, Lx.newOff gp ts k, by omega, by go_num, rfl, Hf', Lib.hid (by first | exact Below.drewN' Hbl.out _ | exact Hbl.out)⟩
                  case measure => simp [intOf]; omega
                · have he' : ((t.off : Int) == x.off) = false := beq_eq_false_iff_ne.2 he
                  have Hf' := Lib.hid (Px.Found.miss Ht.out he Hf.out)
                  clear he
                  go_wp2_with fail
                  go_quiet (fail)
                  go_wp2_with fail
                  go_roundw
                  case rel => exact ⟨k + 1, vv, by omega, by go_num, rfl, Hf', Lib.hid (by first | exact Below.drewN' Hbl.out _ | exact Hbl.out)⟩
                  case measure => simp [intOf]; omega
              · obtain rfl : k = ts.length := by omega
                have hdone := Px.Found.done Hsh.out.2 Hf.out Hw.out
                have p1 := (Hbl.out.cell (p := ⟨b1, o1 + n * 2, none⟩) hbl1).trans P1.out
                have p2 := (Hbl.out.cell (p := ⟨b1, o1 + n * 2 + 1, none⟩) hbl1).trans P2.out
                have q1 := (Hbl.out.cell (p := ⟨b2, o2 + n * 2, none⟩) hbl2).trans Q1.out
                have q2 := (Hbl.out.cell (p := ⟨b2, o2 + n * 2 + 1, none⟩) hbl2).trans Q2.out
                have hee : (x.err != x.err) = false := by simp
                have hcase : ((x.err == 2) = true ∧ (x.off == 0) = true) ∨ ((x.err == 2) = false ∧ y.off = (vv : Int)) ∨ ((x.err == 2) = true ∧ (x.off == 0) = false ∧ y.off = (vv : Int)) := by
                  by_cases h1 : x.err = 2
                  · by_cases h2 : x.off = 0
                    · exact .inl ⟨by rw [h1]; rfl, by rw [h2]; rfl⟩
                    · exact .inr (.inr ⟨by rw [h1]; rfl, beq_eq_false_iff_ne.2 h2, hdone.resolve_left (fun h => h2 h.2)⟩)
                  · exact .inr (.inl ⟨beq_eq_false_iff_ne.2 h1, hdone.resolve_left (fun h => h1 h.1)⟩)
                have Hcase := Lib.hid hcase
                have HB := Lib.hid (HB.out.trans (Hbl.out.mono HB.out.size))
                clear hdone hcase
                go_upto_region 30 with (fail)
                rcases Hcase.out with ⟨e1, e2⟩ | ⟨e1, e3⟩ | ⟨e1, e2, e3⟩
                · go_wp2_with fail
                  go_quiet (fail)
                  go_wp2_with fail
                  go_roundw
                  case rel => exact ⟨n + 1, by omega, by go_num, Lib.hid (by first | exact Below.drewN' Hbl.out _ | exact Hbl.out)⟩
                  case measure => simp [intOf]; omega
                · rw [e3] at q2
                  have hev : ((vv : Int) != (vv : Int)) = false := by simp
                  clear e3
                  go_wp2_with fail
                  go_quiet (fail)
                  go_wp2_with fail
                  go_roundw
                  case rel => exact ⟨n + 1, by omega, by go_num, Lib.hid (by first | exact Below.drewN' Hbl.out _ | exact Hbl.out)⟩
                  case measure => simp [intOf]; omega
                · rw [e3] at q2
                  have hev : ((vv : Int) != (vv : Int)) = false := by simp
                  clear e3
                  go_wp2_with fail
                  go_quiet (fail)
                  go_wp2_with fail
                  go_roundw
                  case rel => exact ⟨n + 1, by omega, by go_num, Lib.hid (by first | exact Below.drewN' Hbl.out _ | exact Hbl.out)⟩
                  case measure => simp [intOf]; omega
          · go_wp2_with fail
            go_ret
            exact ⟨ret_bool (by simp), HB.out.trans (Hbn.out.mono HB.out.size)⟩
end Go.Proofs.YtdiogcedlppioaaGreatDoor
