/-
  A walk over the law LexerLayout.
-/
import Derived.Test.YtpggfkdfchafhaaDoorLawBytes
import Derived.Test.YtpggfkdfchafhaaDoorLxLay
import Derived.Test.YtpggfkdfchafhaaDoorLawRow
import Derived.Lib.AppendStr
namespace Go.Proofs.YtpggfkdfchafhaaDoor.LawLayout
open Go.RowKit

set_option maxHeartbeats 1000000 in
theorem gap_any (c : Nat) (w : World) (hc : c ≤ 255) :
    Calls Tryd.prog 16 #[.int .u8 c] w fun e w' => e = .returned (.string ⟨(Lx.gapB (c % 6)).toArray⟩) ∧ Below w.heap.size w w' := by
  obtain ⟨m, hm⟩ : ∃ m, m = c % 6 := ⟨_, rfl⟩
  rw [← hm]
  have hmod : ((c : Int) % 6) = (m : Int) := by rw [hm]; exact (Int.natCast_emod c 6).symm
  have hm6 : m < 6 := by omega
  clear hm
  rcases (show m = 0 ∨ m = 1 ∨ m = 2 ∨ m = 3 ∨ m = 4 ∨ m = 5 from by omega) with rfl | rfl | rfl | rfl | rfl | rfl
  all_goals
    go_enter Tryd.func16, Tryd.ntmps16
    go_wp2
    go_ret
    exact ⟨rfl, (Below.refl _ _).alloc (Nat.le_refl _) _⟩

set_option maxRecDepth 100000 in
set_option maxHeartbeats 1000000 in
theorem walk_bad (s : ByteArray) (x : Value) (w : World) (hS : SymsAt w) (hm : s.size ≤ maxLen) (ts : List Lx.Tok) (k p : Nat) (hk : k ≠ 0) (h : Lx.lex s.data.toList = (ts, k, p)) :
    Calls Tryd.prog 5 #[.string s, x] w fun e w' => e = .returned (.bool true) ∧ Below w.heap.size w w' := by
  have H := Lib.hid h
  have HS := Lib.hid hS
  have Hm := Lib.hid hm
  have hk' : ((k : Int) != 0) = true := by rw [bne_iff_ne]; omega
  clear h hS hm hk
  go_enter Tryd.func5, Tryd.ntmps5
  go_wp2_with fail
  refine (head_true _ HS.out).mono ?_
  rintro e w1 ⟨rfl, hb1⟩
  have Hb1 := Lib.hid hb1
  clear hb1
  go_wp2_with fail
  refine (lexR s _ Hm.out).mono ?_
  intro e w2 hl
  obtain ⟨a, ca, rfl, hb2, ho2⟩ := lexSaid_open H.out hl
  have Hb2 := Lib.hid (below_step Hb1.out (Nat.le_refl _) hb2)
  clear hl hb2 ho2
  go_wp2_with fail
  go_ret
  exact ⟨rfl, Hb2.out⟩

theorem block_of_add (a : Addr) (n : Nat) : (a.add n).block = a.block := by unfold Addr.add; split <;> rfl

/-- the gap behind the token of an index -/
def gapAt (zs : List Int) (i : Nat) : List UInt8 := match zs[i]? with
  | some z => Lx.gapB (z.toNat % 6)
  | none => [32]
theorem gapAt_ok (zs : List Int) (i : Nat) : Lx.OkGap (gapAt zs i) := by
  unfold gapAt
  split
  · exact Lx.gapB_ok _
  · exact Lx.gapB_ok 0

theorem lay_next {zs : List Int} {ts : List Lx.Tok} {k : Nat} {t : Lx.Tok} {bs : List UInt8} (ht : ts[k]? = some t) (hb : bs = Lx.lay (gapAt zs) 0 (ts.take k)) : bs ++ t.text ++ gapAt zs k = Lx.lay (gapAt zs) 0 (ts.take (k + 1)) := by
  rw [List.take_add_one, ht]
  show _ = Lx.lay (gapAt zs) 0 (ts.take k ++ [t])
  have hl : (ts.take k).length = k := by
    have := (List.getElem?_eq_some_iff.1 ht).1
    rw [List.length_take]
    omega
  rw [Lx.lay_snoc, hl, Nat.zero_add, hb]
theorem strCells_bytes (l : List UInt8) : Lib.strCells ⟨l.toArray⟩ = byteVals l := rfl

set_option maxRecDepth 100000 in
set_option maxHeartbeats 2000000 in
theorem walk_good (s : ByteArray) (ga : Option Addr) (gc gn : Nat) (zs : List Int) (hgn : zs.length = gn) (w : World) (hS : SymsAt w) (hm : s.size ≤ maxLen) (ts : List Lx.Tok) (p : Nat) (h : Lx.lex s.data.toList = (ts, 0, p)) (hs : s.size ≤ 4000) (hgl : gn ≤ 9223372036854775807)
    (hz : ∀ z ∈ zs, 0 ≤ z ∧ z ≤ 255) (hgc : ∀ i z, zs[i]? = some z → ∃ ad : Addr, ga = some ad ∧ ad.block < w.heap.size ∧ w.cell? (ad.add i) = some (.int .u8 z)) :
    Calls Tryd.prog 5 #[.string s, .slice ga gn gc] w fun e w' => e = .returned (.bool true) ∧ Below w.heap.size w w' := by
  have H := Lib.hid h
  have hlen := Lx.lex_len_of h
  have HS := Lib.hid hS
  have HH := Lib.hid (symsAt_pos hS)
  have Hm := Lib.hid hm
  have Hgn := Lib.hid hgn
  have Hz := Lib.hid hz
  have Hgc := Lib.hid hgc
  have htx : ∀ x ∈ ts, x.text.length ≤ 4000 := by
    intro x hx
    obtain ⟨k, hk⟩ := List.mem_iff_getElem?.1 hx
    obtain ⟨e', hc⟩ := Lx.chain_at _ _ 0 k x (Lx.lex_chain h) hk
    have h1 : x.off + x.text.length ≤ s.size := hc.2.2.1
    omega
  have Htx := Lib.hid htx
  obtain ⟨i0, hi, hz0, hz1, hz2⟩ := info_parts infoU8
  clear h hS hm hgn hz hgc htx
  go_enter Tryd.func5, Tryd.ntmps5
  go_wp2_with fail
  refine (head_true _ HS.out).mono ?_
  rintro e w1 ⟨rfl, hb1⟩
  have Hb1 := Lib.hid hb1
  clear hb1
  go_wp2_with fail
  refine (lexR s _ Hm.out).mono ?_
  intro e w2 hl
  obtain ⟨a, ca, rfl, hb2, ho2⟩ := lexSaid_open H.out hl
  have Hb2 := Lib.hid (below_step Hb1.out (Nat.le_refl _) hb2)
  have Ho2 := Lib.hid ho2
  clear hl hb2 ho2
  go_wp2_with fail
  go_loopw [9, 10] (fun v i wr => ∃ (k : Nat) (bs : List UInt8), k ≤ ts.length ∧ i = .int .i64 k ∧ Hid (bs = Lx.lay (gapAt zs) 0 (ts.take k)) ∧ bs.length ≤ 9000 ∧ wr.ownsRow w2.heap.size 5 1 v bs.length (byteVals bs) ∧ Below w2.heap.size w2 wr) (fun _ i _ => ts.length - (intOf i).toNat)
  case atStart => exact ⟨0, [], by omega, rfl, Lib.hid rfl, by simp, World.ownsRow_nil _ _ _ _, Below.refl _ _⟩
  case round =>
    obtain ⟨k, bs, hk, rfl, Hbs, hbl, hown, hbr⟩ := hrel
    have hbrs := hbr.size
    obtain ⟨va, vc, hv⟩ := ownsRow_form hown
    subst hv
    by_cases h4 : bs.length ≤ 4000
    · by_cases hlt : k < ts.length
      · obtain ⟨t, ht⟩ : ∃ t, ts[k]? = some t := ⟨_, List.getElem?_eq_getElem hlt⟩
        obtain ⟨g, hga, hgw, hx0, hx1, hx2⟩ := toks_cells Ho2.out k t ht
        subst hga
        rw [← hbr.cell (p := ⟨g, k * 3 + 1, none⟩) hgw] at hx1
        have htl : t.text.length ≤ 4000 := Htx.out t (List.mem_of_getElem? ht)
        have htz : (⟨t.text.toArray⟩ : ByteArray).size = t.text.length := by show t.text.toArray.size = _; simp
        have Ht := Lib.hid ht
        have Htz := Lib.hid htz
        clear ht htz hx0 hx2
        by_cases hgk : k < gn
        · obtain ⟨z, hz⟩ : ∃ z, zs[k]? = some z := ⟨_, List.getElem?_eq_getElem (by rw [Hgn.out]; exact hgk)⟩
          obtain ⟨ad, hgb, hbw, hgcell⟩ := Hgc.out k z hz
          subst hgb
          obtain ⟨hz0', hz1'⟩ := Hz.out z (List.mem_of_getElem? hz)
          obtain ⟨c, rfl⟩ := Int.eq_ofNat_of_zero_le hz0'
          have Hga := Lib.hid (show gapAt zs k = Lx.gapB (c % 6) by unfold gapAt; rw [hz]; rfl)
          clear hz hz0'
          go_wp2_with (at_builtin; (refine Lib.wpList_append_own_string _ rfl (.tmp 36) (.tmp 41) 31 9 rfl w2.heap.size 5 i0 Tryd.underlying31 Tryd.underlying9 hi hz0 hz1 hz2 _ bs.length (byteVals bs) rfl hown ⟨t.text.toArray⟩ rfl (by rw [Htz.out]; unfold maxLen; omega) (by rw [Htz.out]; omega) (by omega) ?_); intro v3 w3 hown3 hgrow3 hnil3; clear hnil3; rw [Htz.out] at hown3; obtain ⟨va3, vc3, hv3⟩ := ownsRow_form hown3; subst hv3; have hb3 := hbr.grown hgrow3 (by omega) (fun j hj => (hown.lt j hj).1); have hz3 := hb3.size; have hc3 := ((below_step Hb2.out (Nat.le_refl _) hb3).cell (p := ad.add k) (by rw [block_of_add]; exact hbw)).trans hgcell)
          obtain ⟨gq, hgq⟩ : ∃ gq, gq = Lx.gapB (c % 6) := ⟨_, rfl⟩
          obtain ⟨_, _, _, _, hql, _⟩ := Lx.gapB_ok (c % 6)
          have hG := gap_any c w3 (by omega)
          rw [← hgq] at hql hG
          have hga := Hga.out
          rw [← hgq] at hga
          have Hga' := Lib.hid hga
          clear hgq hga Hga
          have hqz : (⟨gq.toArray⟩ : ByteArray).size = gq.length := by show gq.toArray.size = _; simp
          refine hG.mono ?_
          rintro e w4 ⟨rfl, hb4⟩
          have hown3' := ownsRow_below hown3 hb4
          have hbb4 := below_step hb3 (Nat.le_refl _) hb4
          have hz4 := hbb4.size
          go_wp2_with (at_builtin; (refine Lib.wpList_append_own_string _ rfl (.tmp 47) (.tmp 52) 31 9 rfl w2.heap.size 5 i0 Tryd.underlying31 Tryd.underlying9 hi hz0 hz1 hz2 _ (bs.length + t.text.length) _ rfl hown3' ⟨gq.toArray⟩ rfl (by rw [hqz]; unfold maxLen; omega) (by rw [hqz]; omega) (by omega) ?_); intro v5 w5 hown5 hgrow5 hnil5; clear hnil5; rw [hqz] at hown5)
          rw [strCells_bytes, strCells_bytes, ← byteVals_append, ← byteVals_append] at hown5
          have hb5 := hbb4.grown hgrow5 (by omega) (fun j hj => (hown3'.lt j hj).1)
          have hle : (bs ++ t.text ++ gq).length = bs.length + t.text.length + gq.length := by simp [Nat.add_assoc]
          exact ⟨⟨k + 1, bs ++ t.text ++ gq, by omega, by go_num, Lib.hid (by rw [← Hga'.out]; exact lay_next Ht.out Hbs.out), by rw [hle]; omega, by rw [hle]; exact hown5, hb5⟩, by simp [intOf]; omega⟩
        · have hgz : zs[k]? = none := List.getElem?_eq_none (by rw [Hgn.out]; omega)
          have Hga := Lib.hid (show gapAt zs k = [32] by unfold gapAt; rw [hgz])
          clear hgz
          go_wp2_with (first | (at_builtin; (refine Lib.wpList_append_own_string _ rfl (.tmp 36) (.tmp 41) 31 9 rfl w2.heap.size 5 i0 Tryd.underlying31 Tryd.underlying9 hi hz0 hz1 hz2 _ bs.length (byteVals bs) rfl hown ⟨t.text.toArray⟩ rfl (by rw [Htz.out]; unfold maxLen; omega) (by rw [Htz.out]; omega) (by omega) ?_); intro v3 w3 hown3 hgrow3 hnil3; clear hnil3; rw [Htz.out] at hown3; obtain ⟨va3, vc3, hv3⟩ := ownsRow_form hown3; subst hv3; have hb3 := hbr.grown hgrow3 (by omega) (fun j hj => (hown.lt j hj).1); have hz3 := hb3.size) | (at_builtin; (refine wpList_append_own _ rfl (.tmp 54) (.tmp 55) 31 rfl w2.heap.size 5 i0 (.int .u8 0) 1 1 Tryd.underlying31 hi hz0 hz1 hz2 rfl (by decide) _ _ _ rfl (hown3.alloc _) ⟨w3.heap.size, 0, none⟩ 1 1 [.int .u8 32] rfl rfl (cell_one_new _ _ _) (fun x hx => by simp at hx; subst hx; rfl) (by unfold maxLen; omega) (by omega) (by simp; omega) ?_); intro v4 w4 hown4 hgrow4 hnil4; clear hnil4))
          rw [strCells_bytes, ← byteVals_append, show ([.int .u8 32] : List Value) = byteVals [32] from rfl, ← byteVals_append] at hown4
          have hb4 := (hb3.alloc hz3 _).grown hgrow4 (by simp; omega) (fun j hj => (hown3.lt j hj).1)
          have hle : (bs ++ t.text ++ [32]).length = bs.length + t.text.length + 1 := by simp [Nat.add_assoc]
          exact ⟨⟨k + 1, bs ++ t.text ++ [32], by omega, by go_num, Lib.hid (by rw [← Hga.out]; exact lay_next Ht.out Hbs.out), by rw [hle]; omega, by rw [hle]; exact hown4, hb4⟩, by simp [intOf]; omega⟩
      · obtain rfl : k = ts.length := by omega
        rw [List.take_length] at Hbs
        have hls : bs.length ≤ 4000 := h4
        obtain ⟨ts', hl', hkeys⟩ := Lx.lex_lay (gapAt zs) (gapAt_ok zs) ts (Lx.lex_alone H.out) hlen (by rw [← Hbs.out]; exact h4)
        rw [← Hbs.out] at hl'
        have Hl' := Lib.hid hl'
        have Hkeys := Lib.hid hkeys
        have hlen' := Lx.keys_len hkeys
        have hcv := conv_own hown
        have hms : (⟨bs.toArray⟩ : ByteArray).size ≤ maxLen := by
          show bs.toArray.size ≤ maxLen
          rw [List.size_toArray]
          unfold maxLen
          omega
        have Hms := Lib.hid hms
        have Hbr := Lib.hid (below_step Hb2.out (Nat.le_refl _) hbr)
        have Ho2' := Lib.hid (ownsRow_below Ho2.out hbr)
        clear hl' hkeys hms hown hbr
        go_wp2_with fail
        refine (lexP ⟨bs.toArray⟩ _ (symsAt_below HS.out Hbr.out HH.out) Hms.out).mono ?_
        intro e w3 hl
        obtain ⟨b, cb, rfl, hb3, ho3⟩ := lexSaid_open Hl'.out hl
        have Hb3 := Lib.hid (below_step Hbr.out (Nat.le_refl _) hb3)
        have Ho23 := Lib.hid (ownsRow_below Ho2'.out hb3)
        have Ho3 := Lib.hid ho3
        clear hl hb3 ho3
        go_wp2_with fail
        go_loopw [14] (fun i wl => ∃ k : Nat, k ≤ ts.length ∧ i = .int .i64 k ∧ Hid (Below w3.heap.size w3 wl)) (fun i _ => ts.length - (intOf i).toNat)
        case atStart => exact ⟨0, by omega, rfl, Lib.hid (Below.refl _ _)⟩
        case round =>
          obtain ⟨k, hk2, rfl, Hbl⟩ := hrel
          by_cases hlt2 : k < ts.length
          · obtain ⟨t, ht⟩ : ∃ t, ts[k]? = some t := ⟨_, List.getElem?_eq_getElem hlt2⟩
            obtain ⟨t', ht', hkd, htx⟩ := Lx.keys_at Hkeys.out k t ht
            obtain ⟨g, hga, hgw, hx0, hx1, hx2⟩ := toks_cells Ho23.out k t ht
            obtain ⟨g', hgb, hgw', hy0, hy1, hy2⟩ := toks_cells Ho3.out k t' ht'
            subst hga
            subst hgb
            rw [hkd] at hy0
            rw [htx] at hy1
            rw [← Hbl.out.cell (p := ⟨g, k * 3, none⟩) hgw] at hx0
            rw [← Hbl.out.cell (p := ⟨g, k * 3 + 1, none⟩) hgw] at hx1
            rw [← Hbl.out.cell (p := ⟨g', k * 3, none⟩) hgw'] at hy0
            rw [← Hbl.out.cell (p := ⟨g', k * 3 + 1, none⟩) hgw'] at hy1
            clear ht ht' hkd htx hx2 hy2 hlen' hls h4 hlt
            go_wp2_with fail
            go_quiet (fail)
            go_wp2_with fail
            go_roundw
            case rel => exact ⟨k + 1, by omega, by go_num, Lib.hid (by first | exact below_drewN Hbl.out _ | exact Hbl.out)⟩
            case measure => simp [intOf]; omega
          · go_wp2_with fail
            go_ret
            exact ⟨rfl, below_step Hb3.out (Nat.le_refl _) Hbl.out⟩
    · have Hbr := Lib.hid (below_step Hb2.out (Nat.le_refl _) hbr)
      by_cases hlt : k < ts.length
      · go_wp2_with fail
        go_ret
        exact ⟨rfl, Hbr.out⟩
      · go_wp2_with fail
        go_ret
        exact ⟨rfl, Hbr.out⟩

theorem walk (s : ByteArray) (ga : Option Addr) (gc gn : Nat) (zs : List Int) (w : World) (hS : SymsAt w) (hm : s.size ≤ maxLen) (hgn : zs.length = gn) (hgl : gn ≤ 9223372036854775807) (hz : ∀ z ∈ zs, 0 ≤ z ∧ z ≤ 255)
    (hgc : ∀ i z, zs[i]? = some z → ∃ ad : Addr, ga = some ad ∧ ad.block < w.heap.size ∧ w.cell? (ad.add i) = some (.int .u8 z)) :
    Calls Tryd.prog 5 #[.string s, .slice ga gn gc] w fun e w' => e = .returned (.bool true) ∧ Below w.heap.size w w' := by
  obtain ⟨ts, k, p, h⟩ : ∃ ts k p, Lx.lex s.data.toList = (ts, k, p) := ⟨_, _, _, rfl⟩
  by_cases hk : k = 0
  · subst hk
    rcases Nat.lt_or_ge 4000 s.size with hs | hs
    · have := Lx.lex_big _ (show 4000 < s.data.toList.length from hs)
      rw [h] at this
      cases this
    · exact walk_good s ga gc gn zs hgn w hS hm ts p h hs hgl hz hgc
  · exact walk_bad s _ w hS hm ts k p hk h

end Go.Proofs.YtpggfkdfchafhaaDoor.LawLayout
