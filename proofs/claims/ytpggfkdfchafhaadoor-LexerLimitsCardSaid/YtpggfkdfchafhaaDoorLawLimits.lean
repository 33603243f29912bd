/-
  A walk over the law LexerLimits.
-/
import Derived.Test.YtpggfkdfchafhaaDoorLawBytes
import Derived.Test.YtpggfkdfchafhaaDoorLxPairs
import Derived.Test.YtpggfkdfchafhaaDoorLawRow
namespace Go.Proofs.YtpggfkdfchafhaaDoor.LawLimits
open Go.RowKit

set_option maxRecDepth 100000 in
set_option maxHeartbeats 1000000 in
theorem walk_n (j c n r : Nat) (w : World) (hS : SymsAt w) (hj : j ≤ 65535) (hc : c ≤ 255) (hn : n = j % 2101) (hr : r = c % 26) :
    Calls Tryd.prog 9 #[.int .u16 j, .int .u8 c] w fun e w' => e = .returned (.bool true) ∧ Below w.heap.size w w' := by
  have HS := Lib.hid hS
  have HH := Lib.hid (symsAt_pos hS)
  have hmod : ((j : Int) % 2101) = (n : Int) := by rw [hn]; exact (Int.natCast_emod j 2101).symm
  have hmod2 : ((c : Int) % 26) = (r : Int) := by rw [hr]; exact (Int.natCast_emod c 26).symm
  have hn2 : n ≤ 2100 := by omega
  have hr2 : r ≤ 25 := by omega
  obtain ⟨q, hq⟩ : ∃ q : UInt8, q.toNat = 97 + r := ⟨UInt8.ofNat (97 + r), by rw [UInt8.toNat_ofNat']; omega⟩
  have Hq := Lib.hid hq
  obtain ⟨i0, hi, hz0, hz1, hz2⟩ := info_parts infoU8
  clear hS hn hr hq
  go_enter Tryd.func9, Tryd.ntmps9
  go_wp2_with fail
  refine (head_true _ HS.out).mono ?_
  rintro e w1 ⟨rfl, hb1⟩
  have Hb1 := Lib.hid hb1
  clear hb1
  go_wp2_with fail
  rw [hmod]
  clear hmod
  go_loopw [7, 8] (fun v i wr => ∃ (k : Nat), k ≤ n ∧ i = .int .i64 k ∧ wr.ownsRow w1.heap.size 5 1 v (2 * k) (byteVals (Lx.pairs q k)) ∧ Below w1.heap.size w1 wr) (fun _ i _ => n - (intOf i).toNat)
  case atStart => exact ⟨0, by omega, rfl, World.ownsRow_nil _ _ _ _, Below.refl _ _⟩
  case round =>
    obtain ⟨k, hk, rfl, hown, hbr⟩ := hrel
    have hbs := hbr.size
    by_cases hlt : k < n
    · obtain ⟨va, vc, rfl⟩ := ownsRow_form hown
      go_wp2_with (at_builtin; go_must (refine wpList_append_own _ rfl _ _ 31 rfl w1.heap.size 5 i0 (.int .u8 0) 1 1 Tryd.underlying31 hi hz0 hz1 hz2 rfl (by decide) _ _ _ rfl (hown.alloc _) ⟨wr.heap.size, 0, none⟩ 2 2 [.int .u8 (97 + r), .int .u8 32] rfl rfl (cell_two_new _ _ _ _) (fun x hx => by simp at hx; rcases hx with rfl | rfl <;> rfl) (by unfold maxLen; omega) (by omega) (by simp; omega) ?_); intro v' w3 hown3 hgrow3 hnil3; clear hnil3)
      refine ⟨⟨k + 1, by omega, by go_num, ?_, ?_⟩, by simp [intOf]; omega⟩
      · rw [← Lx.pairs_snoc, byteVals_append, show 2 * (k + 1) = 2 * k + 2 from by omega]
        have e : byteVals [q, 32] = [Value.int .u8 (97 + r), .int .u8 32] := by
          unfold byteVals
          rw [List.map_cons, Hq.out]
          simp
        rw [e]
        exact hown3
      · exact (hbr.alloc hbs _).grown hgrow3 (by simp; omega) (fun j hj => (hown.lt j hj).1)
    · obtain rfl : k = n := by omega
      have Hown := Lib.hid hown
      have Hbr := Lib.hid (below_step Hb1.out (Nat.le_refl _) hbr)
      obtain ⟨va, vc, rfl⟩ := ownsRow_form hown
      have hcv := conv_own (l := Lx.pairs q k) (by rw [Lx.pairs_len]; exact hown)
      have hlq := Lx.pairs_len q k
      have Hl := Lib.hid (Lx.lex_pairs q (by rw [Hq.out]; omega) (by rw [Hq.out]; omega) k)
      have hms : (⟨(Lx.pairs q k).toArray⟩ : ByteArray).size ≤ maxLen := by
        show (Lx.pairs q k).toArray.size ≤ maxLen
        rw [List.size_toArray, hlq]
        unfold maxLen
        omega
      have Hms := Lib.hid hms
      clear hown hbr hlq hms
      obtain ⟨la, lb, lc⟩ := Hl.out
      go_wp2_with fail
      by_cases hA : 4000 < 2 * k
      · have HlA := Lib.hid (la hA)
        clear la lb lc
        refine (lexP ⟨(Lx.pairs q k).toArray⟩ _ (symsAt_below HS.out Hbr.out HH.out) Hms.out).mono ?_
        intro e w3 hl
        obtain ⟨b, cb, rfl, hb3, ho3⟩ := lexSaid_open HlA.out hl
        have Hb3 := Lib.hid (below_step Hbr.out (Nat.le_refl _) hb3)
        clear hl hb3 ho3
        go_wp2_with fail
        go_ret
        exact ⟨rfl, Hb3.out⟩
      · by_cases hB : 1500 < k
        · have HlB := Lib.hid (lb (by omega) hB)
          clear la lb lc
          refine (lexP ⟨(Lx.pairs q k).toArray⟩ _ (symsAt_below HS.out Hbr.out HH.out) Hms.out).mono ?_
          intro e w3 hl
          obtain ⟨b, cb, rfl, hb3, ho3⟩ := lexSaid_open HlB.out hl
          have Hb3 := Lib.hid (below_step Hbr.out (Nat.le_refl _) hb3)
          clear hl hb3 ho3
          go_wp2_with fail
          go_ret
          exact ⟨rfl, Hb3.out⟩
        · obtain ⟨ts, hts, htl⟩ := lc (by omega)
          have HlC := Lib.hid htl
          clear la lb lc htl
          refine (lexP ⟨(Lx.pairs q k).toArray⟩ _ (symsAt_below HS.out Hbr.out HH.out) Hms.out).mono ?_
          intro e w3 hl
          obtain ⟨b, cb, rfl, hb3, ho3⟩ := lexSaid_open HlC.out hl
          have Hb3 := Lib.hid (below_step Hbr.out (Nat.le_refl _) hb3)
          clear hl hb3 ho3
          have htq : ((ts.length : Int) == (k : Int)) = true := beq_iff_eq.2 (by omega)
          clear hts
          go_wp2_with fail
          go_ret
          exact ⟨rfl, Hb3.out⟩

theorem walk (x y : Int) (w : World) (hS : SymsAt w) (hx : (Lit.int .u16 x).wf = true) (hy : (Lit.int .u8 y).wf = true) :
    Calls Tryd.prog 9 #[.int .u16 x, .int .u8 y] w fun e w' => e = .returned (.bool true) ∧ Below w.heap.size w w' := by
  have hb : 0 ≤ x ∧ x ≤ 65535 := by simpa [Lit.wf, IntKind.min, IntKind.max, IntKind.signed, IntKind.bits] using hx
  have hc : 0 ≤ y ∧ y ≤ 255 := by simpa [Lit.wf, IntKind.min, IntKind.max, IntKind.signed, IntKind.bits] using hy
  obtain ⟨j, rfl⟩ := Int.eq_ofNat_of_zero_le hb.1
  obtain ⟨c, rfl⟩ := Int.eq_ofNat_of_zero_le hc.1
  exact walk_n j c _ _ w hS (by omega) (by omega) rfl rfl

end Go.Proofs.YtpggfkdfchafhaaDoor.LawLimits
