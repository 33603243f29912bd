/-
  Two slices of the same tokens are the same: a walk over Same.
-/
import Derived.Test.YtpggfkdfchafhaaDoorLawb
namespace Go.Proofs.YtpggfkdfchafhaaDoor
open Go.RowKit

theorem tok_neq (k p : Int) (s : ByteArray) (W : World) : (binOp .neq 30 (.agg #[.int .i64 k, .string s, .int .i64 p]) (.agg #[.int .i64 k, .string s, .int .i64 p])).run Tryd.prog W = .ok (.bool false) W := by
  go_simp

set_option maxHeartbeats 1000000 in
theorem same_yes (a b : Option Addr) (ca cb Ba Bb : Nat) (ts : List Lx.Tok) (w : World) (hn : ts.length ≤ 4000) (ha : w.ownsRow Ba 30 3 (.slice a ts.length ca) ts.length (toksCells ts)) (hb : w.ownsRow Bb 30 3 (.slice b ts.length cb) ts.length (toksCells ts)) :
    Calls Tryd.prog 13 #[.slice a ts.length ca, .slice b ts.length cb] w fun e w' => e = .returned (.bool true) ∧ Below w.heap.size w w' := by
  have Ha := Lib.hid ha
  have Hb := Lib.hid hb
  clear ha hb
  go_enter Tryd.func13, Tryd.ntmps13
  go_wp2
  go_loopw [5] (fun i wr => ∃ k : Nat, k ≤ ts.length ∧ i = .int .i64 k ∧ Hid (Below w.heap.size w wr)) (fun i _ => ts.length - (intOf i).toNat)
  case atStart => exact ⟨0, by omega, rfl, Lib.hid (Below.refl _ _)⟩
  case round =>
    obtain ⟨k, hk, rfl, Hbr⟩ := hrel
    by_cases hlt : k < ts.length
    · obtain ⟨t, ht⟩ : ∃ t, ts[k]? = some t := ⟨_, List.getElem?_eq_getElem hlt⟩
      obtain ⟨g, hga, hgw, hx0, hx1, hx2⟩ := toks_cells Ha.out k t ht
      obtain ⟨g', hgb, hgw', hy0, hy1, hy2⟩ := toks_cells Hb.out k t ht
      subst hga
      subst hgb
      rw [← Hbr.out.cell (p := ⟨g, k * 3, none⟩) hgw] at hx0
      rw [← Hbr.out.cell (p := ⟨g, k * 3 + 1, none⟩) hgw] at hx1
      rw [← Hbr.out.cell (p := ⟨g, k * 3 + 2, none⟩) hgw] at hx2
      rw [← Hbr.out.cell (p := ⟨g', k * 3, none⟩) hgw'] at hy0
      rw [← Hbr.out.cell (p := ⟨g', k * 3 + 1, none⟩) hgw'] at hy1
      rw [← Hbr.out.cell (p := ⟨g', k * 3 + 2, none⟩) hgw'] at hy2
      have hq := tok_neq t.kind t.off ⟨t.text.toArray⟩
      clear ht
      go_wp2
      go_quiet (fail)
      go_wp2
      go_roundw
      case rel => exact ⟨k + 1, by omega, by go_num, Lib.hid (by first | exact below_drewN Hbr.out _ | exact Hbr.out)⟩
      case measure => simp [intOf]; omega
    · go_wp2
      go_ret
      exact ⟨rfl, Hbr.out⟩

end Go.Proofs.YtpggfkdfchafhaaDoor
