/-
  Walks over the laws' small functions: fails, good.
-/
import Derived.Test.YtpggfkdfchafhaaDoorLxCodeg
namespace Go.Proofs.YtpggfkdfchafhaaDoor
open Go.RowKit

theorem lexP (s : ByteArray) (w : World) (hS : SymsAt w) (hm : s.size ≤ maxLen) : Calls Tryd.prog 11 #[.string s] w (LexSaid s.data.toList w) := by
  rcases Nat.lt_or_ge 4000 s.size with h | h
  · exact plex_big s w h hm
  · exact plex_small s w h hS
theorem lexR (s : ByteArray) (w : World) (hm : s.size ≤ maxLen) : Calls Tryd.prog 12 #[.string s] w (LexSaid s.data.toList w) := by
  rcases Nat.lt_or_ge 4000 s.size with h | h
  · exact rlex_big s w h hm
  · exact rlex_small s w h

/-- a lexer's answer with its parts under names -/
theorem lexSaid_open {l : List UInt8} {w : World} {ts : List Lx.Tok} {k p : Nat} (h : Lx.lex l = (ts, k, p)) {e : Ending} {w' : World} (hl : LexSaid l w e w') :
    ∃ (a : Option Addr) (cap : Nat), e = .returned (.tuple #[.slice a ts.length cap, .int .i64 (k : Int), .int .i64 (p : Int)]) ∧ Below w.heap.size w w' ∧ w'.ownsRow w.heap.size 30 3 (.slice a ts.length cap) ts.length (toksCells ts) := by
  obtain ⟨hb, v, he, ho⟩ := hl
  rw [h] at he ho
  obtain ⟨a, cap, rfl⟩ := ownsRow_form ho
  exact ⟨a, cap, he, hb, ho⟩

theorem toksCells_at (l : List Lx.Tok) : ∀ (k j : Nat) (t : Lx.Tok), l[k]? = some t → j < 3 → (toksCells l)[k * 3 + j]? = (tokCells t)[j]? := by
  induction l with
  | nil => intro k j t h; simp at h
  | cons x r ih =>
    intro k j t h hj
    have e : toksCells (x :: r) = tokCells x ++ toksCells r := by simp [toksCells]
    rw [e]
    cases k with
    | zero =>
      simp only [List.getElem?_cons_zero, Option.some.injEq] at h
      subst h
      rw [List.getElem?_append_left (by simp [tokCells]; omega)]
      simp
    | succ k =>
      rw [List.getElem?_append_right (by simp [tokCells]; omega)]
      rw [show (k + 1) * 3 + j - (tokCells x).length = k * 3 + j from by simp [tokCells]; omega]
      exact ih k j t (by simpa using h) hj

/-- the cells of one token of an owned row -/
theorem toks_cells {w : World} {base : Nat} {a : Option Addr} {cap : Nat} {ts : List Lx.Tok} (h : w.ownsRow base 30 3 (.slice a ts.length cap) ts.length (toksCells ts)) (k : Nat) (t : Lx.Tok) (ht : ts[k]? = some t) :
    ∃ g, a = some ⟨g, 0, none⟩ ∧ g < w.heap.size ∧ w.cell? ⟨g, k * 3, none⟩ = some (.int .i64 t.kind) ∧ w.cell? ⟨g, k * 3 + 1, none⟩ = some (.string ⟨t.text.toArray⟩) ∧ w.cell? ⟨g, k * 3 + 2, none⟩ = some (.int .i64 t.off) := by
  have hk : k < ts.length := (List.getElem?_eq_some_iff.1 ht).1
  rcases h.2 with ⟨_, h0⟩ | ⟨g, cap', cur, hv, _, hg, _⟩
  · omega
  · cases hv
    have hc : ∀ j, j < 3 → w.cell? ⟨g, k * 3 + j, none⟩ = (tokCells t)[j]? := by
      intro j hj
      rw [h.cellAt (k * 3 + j) (by omega), toksCells_at ts k j t ht hj]
    exact ⟨g, rfl, (Array.getElem?_eq_some_iff.1 hg).1, hc 0 (by omega), hc 1 (by omega), hc 2 (by omega)⟩

set_option maxHeartbeats 400000 in
theorem fails_yes (s : ByteArray) (p : Nat) (w : World) (hS : SymsAt w) (hm : s.size ≤ maxLen) (h : Lx.lex s.data.toList = ([], 10, p)) :
    Calls Tryd.prog 18 #[.string s, .int .i64 p] w fun e w' => e = .returned (.bool true) ∧ Below w.heap.size w w' := by
  have H := Lib.hid h
  have HS := Lib.hid hS
  have Hm := Lib.hid hm
  clear h hS hm
  go_enter Tryd.func18, Tryd.ntmps18
  go_wp2_with (go_at_call 11; refine (lexP s _ HS.out Hm.out).mono ?_; intro e w' hl; obtain ⟨a, cap, rfl, hb, ho⟩ := lexSaid_open H.out hl; clear hl)
  go_ret
  exact ⟨ret_bool (by simp), by assumption⟩

set_option maxHeartbeats 400000 in
theorem good_yes (s : ByteArray) (w : World) (hm : s.size ≤ maxLen) (ts : List Lx.Tok) (p : Nat) (h : Lx.lex s.data.toList = (ts, 0, p)) :
    Calls Tryd.prog 14 #[.string s] w fun e w' => e = .returned (.bool true) ∧ Below w.heap.size w w' := by
  have H := Lib.hid h
  have Hm := Lib.hid hm
  clear h hm
  go_enter Tryd.func14, Tryd.ntmps14
  go_wp2_with (go_at_call 12; refine (lexR s _ Hm.out).mono ?_; intro e w' hl; obtain ⟨a, cap, rfl, hb, ho⟩ := lexSaid_open H.out hl; clear hl)
  go_ret
  exact ⟨ret_bool (by simp), by assumption⟩

set_option maxHeartbeats 400000 in
theorem good_no (s : ByteArray) (w : World) (hm : s.size ≤ maxLen) (ts : List Lx.Tok) (k p : Nat) (hk : k ≠ 0) (h : Lx.lex s.data.toList = (ts, k, p)) :
    Calls Tryd.prog 14 #[.string s] w fun e w' => e = .returned (.bool false) ∧ Below w.heap.size w w' := by
  have H := Lib.hid h
  have Hm := Lib.hid hm
  have hk' : ((k : Int) == 0) = false := beq_eq_false_iff_ne.2 (by omega)
  clear h hm hk
  go_enter Tryd.func14, Tryd.ntmps14
  go_wp2_with (go_at_call 12; refine (lexR s _ Hm.out).mono ?_; intro e w' hl; obtain ⟨a, cap, rfl, hb, ho⟩ := lexSaid_open H.out hl; clear hl)
  go_ret
  exact ⟨ret_bool (by simp), by assumption⟩

set_option maxHeartbeats 1000000 in
theorem texts_yes (s : ByteArray) (w : World) (g0 c0 : Nat) (hS : SymsAt w) (hm : s.size ≤ maxLen) (ts : List Lx.Tok) (h : Lx.lex s.data.toList = (ts, 0, 0)) (hn : ts.length ≤ 1500) (hg0 : g0 < w.heap.size) (hT : TextsAt w g0 (ts.map (·.text))) :
    Calls Tryd.prog 19 #[.string s, .slice (some ⟨g0, 0, none⟩) ts.length c0] w fun e w' => e = .returned (.bool true) ∧ Below w.heap.size w w' := by
  have H := Lib.hid h
  have HS := Lib.hid hS
  have Hm := Lib.hid hm
  have HT := Lib.hid hT
  clear h hS hm hT
  go_enter Tryd.func19, Tryd.ntmps19
  go_wp2_with (go_at_call 11; refine (lexP s _ HS.out Hm.out).mono ?_; intro e w1 hl; obtain ⟨a, cap, rfl, hb, ho⟩ := lexSaid_open H.out hl; clear hl)
  have Hb := Lib.hid hb
  have Ho := Lib.hid ho
  clear hb ho
  go_loopw [8] (fun i wr => ∃ k : Nat, k ≤ ts.length ∧ i = .int .i64 k ∧ Hid (Below w1.heap.size w1 wr)) (fun i _ => ts.length - (intOf i).toNat)
  case atStart => exact ⟨0, by omega, rfl, Lib.hid (Below.refl _ _)⟩
  case round =>
    obtain ⟨k, hk, rfl, Hbr⟩ := hrel
    by_cases hlt : k < ts.length
    · obtain ⟨t, ht⟩ : ∃ t, ts[k]? = some t := ⟨_, List.getElem?_eq_getElem hlt⟩
      obtain ⟨g, hga, hgw, hcs⟩ := toks_cells Ho.out k t ht
      subst hga
      have hcy : wr.cell? ⟨g0, k, none⟩ = some (.string ⟨t.text.toArray⟩) := by
        rw [Hbr.out.cell (p := ⟨g0, k, none⟩) (by have := Hb.out.size; show g0 < _; omega), Hb.out.cell (p := ⟨g0, k, none⟩) hg0]
        exact HT.out k t.text (by rw [List.getElem?_map, ht]; rfl)
      have hcx : wr.cell? ⟨g, k * 3 + 1, none⟩ = some (.string ⟨t.text.toArray⟩) := by
        rw [Hbr.out.cell (p := ⟨g, k * 3 + 1, none⟩) hgw]
        exact hcs.2.1
      clear ht hcs
      go_wp2
      go_quiet (fail)
      go_wp2
      go_roundw
      case rel => exact ⟨k + 1, by omega, by go_num, Lib.hid (by first | exact below_drewN Hbr.out _ | exact Hbr.out)⟩
      case measure => simp [intOf]; omega
    · go_wp2
      go_ret
      exact ⟨rfl, Hb.out.trans (Hbr.out.mono Hb.out.size)⟩

end Go.Proofs.YtpggfkdfchafhaaDoor
