/-
  A walk over the law LexerLongest.
-/
import Derived.Test.YtpggfkdfchafhaaDoorLawd
import Derived.Test.YtpggfkdfchafhaaDoorLxMore
import Derived.Test.YtpggfkdfchafhaaDoorLawRow
namespace Go.Proofs.YtpggfkdfchafhaaDoor.LawLongest
open Go.RowKit

set_option maxRecDepth 100000 in
set_option maxHeartbeats 1000000 in
theorem walk_other (s : ByteArray) (j : Nat) (w : World) (hS : SymsAt w) (hm : s.size ≤ maxLen) (ts : List Lx.Tok) (k p : Nat) (hk : k ≠ 0) (h : Lx.lex s.data.toList = (ts, k, p)) :
    Calls Tryd.prog 8 #[.string s, .int .u16 j] w fun e w' => e = .returned (.bool true) ∧ Below w.heap.size w w' := by
  have H := Lib.hid h
  have HS := Lib.hid hS
  have HH := Lib.hid (symsAt_pos hS)
  have Hm := Lib.hid hm
  have hk' : ((k : Int) != 0) = true := by rw [bne_iff_ne]; omega
  clear h hS hm hk
  go_enter Tryd.func8, Tryd.ntmps8
  go_wp2_with fail
  refine (head_true _ HS.out).mono ?_
  rintro e w1 ⟨rfl, hb1⟩
  have Hb1 := Lib.hid hb1
  clear hb1
  go_wp2_with fail
  refine (lexR s _ Hm.out).mono ?_
  intro e w2 hl
  obtain ⟨a, ca, rfl, hb2, ho2⟩ := lexSaid_open H.out hl
  have Hb2 := Lib.hid (below_step Hb1.out (Nat.le_refl _) hb2)
  have Ho2 := Lib.hid ho2
  clear hl hb2 ho2
  go_wp2_with fail
  go_ret
  exact ⟨rfl, Hb2.out⟩

set_option maxRecDepth 100000 in
set_option maxHeartbeats 1000000 in
theorem walk_empty (s : ByteArray) (j : Nat) (w : World) (hS : SymsAt w) (hm : s.size ≤ maxLen) (p : Nat) (h : Lx.lex s.data.toList = ([], 0, p)) :
    Calls Tryd.prog 8 #[.string s, .int .u16 j] w fun e w' => e = .returned (.bool true) ∧ Below w.heap.size w w' := by
  have H := Lib.hid h
  have HS := Lib.hid hS
  have HH := Lib.hid (symsAt_pos hS)
  have Hm := Lib.hid hm
  clear h hS hm
  go_enter Tryd.func8, Tryd.ntmps8
  go_wp2_with fail
  refine (head_true _ HS.out).mono ?_
  rintro e w1 ⟨rfl, hb1⟩
  have Hb1 := Lib.hid hb1
  clear hb1
  go_wp2_with fail
  refine (lexR s _ Hm.out).mono ?_
  intro e w2 hl
  obtain ⟨a, ca, rfl, hb2, ho2⟩ := lexSaid_open H.out hl
  have Hb2 := Lib.hid (below_step Hb1.out (Nat.le_refl _) hb2)
  have Ho2 := Lib.hid ho2
  clear hl hb2 ho2
  go_wp2_with fail
  go_ret
  exact ⟨rfl, Hb2.out⟩

theorem more_data (s : ByteArray) (t : Lx.Tok) (h : t.text = (s.data.toList.drop t.off).take t.text.length) : ((⟨t.text.toArray⟩ : ByteArray) ++ s.extract (t.off + t.text.length) (t.off + t.text.length + 1)).data.toList = (s.data.toList.drop t.off).take (t.text.length + 1) := by
  rw [ByteArray.data_append, Array.toList_append, Lib.extract_data]
  show t.text ++ _ = _
  rw [List.take_add, ← h, List.drop_drop]
  congr 2
  omega

set_option maxRecDepth 100000 in
set_option maxHeartbeats 1000000 in
theorem walk_last (s : ByteArray) (j : Nat) (w : World) (hj : j ≤ 65535) (hS : SymsAt w) (hm : s.size ≤ maxLen) (hs : s.size ≤ 4000) (ts : List Lx.Tok) (p : Nat) (h : Lx.lex s.data.toList = (ts, 0, p)) (hne : 0 < ts.length) (t : Lx.Tok) (m : Nat) (hjm : m = j % ts.length) (ht : ts[m]? = some t) (hin : t.off + t.text.length = s.size) :
    Calls Tryd.prog 8 #[.string s, .int .u16 j] w fun e w' => e = .returned (.bool true) ∧ Below w.heap.size w w' := by
  have H := Lib.hid h
  have HS := Lib.hid hS
  have HH := Lib.hid (symsAt_pos hS)
  have Hm := Lib.hid hm
  clear h hS hm
  go_enter Tryd.func8, Tryd.ntmps8
  go_wp2_with fail
  refine (head_true _ HS.out).mono ?_
  rintro e w1 ⟨rfl, hb1⟩
  have Hb1 := Lib.hid hb1
  clear hb1
  go_wp2_with fail
  refine (lexR s _ Hm.out).mono ?_
  intro e w2 hl
  obtain ⟨a, ca, rfl, hb2, ho2⟩ := lexSaid_open H.out hl
  have Hb2 := Lib.hid (below_step Hb1.out (Nat.le_refl _) hb2)
  have Ho2 := Lib.hid ho2
  clear hl hb2 ho2
  obtain ⟨g, hga, hgw, hx0, hx1, hx2⟩ := toks_cells Ho2.out m t ht
  subst hga
  have Ht := Lib.hid ht
  clear ht
  have hlen := Lx.lex_len_of H.out
  have hml : m < ts.length := by rw [hjm]; exact Nat.mod_lt _ hne
  have hmod : ((j : Int) % (ts.length : Int)) = (m : Int) := by rw [hjm]; exact (Int.natCast_emod j ts.length).symm
  have hz : ((ts.length : Int) == 0) = false := beq_eq_false_iff_ne.2 (by omega)
  clear hjm
  have hge : s.size ≤ t.off + t.text.length := by omega
  have hle : t.off + t.text.length ≤ 4000 := by omega
  clear hin
  go_wp2_with fail
  go_ret
  exact ⟨rfl, Hb2.out.alloc Hb2.out.size _⟩

set_option maxRecDepth 100000 in
set_option maxHeartbeats 1000000 in
theorem walk_tok (s : ByteArray) (j : Nat) (w : World) (hj : j ≤ 65535) (hS : SymsAt w) (hm : s.size ≤ maxLen) (hs : s.size ≤ 4000) (ts : List Lx.Tok) (p : Nat) (h : Lx.lex s.data.toList = (ts, 0, p)) (hne : 0 < ts.length) (t : Lx.Tok) (m : Nat) (hjm : m = j % ts.length) (ht : ts[m]? = some t) (hin : t.off + t.text.length < s.size) :
    Calls Tryd.prog 8 #[.string s, .int .u16 j] w fun e w' => e = .returned (.bool true) ∧ Below w.heap.size w w' := by
  have H := Lib.hid h
  have HS := Lib.hid hS
  have HH := Lib.hid (symsAt_pos hS)
  have Hm := Lib.hid hm
  clear h hS hm
  go_enter Tryd.func8, Tryd.ntmps8
  go_wp2_with fail
  refine (head_true _ HS.out).mono ?_
  rintro e w1 ⟨rfl, hb1⟩
  have Hb1 := Lib.hid hb1
  clear hb1
  go_wp2_with fail
  refine (lexR s _ Hm.out).mono ?_
  intro e w2 hl
  obtain ⟨a, ca, rfl, hb2, ho2⟩ := lexSaid_open H.out hl
  have Hb2 := Lib.hid (below_step Hb1.out (Nat.le_refl _) hb2)
  have Ho2 := Lib.hid ho2
  clear hl hb2 ho2
  obtain ⟨g, hga, hgw, hx0, hx1, hx2⟩ := toks_cells Ho2.out m t ht
  subst hga
  have Ht := Lib.hid ht
  clear ht
  have hlen := Lx.lex_len_of H.out
  have hml : m < ts.length := by rw [hjm]; exact Nat.mod_lt _ hne
  have hmod : ((j : Int) % (ts.length : Int)) = (m : Int) := by rw [hjm]; exact (Int.natCast_emod j ts.length).symm
  have hz : ((ts.length : Int) == 0) = false := beq_eq_false_iff_ne.2 (by omega)
  clear hjm
  have hw : IntKind.i64.wrap ((t.off : Int) + (t.text.length : Int) + 1) = (t.off : Int) + (t.text.length : Int) + 1 := IntWalk.i64_in _ (by omega)
  have sl : ∀ W, (Instr.slice 9 (.string s) (some (.int .i64 ((t.off : Int) + (t.text.length : Int)))) (some (.int .i64 ((t.off : Int) + (t.text.length : Int) + 1))) none).run Tryd.prog W = .ok (.string (s.extract (t.off + t.text.length) (t.off + t.text.length + 1))) W :=
    slice_str s _ _ (t.off + t.text.length) (t.off + t.text.length + 1) (by omega) (by omega) (by omega) (by omega)
  go_wp2_with fail
  go_quiet (fail)
  clear hw sl
  go_wp2_with fail
  generalize hMd : ((⟨t.text.toArray⟩ : ByteArray) ++ s.extract (t.off + t.text.length) (t.off + t.text.length + 1)) = M
  have hMl : M.data.toList = (s.data.toList.drop t.off).take (t.text.length + 1) := by
    rw [← hMd]
    have ht2 := (Lx.lex_toks H.out t (List.mem_of_getElem? Ht.out)).2
    exact more_data s t ht2
  have hMs : M.size ≤ maxLen := by
    have e : M.data.toList.length = M.size := rfl
    rw [hMl, List.length_take] at e
    unfold maxLen
    omega
  have HMl := Lib.hid hMl
  have HMs := Lib.hid hMs
  obtain ⟨ks, f, p', hlM⟩ : ∃ ks f p', Lx.lex M.data.toList = (ks, f, p') := ⟨_, _, _, rfl⟩
  have HlM := Lib.hid hlM
  clear hMd hMl hMs hlM
  refine (lexP M _ (symsAt_below HS.out (below_drewN (Hb2.out.alloc Hb2.out.size _) _) HH.out) HMs.out).mono ?_
  intro e w3 hl
  obtain ⟨b, cb, rfl, hb3, ho3⟩ := lexSaid_open HlM.out hl
  have Hb3 := Lib.hid (below_step (below_drewN (Hb2.out.alloc Hb2.out.size _) _) (Nat.le_refl _) hb3)
  have Ho3 := Lib.hid ho3
  clear hl hb3 ho3
  by_cases hf : f = 0
  · subst hf
    by_cases hk : ks.length = 1
    · obtain ⟨t', rfl⟩ : ∃ t', ks = [t'] := List.length_eq_one_iff.1 hk
      obtain ⟨g', hgb, hgw', hy0, hy1, hy2⟩ := toks_cells Ho3.out 0 t' rfl
      subst hgb
      have hne2 := Lx.lex_longest H.out t (List.mem_of_getElem? Ht.out) t' p' (by rw [← HMl.out]; exact HlM.out) hin
      rw [← HMl.out] at hne2
      have hcmp : (t'.text == M.toList) = false := by rw [ByteArray.toList_eq]; exact beq_eq_false_iff_ne.2 hne2
      clear hne2 hk
      go_wp2_with fail
      go_ret
      exact ⟨rfl, Hb3.out⟩
    · have hk' : ((ks.length : Int) != 1) = true := by rw [bne_iff_ne]; omega
      clear hk
      go_wp2_with fail
      go_ret
      exact ⟨rfl, Hb3.out⟩
  · have hf' : ((f : Int) != 0) = true := by rw [bne_iff_ne]; omega
    clear hf
    go_wp2_with fail
    go_ret
    exact ⟨rfl, Hb3.out⟩

theorem walk (s : ByteArray) (x : Int) (w : World) (hS : SymsAt w) (hm : s.size ≤ maxLen) (hx : (Lit.int .u16 x).wf = true) :
    Calls Tryd.prog 8 #[.string s, .int .u16 x] w fun e w' => e = .returned (.bool true) ∧ Below w.heap.size w w' := by
  have hb : 0 ≤ x ∧ x ≤ 65535 := by simpa [Lit.wf, IntKind.min, IntKind.max, IntKind.signed, IntKind.bits] using hx
  obtain ⟨j, rfl⟩ := Int.eq_ofNat_of_zero_le hb.1
  obtain ⟨ts, k, p, h⟩ : ∃ ts k p, Lx.lex s.data.toList = (ts, k, p) := ⟨_, _, _, rfl⟩
  by_cases hk : k = 0
  · subst hk
    cases ts with
    | nil => exact walk_empty s j w hS hm p h
    | cons t0 r =>
      have hs : s.size ≤ 4000 := by
        rcases Nat.lt_or_ge 4000 s.size with hs | hs
        · have := Lx.lex_big _ (show 4000 < s.data.toList.length from hs)
          rw [h] at this
          cases this
        · exact hs
      have hne : 0 < (t0 :: r).length := by simp
      have hlt : j % (t0 :: r).length < (t0 :: r).length := Nat.mod_lt _ hne
      obtain ⟨t, ht⟩ : ∃ t, (t0 :: r)[j % (t0 :: r).length]? = some t := ⟨_, List.getElem?_eq_getElem hlt⟩
      obtain ⟨e', hc⟩ := Lx.chain_at _ _ 0 _ t (Lx.lex_chain h) ht
      have hend : t.off + t.text.length ≤ s.size := hc.2.2.1
      rcases Nat.lt_or_ge (t.off + t.text.length) s.size with hin | hin
      · exact walk_tok s j w (by omega) hS hm hs (t0 :: r) p h hne t _ rfl ht hin
      · exact walk_last s j w (by omega) hS hm hs (t0 :: r) p h hne t _ rfl ht (by omega)
  · exact walk_other s j w hS hm ts k p hk h

end Go.Proofs.YtpggfkdfchafhaaDoor.LawLongest
