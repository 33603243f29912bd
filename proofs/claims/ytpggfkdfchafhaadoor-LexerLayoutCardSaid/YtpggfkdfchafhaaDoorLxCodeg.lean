/-
  A walk over the program's Lex.
-/
import Derived.Test.YtpggfkdfchafhaaDoorLxCodef
namespace Go.Proofs.YtpggfkdfchafhaaDoor
open Go.RowKit

set_option maxHeartbeats 400000 in
theorem plex_big (s : ByteArray) (w : World) (h : 4000 < s.size) (hm : s.size ≤ maxLen) : Calls Tryd.prog 11 #[.string s] w (LexSaid s.data.toList w) := by
  unfold maxLen at hm
  go_enter Tryd.func11, Tryd.ntmps11
  go_wp2
  go_ret3
  exact lexSaid_of (Lx.lex_big _ h) (Below.refl _ _) (World.ownsRow_nil _ _ _ _)

set_option maxRecDepth 100000 in
set_option maxHeartbeats 1000000 in
theorem plex_small (s : ByteArray) (w : World) (hs : s.size ≤ 4000) (hS : SymsAt w) : Calls Tryd.prog 11 #[.string s] w (LexSaid s.data.toList w) := by
  have HH := symsAt_pos hS
  have HS := Lib.hid hS
  clear hS
  have hlen : s.data.toList.length = s.size := rfl
  have hstart := Lx.lex_rest s.data.toList (by omega)
  have hk0 := Lx.skip_le s.data.toList false
  obtain ⟨k0, hk0e⟩ : ∃ k, k = Lx.skip false s.data.toList := ⟨_, rfl⟩
  rw [← hk0e] at hstart hk0
  rw [hlen] at hstart hk0
  have Hk0 := Lib.hid hk0e
  have Hstart := Lib.hid hstart
  clear hk0e hstart hlen
  obtain ⟨i0, hi, hz0, hz1, hz2⟩ := info_parts infoTok
  go_enter Tryd.func11, Tryd.ntmps11
  go_wp2_with (go_at_call 20; refine (gap_int s 0 0 k0 _ rfl (by omega) hs (by rw [Hk0.out]; simp)).mono ?_; rintro e w' ⟨rfl, rfl⟩)
  go_loopw [5, 6] (fun v p wr => ∃ (acc : List Lx.Tok) (k f : Nat), k ≤ s.size ∧ acc.length ≤ 1500 ∧ p = .int .i64 k ∧ wr.ownsRow w.heap.size 30 3 v acc.length (toksCells acc) ∧ Below w.heap.size w wr ∧ s.size - k < f ∧ Lx.lex s.data.toList = Lx.rest f s.data.toList k acc) (fun _ p _ => s.size - (intOf p).toNat)
  case atStart => exact ⟨[], k0, s.size + 1, hk0, by simp, rfl, World.ownsRow_nil _ _ _ _, Below.refl _ _, by omega, Hstart.out⟩
  case round =>
    obtain ⟨acc, k, f, hk, hacc, rfl, hown, hb, hf, hr⟩ := hrel
    obtain ⟨va, cap, hv⟩ := ownsRow_form hown
    subst hv
    have Hr := Lib.hid hr
    clear hr
    by_cases hlt : k < s.size
    · have hf0 : 0 < f := by omega
      by_cases hc : acc.length = 1500
      · have Hfull := Lib.hid (Lx.rest_full f _ k acc hlt hf0 hc)
        have hge : 1500 ≤ acc.length := by omega
        clear hc
        go_wp2
        go_ret3
        exact lexSaid_of (by rw [Hr.out, Hfull.out]) hb (World.ownsRow_nil _ _ _ _)
      · have hc' : acc.length < 1500 := by omega
        cases ht : Lx.tok (s.data.toList.drop k) with
        | none =>
          have Hn := Lib.hid (Lx.rest_none f _ k acc hlt hf0 hc ht)
          have Ht := Lib.hid ht
          clear hc ht
          go_wp2_with (go_at_call 21; refine (tokenAt_no s k _ hlt hs (symsAt_below HS.out hb HH) Ht.out).mono ?_; rintro e w1 ⟨hb1, k1, p1, tx, rfl⟩; obtain ⟨hc1, hf1⟩ := bcell hb1)
          go_ret3
          exact lexSaid_of (by rw [Hr.out, Hn.out]) (hb.trans ((hb1.mono hb.size).alloc (by have := hb.size; have := hb1.size; omega) _)) (World.ownsRow_nil _ _ _ _)
        | some kn =>
          obtain ⟨kd, n⟩ := kn
          obtain ⟨hn0, hn1, hn2, hn3⟩ := Lx.rest_some f _ k acc kd n hlt (by show s.size - k < f; exact hf) hc ht
          have Hs := Lib.hid hn3
          have Ht := Lib.hid ht
          obtain ⟨g, hg⟩ : ∃ g, g = k + n + Lx.skip false (s.data.toList.drop (k + n)) := ⟨_, rfl⟩
          have hn1' : k + n ≤ s.size := hn1
          have hg' : g ≤ s.size := by
            have h1 := Lx.skip_le (s.data.toList.drop (k + n)) false
            have h2 : s.data.toList.length = s.size := rfl
            rw [List.length_drop] at h1
            omega
          have hn2' : s.size - g < f - 1 := by rw [hg]; exact hn2
          have hkg : k < g := by omega
          have Hg := Lib.hid hg
          have hbs := hb.size
          clear hc ht hn1 hn2 hn3 hg
          go_wp2_with (first | (go_at_call 21; refine (tokenAt_yes s k _ hlt hs (symsAt_below HS.out hb HH) kd n Ht.out).mono ?_; rintro e w1 ⟨hb1, tx, htz, htx, rfl⟩; obtain ⟨hc1, hf1⟩ := bcell hb1; have hbs1 := hb1.size; have Htx := Lib.hid htx; have Htz := Lib.hid htz; have hxs : tx.size ≤ 4000 := (by omega); clear htx htz) | (at_builtin; go_must (refine wpList_append_own _ rfl _ _ 23 rfl w.heap.size 30 i0 (.agg #[.int .i64 0, .string ByteArray.empty, .int .i64 0]) 3 32 Tryd.underlying23 hi hz0 hz1 hz2 rfl (by decide) _ _ _ rfl (((ownsRow_below hown hb1).alloc _).alloc _) ⟨w1.heap.size + 1, 0, none⟩ 1 1 [.int .i64 kd, .string tx, .int .i64 k] rfl rfl (cell_three_new _ _ _ _ _ _ (by simp)) (fun x hx => by simp at hx; rcases hx with rfl | rfl | rfl <;> rfl) (by unfold maxLen; omega) (by omega) (by simp; omega) ?_); intro v' w3 hown3 hgrow3 hnil3; clear hnil3; have hx3 := (cell_grown hgrow3 w1.heap.size 1 (by simp; omega) (ownBlock_lt hown _ hbs1))) | (go_at_call 20; refine (gap_int s _ (k + n) g _ (by rw [Htz.out]; omega) hn1' hs Hg.out).mono ?_; rintro e w' ⟨rfl, rfl⟩))
          refine ⟨⟨acc ++ [⟨kd, (s.data.toList.drop k).take n, k⟩], g, f - 1, hg', by simp; omega, rfl, ?_, ?_, hn2', by rw [Hr.out, Hs.out, Hg.out]⟩, by simp [intOf]; omega⟩
          · rw [List.length_append, toksCells_snoc]
            have h3 := hown3
            rw [Htx.out] at h3
            exact h3
          · have hbw : Below w.heap.size w w1 := hb.trans (hb1.mono hbs)
            have hb2 := (hbw.alloc (by omega) (.cells #[Value.int .i64 kd, Value.string tx, Value.int .i64 k] 30)).alloc (by simp; omega) (.cells #[Value.int .i64 kd, Value.string tx, Value.int .i64 k] 30)
            exact hb2.grown hgrow3 (by simp; omega) (fun j hj => (hown.lt j hj).1)
    · go_wp2
      go_ret3
      exact lexSaid_of (by rw [Hr.out, Lx.rest_end _ _ _ _ (by show s.size ≤ k; omega)]) hb hown

end Go.Proofs.YtpggfkdfchafhaaDoor
