/-
  A walk over the reference's Lex.
-/
import Derived.Test.YtpggfkdfchafhaaDoorLxReff
namespace Go.Proofs.YtpggfkdfchafhaaDoor
open Go.RowKit

theorem infoTok : (Tryd.prog.info? 30).map (fun i => (i.zero, i.size, i.bytes)) = some (some (.agg #[.int .i64 0, .string ByteArray.empty, .int .i64 0]), 3, 32) := by kernel_rfl

/-- what a lexer answers: the tokens in a row of its own -/
def LexSaid (l : List UInt8) (w : World) (e : Ending) (w' : World) : Prop :=
  Below w.heap.size w w' ∧ ∃ v : Value, e = .returned (.tuple #[v, .int .i64 ((Lx.lex l).2.1 : Int), .int .i64 ((Lx.lex l).2.2 : Int)]) ∧ w'.ownsRow w.heap.size 30 3 v (Lx.lex l).1.length (toksCells (Lx.lex l).1)

theorem ownsRow_below {w w' : World} {base : Nat} {e : TypeId} {size : Nat} {v : Value} {n : Nat} {xs : List Value} (h : w.ownsRow base e size v n xs) (hb : Below w.heap.size w w') : w'.ownsRow base e size v n xs := by
  refine ⟨h.1, ?_⟩
  rcases h.2 with h | ⟨g, cap, cur, rfl, hb', hg, r⟩
  · exact .inl h
  · exact .inr ⟨g, cap, cur, rfl, hb', by rw [hb.block g (Array.getElem?_eq_some_iff.1 hg).1]; exact hg, r⟩

theorem cell_three_new (W : World) (a b c : Value) (T : TypeId) (B : Nat) (hB : B = W.heap.size) : ∀ j u, [a, b, c][j]? = some u → (W.alloc (.cells #[a, b, c] T)).cell? ((⟨B, 0, none⟩ : Addr).add j) = some u := by
  intro j u h
  subst hB
  have hadd : (⟨W.heap.size, 0, none⟩ : Addr).add j = ⟨W.heap.size, j, none⟩ := by unfold Addr.add; split <;> simp_all
  rw [hadd, cell_of_row _ W.heap.size j _ T (0, 0) (heap_alloc_new W _)]
  simpa using h
/-- a cell of a block that lay there before an append that writes to another block -/
theorem cell_grown {w w' : World} {row : Option Nat} (hg : w.grownBy w' row) (b o : Nat) (hb : b < w.heap.size) (hr : row ≠ some b) : w'.cell? ⟨b, o, none⟩ = w.cell? ⟨b, o, none⟩ :=
  World.cell?_of_block (w := w) (hg.block b hb (fun h => hr h.symm))
theorem ownBlock_lt {w : World} {base : Nat} {e : TypeId} {size : Nat} {v : Value} {n : Nat} {xs : List Value} (h : w.ownsRow base e size v n xs) (b : Nat) (hb : w.heap.size ≤ b) : v.ownBlock ≠ some b := by
  intro hv
  have := (h.lt b hv).2
  omega

theorem ownsRow_form {w : World} {base : Nat} {e : TypeId} {size : Nat} {v : Value} {n : Nat} {xs : List Value} (h : w.ownsRow base e size v n xs) : ∃ a cap, v = .slice a n cap := by
  rcases h.2 with ⟨rfl, rfl⟩ | ⟨g, cap, cur, rfl, _⟩
  · exact ⟨_, _, rfl⟩
  · exact ⟨_, _, rfl⟩

theorem lexSaid_of {l : List UInt8} {w w' : World} {v : Value} {ts : List Lx.Tok} {e p : Nat} (h : Lx.lex l = (ts, e, p)) (hb : Below w.heap.size w w') (ho : w'.ownsRow w.heap.size 30 3 v ts.length (toksCells ts)) :
    LexSaid l w (.returned (.tuple #[v, .int .i64 (e : Int), .int .i64 (p : Int)])) w' := by
  refine ⟨hb, v, ?_, ?_⟩
  · rw [h]
  · rw [h]; exact ho

set_option maxHeartbeats 400000 in
theorem rlex_big (s : ByteArray) (w : World) (h : 4000 < s.size) (hm : s.size ≤ maxLen) : Calls Tryd.prog 12 #[.string s] w (LexSaid s.data.toList w) := by
  unfold maxLen at hm
  go_enter Tryd.func12, Tryd.ntmps12
  go_wp2
  go_ret3
  exact lexSaid_of (Lx.lex_big _ h) (Below.refl _ _) (World.ownsRow_nil _ _ _ _)

set_option maxRecDepth 100000 in
set_option maxHeartbeats 1000000 in
theorem rlex_small (s : ByteArray) (w : World) (hs : s.size ≤ 4000) : Calls Tryd.prog 12 #[.string s] w (LexSaid s.data.toList w) := by
  have hlen : s.data.toList.length = s.size := rfl
  have hstart := Lx.lex_rest s.data.toList (by omega)
  have hk0 := Lx.skip_le s.data.toList false
  obtain ⟨k0, hk0e⟩ : ∃ k, k = Lx.skip false s.data.toList := ⟨_, rfl⟩
  rw [← hk0e] at hstart hk0
  rw [hlen] at hstart hk0
  have Hk0 := Lib.hid hk0e
  have Hstart := Lib.hid hstart
  clear hk0e hstart hlen
  obtain ⟨i0, hi, hz0, hz1, hz2⟩ := info_parts infoTok
  go_enter Tryd.func12, Tryd.ntmps12
  go_wp2_with (go_at_call 22; refine (skip_int s 0 0 k0 _ rfl (by omega) hs (by rw [Hk0.out]; simp)).mono ?_; rintro e w' ⟨rfl, rfl⟩)
  go_loopw [5, 6] (fun v p wr => ∃ (acc : List Lx.Tok) (k f : Nat), k ≤ s.size ∧ acc.length ≤ 1500 ∧ p = .int .i64 k ∧ wr.ownsRow w.heap.size 30 3 v acc.length (toksCells acc) ∧ Below w.heap.size w wr ∧ s.size - k < f ∧ Lx.lex s.data.toList = Lx.rest f s.data.toList k acc) (fun _ p _ => s.size - (intOf p).toNat)
  case atStart => exact ⟨[], k0, s.size + 1, hk0, by simp, rfl, World.ownsRow_nil _ _ _ _, Below.refl _ _, by omega, Hstart.out⟩
  case round =>
    obtain ⟨acc, k, f, hk, hacc, rfl, hown, hb, hf, hr⟩ := hrel
    obtain ⟨va, cap, hv⟩ := ownsRow_form hown
    subst hv
    have Hr := Lib.hid hr
    clear hr
    by_cases hlt : k < s.size
    · have hf0 : 0 < f := by omega
      by_cases hc : acc.length = 1500
      · have Hfull := Lib.hid (Lx.rest_full f _ k acc hlt hf0 hc)
        have hge : 1500 ≤ acc.length := by omega
        clear hc
        go_wp2
        go_ret3
        exact lexSaid_of (by rw [Hr.out, Hfull.out]) hb (World.ownsRow_nil _ _ _ _)
      · have hc' : acc.length < 1500 := by omega
        cases ht : Lx.tok (s.data.toList.drop k) with
        | none =>
          have Hn := Lib.hid (Lx.rest_none f _ k acc hlt hf0 hc ht)
          have Ht := Lib.hid ht
          clear hc ht
          go_wp2_with (go_at_call 23; refine (token_no s k _ hlt hs Ht.out).mono ?_; rintro e w1 ⟨hb1, k1, p1, tx, rfl⟩; obtain ⟨hc1, hf1⟩ := bcell hb1)
          go_ret3
          exact lexSaid_of (by rw [Hr.out, Hn.out]) (hb.trans ((hb1.mono hb.size).alloc (by have := hb.size; have := hb1.size; omega) _)) (World.ownsRow_nil _ _ _ _)
        | some kn =>
          obtain ⟨kd, n⟩ := kn
          obtain ⟨hn0, hn1, hn2, hn3⟩ := Lx.rest_some f _ k acc kd n hlt (by show s.size - k < f; exact hf) hc ht
          have Hs := Lib.hid hn3
          have Ht := Lib.hid ht
          obtain ⟨g, hg⟩ : ∃ g, g = k + n + Lx.skip false (s.data.toList.drop (k + n)) := ⟨_, rfl⟩
          have hn1' : k + n ≤ s.size := hn1
          have hg' : g ≤ s.size := by
            have h1 := Lx.skip_le (s.data.toList.drop (k + n)) false
            have h2 : s.data.toList.length = s.size := rfl
            rw [List.length_drop] at h1
            omega
          have hn2' : s.size - g < f - 1 := by rw [hg]; exact hn2
          have hkg : k < g := by omega
          have Hg := Lib.hid hg
          have hbs := hb.size
          clear hc ht hn1 hn2 hn3 hg
          go_wp2_with (first | (go_at_call 23; refine (token_yes s k _ hlt hs kd n Ht.out).mono ?_; rintro e w1 ⟨hb1, tx, htz, htx, rfl⟩; obtain ⟨hc1, hf1⟩ := bcell hb1; have hbs1 := hb1.size; have Htx := Lib.hid htx; have Htz := Lib.hid htz; have hxs : tx.size ≤ 4000 := (by omega); clear htx htz) | (at_builtin; go_must (refine wpList_append_own _ rfl _ _ 23 rfl w.heap.size 30 i0 (.agg #[.int .i64 0, .string ByteArray.empty, .int .i64 0]) 3 32 Tryd.underlying23 hi hz0 hz1 hz2 rfl (by decide) _ _ _ rfl (((ownsRow_below hown hb1).alloc _).alloc _) ⟨w1.heap.size + 1, 0, none⟩ 1 1 [.int .i64 kd, .string tx, .int .i64 k] rfl rfl (cell_three_new _ _ _ _ _ _ (by simp)) (fun x hx => by simp at hx; rcases hx with rfl | rfl | rfl <;> rfl) (by unfold maxLen; omega) (by omega) (by simp; omega) ?_); intro v' w3 hown3 hgrow3 hnil3; clear hnil3; have hx3 := (cell_grown hgrow3 w1.heap.size 1 (by simp; omega) (ownBlock_lt hown _ hbs1))) | (go_at_call 22; refine (skip_int s _ (k + n) g _ (by rw [Htz.out]; omega) hn1' hs Hg.out).mono ?_; rintro e w' ⟨rfl, rfl⟩))
          refine ⟨⟨acc ++ [⟨kd, (s.data.toList.drop k).take n, k⟩], g, f - 1, hg', by simp; omega, rfl, ?_, ?_, hn2', by rw [Hr.out, Hs.out, Hg.out]⟩, by simp [intOf]; omega⟩
          · rw [List.length_append, toksCells_snoc]
            have h3 := hown3
            rw [Htx.out] at h3
            exact h3
          · have hbw : Below w.heap.size w w1 := hb.trans (hb1.mono hbs)
            have hb2 := (hbw.alloc (by omega) (.cells #[Value.int .i64 kd, Value.string tx, Value.int .i64 k] 30)).alloc (by simp; omega) (.cells #[Value.int .i64 kd, Value.string tx, Value.int .i64 k] 30)
            exact hb2.grown hgrow3 (by simp; omega) (fun j hj => (hown.lt j hj).1)
    · go_wp2
      go_ret3
      exact lexSaid_of (by rw [Hr.out, Lx.rest_end _ _ _ _ (by show s.size ≤ k; omega)]) hb hown

end Go.Proofs.YtpggfkdfchafhaaDoor
