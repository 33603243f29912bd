/-
  A walk over the law LexerConcat.
-/
import Derived.Test.YtpggfkdfchafhaaDoorLawe
import Derived.Test.YtpggfkdfchafhaaDoorLxConcat
import Derived.Test.YtpggfkdfchafhaaDoorLawRow
import Derived.Laws.AppendOwnNone
namespace Go.Proofs.YtpggfkdfchafhaaDoor.LawConcat
open Go.RowKit

theorem cat_data (s t : ByteArray) : (s ++ ⟨#[10]⟩ ++ t : ByteArray).data.toList = s.data.toList ++ 10 :: t.data.toList := by
  rw [ByteArray.data_append, Array.toList_append, ByteArray.data_append, Array.toList_append]
  simp

theorem same_n (a b : Option Addr) (ca cb Ba Bb n : Nat) (ts : List Lx.Tok) (w : World) (hl : n = ts.length) (hn : n ≤ 4000) (ha : w.ownsRow Ba 30 3 (.slice a n ca) n (toksCells ts)) (hb : w.ownsRow Bb 30 3 (.slice b n cb) n (toksCells ts)) :
    Calls Tryd.prog 13 #[.slice a n ca, .slice b n cb] w fun e w' => e = .returned (.bool true) ∧ Below w.heap.size w w' := by
  subst hl
  exact same_yes a b ca cb Ba Bb ts w hn ha hb
/-- a row that lay there before another's base lies in another block -/
theorem own_ne {w w0 : World} {B1 B2 : Nat} {e1 e2 : TypeId} {s1 s2 : Nat} {v1 v2 : Value} {n1 n2 : Nat} {x1 x2 : List Value} (_h1 : w.ownsRow B1 e1 s1 v1 n1 x1) (h2 : w.ownsRow B2 e2 s2 v2 n2 x2) (hB : w0.heap.size ≤ B2) {n3 : Nat} {x3 : List Value} (h3 : w0.ownsRow B1 e1 s1 v1 n3 x3) : v1.ownBlock = none ∨ v1.ownBlock ≠ v2.ownBlock := by
  cases hv : v1.ownBlock with
  | none => exact .inl rfl
  | some g =>
    right
    intro he
    have := (h3.lt g hv).2
    have := (h2.lt g he.symm).1
    omega

set_option maxRecDepth 100000 in
set_option maxHeartbeats 1000000 in
theorem walk_bad (s t : ByteArray) (w : World) (hS : SymsAt w) (hm : s.size ≤ maxLen) (la : List Lx.Tok) (k p : Nat) (hk : k ≠ 0) (h : Lx.lex s.data.toList = (la, k, p)) :
    Calls Tryd.prog 6 #[.string s, .string t] w fun e w' => e = .returned (.bool true) ∧ Below w.heap.size w w' := by
  have H := Lib.hid h
  have HS := Lib.hid hS
  have Hm := Lib.hid hm
  have Hk := Lib.hid hk
  clear h hS hm hk
  go_enter Tryd.func6, Tryd.ntmps6
  go_wp2_with fail
  refine (head_true _ HS.out).mono ?_
  rintro e w1 ⟨rfl, hb1⟩
  have Hb1 := Lib.hid hb1
  clear hb1
  go_wp2_with fail
  refine (good_no s _ Hm.out la k p Hk.out H.out).mono ?_
  rintro e w2 ⟨rfl, hb2⟩
  have Hb2 := Lib.hid (below_step Hb1.out (Nat.le_refl _) hb2)
  clear hb2
  go_wp2_with fail
  go_ret
  exact ⟨rfl, Hb2.out⟩

set_option maxRecDepth 100000 in
set_option maxHeartbeats 1000000 in
theorem walk_long (s t : ByteArray) (w : World) (hS : SymsAt w) (hm : s.size ≤ maxLen) (hs : s.size ≤ 4000) (hr : t.size ≤ 140737488351232) (la : List Lx.Tok) (p : Nat) (h : Lx.lex s.data.toList = (la, 0, p)) (hsz : 4000 < s.size + 1 + t.size) :
    Calls Tryd.prog 6 #[.string s, .string t] w fun e w' => e = .returned (.bool true) ∧ Below w.heap.size w w' := by
  have H := Lib.hid h
  have HS := Lib.hid hS
  have Hm := Lib.hid hm
  clear h hS hm
  go_enter Tryd.func6, Tryd.ntmps6
  go_wp2_with fail
  refine (head_true _ HS.out).mono ?_
  rintro e w1 ⟨rfl, hb1⟩
  have Hb1 := Lib.hid hb1
  clear hb1
  go_wp2_with fail
  refine (good_yes s _ Hm.out la p H.out).mono ?_
  rintro e w2 ⟨rfl, hb2⟩
  have Hb2 := Lib.hid (below_step Hb1.out (Nat.le_refl _) hb2)
  clear hb2
  go_wp2_with fail
  go_ret
  exact ⟨rfl, Hb2.out⟩

set_option maxRecDepth 100000 in
set_option maxHeartbeats 1000000 in
theorem walk_limit (s t : ByteArray) (w : World) (hS : SymsAt w) (hm : s.size ≤ maxLen) (hm2 : t.size ≤ maxLen) (la lb : List Lx.Tok) (pa fb pb : Nat) (ha : Lx.lex s.data.toList = (la, 0, pa)) (hb : Lx.lex t.data.toList = (lb, fb, pb)) (hsz : s.size + 1 + t.size ≤ 4000) (q : Nat) (hcat : Lx.lex (s.data.toList ++ 10 :: t.data.toList) = ([], 2, q)) (hq : s.size + 1 ≤ q) (hor : fb ≠ 0 ∨ (fb = 0 ∧ 1500 < la.length + lb.length)) :
    Calls Tryd.prog 6 #[.string s, .string t] w fun e w' => e = .returned (.bool true) ∧ Below w.heap.size w w' := by
  have HS := Lib.hid hS
  have HH := Lib.hid (symsAt_pos hS)
  have Hm := Lib.hid hm
  have Hm2 := Lib.hid hm2
  have Ha := Lib.hid ha
  have Hb := Lib.hid hb
  have hla := Lx.lex_len_of ha
  have hlb := Lx.lex_len_of hb
  clear hS hm hm2 ha hb
  go_enter Tryd.func6, Tryd.ntmps6
  go_wp2_with fail
  refine (head_true _ HS.out).mono ?_
  rintro e w1 ⟨rfl, hb1⟩
  have Hb1 := Lib.hid hb1
  clear hb1
  go_wp2_with fail
  refine (good_yes s _ Hm.out la pa Ha.out).mono ?_
  rintro e w2 ⟨rfl, hb2⟩
  have Hb2 := Lib.hid (below_step Hb1.out (Nat.le_refl _) hb2)
  clear hb2
  go_wp2_with fail
  refine (lexP s _ (symsAt_below HS.out Hb2.out HH.out) Hm.out).mono ?_
  intro e w3 hl
  obtain ⟨aa, ca, rfl, hb3, ho3⟩ := lexSaid_open Ha.out hl
  have Hb3 := Lib.hid (below_step Hb2.out (Nat.le_refl _) hb3)
  have Ho3 := Lib.hid ho3
  clear hl hb3 ho3
  go_wp2_with fail
  refine (lexP t _ (symsAt_below HS.out Hb3.out HH.out) Hm2.out).mono ?_
  intro e w4 hl
  obtain ⟨ab, cb, rfl, hb4, ho4⟩ := lexSaid_open Hb.out hl
  have Ho3' := Lib.hid (ownsRow_below Ho3.out hb4)
  have Hb4 := Lib.hid (below_step Hb3.out (Nat.le_refl _) hb4)
  have Ho4 := Lib.hid ho4
  clear hl hb4 ho4
  go_wp2_with fail
  have hMd : (s ++ ⟨#[10]⟩ ++ t : ByteArray).data.toList = s.data.toList ++ 10 :: t.data.toList := cat_data s t
  have hMs : (s ++ ⟨#[10]⟩ ++ t : ByteArray).size ≤ maxLen := by
    have e : (s ++ ⟨#[10]⟩ ++ t : ByteArray).data.toList.length = (s ++ ⟨#[10]⟩ ++ t : ByteArray).size := rfl
    have e1 : s.data.toList.length = s.size := rfl
    have e2 : t.data.toList.length = t.size := rfl
    rw [hMd, List.length_append, List.length_cons] at e
    unfold maxLen
    omega
  generalize (s ++ ⟨#[10]⟩ ++ t : ByteArray) = M at hMd hMs ⊢
  have HMs := Lib.hid hMs
  rw [← hMd] at hcat
  have Hcat := Lib.hid hcat
  clear hMd hMs hcat
  refine (lexP M _ (symsAt_below HS.out Hb4.out HH.out) HMs.out).mono ?_
  intro e w5 hl
  obtain ⟨am, cm, rfl, hb5, ho5⟩ := lexSaid_open Hcat.out hl
  have Ho3'' := Lib.hid (ownsRow_below Ho3'.out hb5)
  have Ho4' := Lib.hid (ownsRow_below Ho4.out hb5)
  have Hb5 := Lib.hid (below_step Hb4.out (Nat.le_refl _) hb5)
  have Ho5 := Lib.hid ho5
  clear hl hb5 ho5
  rcases hor with hf | ⟨hf, hor⟩
  · have hf' : ((fb : Int) != 0) = true := by rw [bne_iff_ne]; omega
    clear hf
    go_wp2_with fail
    go_ret
    exact ⟨rfl, Hb5.out⟩
  · subst hf
    go_wp2_with fail
    go_ret
    exact ⟨ret_bool (decide_eq_true (by omega)), Hb5.out⟩

set_option maxRecDepth 100000 in
set_option maxHeartbeats 1000000 in
theorem walk_err (s t : ByteArray) (w : World) (hS : SymsAt w) (hm : s.size ≤ maxLen) (hm2 : t.size ≤ maxLen) (la lb : List Lx.Tok) (pa fb pb : Nat) (ha : Lx.lex s.data.toList = (la, 0, pa)) (hb : Lx.lex t.data.toList = (lb, fb, pb)) (hsz : s.size + 1 + t.size ≤ 4000) (hf : fb ≠ 0) (hf2 : fb ≠ 2) (hpb : pb ≤ 4000) (hcat : Lx.lex (s.data.toList ++ 10 :: t.data.toList) = ([], fb, s.size + 1 + pb)) :
    Calls Tryd.prog 6 #[.string s, .string t] w fun e w' => e = .returned (.bool true) ∧ Below w.heap.size w w' := by
  have HS := Lib.hid hS
  have HH := Lib.hid (symsAt_pos hS)
  have Hm := Lib.hid hm
  have Hm2 := Lib.hid hm2
  have Ha := Lib.hid ha
  have Hb := Lib.hid hb
  have hla := Lx.lex_len_of ha
  have hlb := Lx.lex_len_of hb
  clear hS hm hm2 ha hb
  go_enter Tryd.func6, Tryd.ntmps6
  go_wp2_with fail
  refine (head_true _ HS.out).mono ?_
  rintro e w1 ⟨rfl, hb1⟩
  have Hb1 := Lib.hid hb1
  clear hb1
  go_wp2_with fail
  refine (good_yes s _ Hm.out la pa Ha.out).mono ?_
  rintro e w2 ⟨rfl, hb2⟩
  have Hb2 := Lib.hid (below_step Hb1.out (Nat.le_refl _) hb2)
  clear hb2
  go_wp2_with fail
  refine (lexP s _ (symsAt_below HS.out Hb2.out HH.out) Hm.out).mono ?_
  intro e w3 hl
  obtain ⟨aa, ca, rfl, hb3, ho3⟩ := lexSaid_open Ha.out hl
  have Hb3 := Lib.hid (below_step Hb2.out (Nat.le_refl _) hb3)
  have Ho3 := Lib.hid ho3
  clear hl hb3 ho3
  go_wp2_with fail
  refine (lexP t _ (symsAt_below HS.out Hb3.out HH.out) Hm2.out).mono ?_
  intro e w4 hl
  obtain ⟨ab, cb, rfl, hb4, ho4⟩ := lexSaid_open Hb.out hl
  have Ho3' := Lib.hid (ownsRow_below Ho3.out hb4)
  have Hb4 := Lib.hid (below_step Hb3.out (Nat.le_refl _) hb4)
  have Ho4 := Lib.hid ho4
  clear hl hb4 ho4
  go_wp2_with fail
  have hMd : (s ++ ⟨#[10]⟩ ++ t : ByteArray).data.toList = s.data.toList ++ 10 :: t.data.toList := cat_data s t
  have hMs : (s ++ ⟨#[10]⟩ ++ t : ByteArray).size ≤ maxLen := by
    have e : (s ++ ⟨#[10]⟩ ++ t : ByteArray).data.toList.length = (s ++ ⟨#[10]⟩ ++ t : ByteArray).size := rfl
    have e1 : s.data.toList.length = s.size := rfl
    have e2 : t.data.toList.length = t.size := rfl
    rw [hMd, List.length_append, List.length_cons] at e
    unfold maxLen
    omega
  generalize (s ++ ⟨#[10]⟩ ++ t : ByteArray) = M at hMd hMs ⊢
  have HMs := Lib.hid hMs
  rw [← hMd] at hcat
  have Hcat := Lib.hid hcat
  clear hMd hMs hcat
  refine (lexP M _ (symsAt_below HS.out Hb4.out HH.out) HMs.out).mono ?_
  intro e w5 hl
  obtain ⟨am, cm, rfl, hb5, ho5⟩ := lexSaid_open Hcat.out hl
  have Ho3'' := Lib.hid (ownsRow_below Ho3'.out hb5)
  have Ho4' := Lib.hid (ownsRow_below Ho4.out hb5)
  have Hb5 := Lib.hid (below_step Hb4.out (Nat.le_refl _) hb5)
  have Ho5 := Lib.hid ho5
  clear hl hb5 ho5
  have hf' : ((fb : Int) != 0) = true := by rw [bne_iff_ne]; omega
  have hf2' : ((fb : Int) == 2) = false := beq_eq_false_iff_ne.2 (by omega)
  clear hf hf2
  go_wp2_with fail
  go_ret
  exact ⟨ret_bool (by simp), Hb5.out⟩

set_option maxRecDepth 100000 in
set_option maxHeartbeats 1000000 in
theorem walk_join (s t : ByteArray) (w : World) (hS : SymsAt w) (hm : s.size ≤ maxLen) (hm2 : t.size ≤ maxLen) (la lb : List Lx.Tok) (pa pb : Nat) (ha : Lx.lex s.data.toList = (la, 0, pa)) (hb : Lx.lex t.data.toList = (lb, 0, pb)) (hsz : s.size + 1 + t.size ≤ 4000) (hcat : Lx.lex (s.data.toList ++ 10 :: t.data.toList) = (la ++ lb.map (shiftTok (s.size + 1)), 0, 0)) :
    Calls Tryd.prog 6 #[.string s, .string t] w fun e w' => e = .returned (.bool true) ∧ Below w.heap.size w w' := by
  have HS := Lib.hid hS
  have HH := Lib.hid (symsAt_pos hS)
  have Hm := Lib.hid hm
  have Hm2 := Lib.hid hm2
  have Ha := Lib.hid ha
  have Hb := Lib.hid hb
  have hla := Lx.lex_len_of ha
  have hlb := Lx.lex_len_of hb
  clear hS hm hm2 ha hb
  go_enter Tryd.func6, Tryd.ntmps6
  go_wp2_with fail
  refine (head_true _ HS.out).mono ?_
  rintro e w1 ⟨rfl, hb1⟩
  have Hb1 := Lib.hid hb1
  clear hb1
  go_wp2_with fail
  refine (good_yes s _ Hm.out la pa Ha.out).mono ?_
  rintro e w2 ⟨rfl, hb2⟩
  have Hb2 := Lib.hid (below_step Hb1.out (Nat.le_refl _) hb2)
  clear hb2
  go_wp2_with fail
  refine (lexP s _ (symsAt_below HS.out Hb2.out HH.out) Hm.out).mono ?_
  intro e w3 hl
  obtain ⟨aa, ca, rfl, hb3, ho3⟩ := lexSaid_open Ha.out hl
  have Hb3 := Lib.hid (below_step Hb2.out (Nat.le_refl _) hb3)
  have Ho3 := Lib.hid ho3
  clear hl hb3 ho3
  go_wp2_with fail
  refine (lexP t _ (symsAt_below HS.out Hb3.out HH.out) Hm2.out).mono ?_
  intro e w4 hl
  obtain ⟨ab, cb, rfl, hb4, ho4⟩ := lexSaid_open Hb.out hl
  have Ho3' := Lib.hid (ownsRow_below Ho3.out hb4)
  have Hb4 := Lib.hid (below_step Hb3.out (Nat.le_refl _) hb4)
  have Ho4 := Lib.hid ho4
  clear hl hb4 ho4
  go_wp2_with fail
  have hMd : (s ++ ⟨#[10]⟩ ++ t : ByteArray).data.toList = s.data.toList ++ 10 :: t.data.toList := cat_data s t
  have hMs : (s ++ ⟨#[10]⟩ ++ t : ByteArray).size ≤ maxLen := by
    have e : (s ++ ⟨#[10]⟩ ++ t : ByteArray).data.toList.length = (s ++ ⟨#[10]⟩ ++ t : ByteArray).size := rfl
    have e1 : s.data.toList.length = s.size := rfl
    have e2 : t.data.toList.length = t.size := rfl
    rw [hMd, List.length_append, List.length_cons] at e
    unfold maxLen
    omega
  generalize (s ++ ⟨#[10]⟩ ++ t : ByteArray) = M at hMd hMs ⊢
  have HMs := Lib.hid hMs
  rw [← hMd] at hcat
  have Hcat := Lib.hid hcat
  clear hMd hMs hcat
  refine (lexP M _ (symsAt_below HS.out Hb4.out HH.out) HMs.out).mono ?_
  intro e w5 hl
  obtain ⟨am, cm, rfl, hb5, ho5⟩ := lexSaid_open Hcat.out hl
  have Ho3'' := Lib.hid (ownsRow_below Ho3'.out hb5)
  have Ho4' := Lib.hid (ownsRow_below Ho4.out hb5)
  have Hb5 := Lib.hid (below_step Hb4.out (Nat.le_refl _) hb5)
  have Ho5 := Lib.hid ho5
  clear hl hb5 ho5
  obtain ⟨i0, hi, hz0, hz1, hz2⟩ := info_parts infoTok
  have hoff : ∀ x ∈ lb, x.off ≤ 4000 := by
    intro x hx
    obtain ⟨k, hk⟩ := List.mem_iff_getElem?.1 hx
    obtain ⟨e', hc⟩ := Lx.chain_at _ _ 0 k x (Lx.lex_chain Hb.out) hk
    have h1 : x.off + x.text.length ≤ t.size := hc.2.2.1
    omega
  have Hoff := Lib.hid hoff
  clear hoff
  have Hb6 := Lib.hid (Hb5.out.alloc Hb5.out.size (.cells #[] 30))
  go_wp2_with (first | (at_builtin; (refine wpList_append_rows _ rfl (.tmp 100) (.tmp 101) 23 rfl w5.heap.size 30 i0 (.agg #[.int .i64 0, .string ByteArray.empty, .int .i64 0]) 3 32 Tryd.underlying23 hi hz0 hz1 hz2 rfl (by decide) _ 0 [] rfl (World.ownsRow_lit w5 #[] 0 (Nat.le_refl _) (by decide) rfl) w2.heap.size _ la.length (toksCells la) rfl (Ho3''.out.alloc _) (toksCells_one la) (by unfold maxLen; omega) (by omega) (by simp) ?_); intro v6 w6 hown6 hgrow6; have Hown6 := Lib.hid hown6; have Hgrow6 := Lib.hid hgrow6; clear hown6 hgrow6))
  have hg6 : (w5.alloc (.cells #[] 30)).grownBy w6 (some w5.heap.size) := Hgrow6.out
  have hA6 := (Ho4'.out.alloc (.cells #[] 30)).kept hg6 (Or.inr (ownBlock_lt Ho4'.out w5.heap.size (Nat.le_refl _)))
  have hM6 := (Ho5.out.alloc (.cells #[] 30)).kept hg6 (Or.inr (ownBlock_lt Ho5.out w5.heap.size (Nat.le_refl _)))
  have hb6 : Below w.heap.size w w6 := Hb6.out.grown hg6 (by have := Hb5.out.size; simp; omega) (fun j hj => by have := Hb5.out.size; cases hj; exact this)
  have HA6 := Lib.hid hA6
  have HM6 := Lib.hid hM6
  have Hb6' := Lib.hid hb6
  have hz6 : w5.heap.size < w6.heap.size := by have := hg6.size; simp at this; omega
  clear hg6 hA6 hM6 hb6
  refine (shift_int ab cb w3.heap.size (s.size + 1) _ lb _ (by omega) hlb (by omega) Hoff.out HA6.out).mono ?_
  rintro e w7 ⟨v7, rfl, hown7, hb7⟩
  have HM7 := Lib.hid (ownsRow_below HM6.out hb7)
  have Hown67 := Lib.hid (ownsRow_below Hown6.out hb7)
  have Hb7 := Lib.hid (below_step Hb6'.out (Nat.le_refl _) hb7)
  have hz7 := hb7.size
  have Hown7 := Lib.hid hown7
  clear hown7 hb7
  have hones : ∀ u ∈ toksCells (lb.map (shiftTok (s.size + 1))), u.oneCell' = true := toksCells_one _
  have Hones := Lib.hid hones
  clear hones
  go_wp2_with (first | (at_builtin; (refine wpList_append_rows _ rfl (.tmp 102) (.tmp 107) 23 rfl w5.heap.size 30 i0 (.agg #[.int .i64 0, .string ByteArray.empty, .int .i64 0]) 3 32 Tryd.underlying23 hi hz0 hz1 hz2 rfl (by decide) _ (0 + la.length) ([] ++ toksCells la) rfl Hown67.out w6.heap.size _ lb.length (toksCells (lb.map (shiftTok (s.size + 1)))) rfl Hown7.out Hones.out (by unfold maxLen; omega) (by omega) (by omega) ?_); intro v8 w8 hown8 hgrow8; have Hown8 := Lib.hid hown8; have Hgrow8 := Lib.hid hgrow8; clear hown8 hgrow8))
  have hlen8 : la.length + lb.length = (la ++ lb.map (shiftTok (s.size + 1))).length := by simp
  have hM8 := HM7.out.kept Hgrow8.out (own_ne HM7.out Hown67.out (Nat.le_refl _) Ho5.out)
  have hown8 := Hown8.out
  rw [Nat.zero_add, List.nil_append, ← toksCells_append] at hown8
  rw [← hlen8] at hM8
  obtain ⟨b8, c8, rfl⟩ := ownsRow_form hown8
  have Hb8 := Lib.hid (Hb7.out.grown Hgrow8.out Hb7.out.size (fun j hj => Nat.le_trans Hb5.out.size (Hown67.out.lt j hj).1))
  have HM8 := Lib.hid hM8
  have Hown8' := Lib.hid hown8
  have Hlen8 := Lib.hid hlen8
  have hl3 : la.length + lb.length ≤ 4000 := by omega
  clear hM8 hown8 hlen8
  refine (same_n am b8 cm c8 _ _ _ (la ++ lb.map (shiftTok (s.size + 1))) _ Hlen8.out hl3 HM8.out Hown8'.out).mono ?_
  rintro e w9 ⟨rfl, hb9⟩
  have Hb9 := Lib.hid (below_step Hb8.out (Nat.le_refl _) hb9)
  clear hb9
  go_wp2_with fail
  go_ret
  exact ⟨rfl, Hb9.out⟩

theorem walk (s t : ByteArray) (w : World) (hS : SymsAt w) (hm : s.size ≤ maxLen) (hm2 : t.size ≤ maxLen) (hr : t.size ≤ 140737488351232) :
    Calls Tryd.prog 6 #[.string s, .string t] w fun e w' => e = .returned (.bool true) ∧ Below w.heap.size w w' := by
  obtain ⟨la, k, p, ha⟩ : ∃ ts k p, Lx.lex s.data.toList = (ts, k, p) := ⟨_, _, _, rfl⟩
  by_cases hk : k = 0
  · subst hk
    have hs : s.size ≤ 4000 := by
      rcases Nat.lt_or_ge 4000 s.size with hs | hs
      · have := Lx.lex_big _ (show 4000 < s.data.toList.length from hs)
        rw [ha] at this
        cases this
      · exact hs
    rcases Nat.lt_or_ge 4000 (s.size + 1 + t.size) with hsz | hsz
    · exact walk_long s t w hS hm hs hr la p ha hsz
    · obtain ⟨lb, fb, pb, hb⟩ : ∃ ts k p, Lx.lex t.data.toList = (ts, k, p) := ⟨_, _, _, rfl⟩
      rcases Lx.lex_concat ha hb hsz with ⟨q, h1, h2, h3⟩ | ⟨h1, h2⟩ | ⟨h1, h2⟩
      · refine walk_limit s t w hS hm hm2 la lb p fb pb ha hb hsz q h1 h2 ?_
        by_cases hf : fb = 0
        · rcases h3 with h3 | h3
          · exact absurd hf h3
          · exact .inr ⟨hf, h3⟩
        · exact .inl hf
      · have hpb : pb ≤ 4000 := Nat.le_trans (Lx.lex_pos hb) (show t.data.toList.length ≤ 4000 from Nat.le_trans (Nat.le_add_left _ _) hsz)
        by_cases hf2 : fb = 2
        · subst hf2
          exact walk_limit s t w hS hm hm2 la lb p 2 pb ha hb hsz _ h2 (Nat.le_add_right _ _) (.inl h1)
        · exact walk_err s t w hS hm hm2 la lb p fb pb ha hb hsz h1 hf2 hpb h2
      · subst h1
        exact walk_join s t w hS hm hm2 la lb p pb ha hb hsz h2
  · exact walk_bad s t w hS hm la k p hk ha

end Go.Proofs.YtpggfkdfchafhaaDoor.LawConcat
