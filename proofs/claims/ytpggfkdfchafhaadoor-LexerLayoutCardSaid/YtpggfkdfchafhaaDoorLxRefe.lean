/-
  Walks over the reference lexer's token.
-/
import Derived.Test.YtpggfkdfchafhaaDoorLxRefd
import Derived.Test.YtpggfkdfchafhaaDoorLxSpecb
namespace Go.Proofs.YtpggfkdfchafhaaDoor
open Go.RowKit

theorem ret_box {w w' : World} {X : Array Value} {T : TypeId} (hb : Below (w.alloc (.cells X T)).heap.size (w.alloc (.cells X T)) w') (a b c : Value) :
    Below w.heap.size w (((w'.setCell ⟨w.heap.size, 0, none⟩ a).setCell ⟨w.heap.size, 1, none⟩ b).setCell ⟨w.heap.size, 2, none⟩ c) :=
  ((((Below.refl _ _).alloc (Nat.le_refl _) _).trans (hb.mono (by simp))).setCell (by simp) _).setCell (by simp) _ |>.setCell (by simp) _

set_option maxHeartbeats 1000000 in
theorem token_letter (s : ByteArray) (a : Nat) (w : World) (h1 : a < s.size) (hs : s.size ≤ 4000) (hl : Lx.letterU s.data.toList[a] = true) (n : Nat) (hn : n = Lx.run Lx.wordU (s.data.toList.drop a)) :
    Calls Tryd.prog 23 #[.string s, .int .i64 a] w fun e w' => e = .returned (.tuple #[.agg #[.int .i64 1, .string (s.extract a (a + n)), .int .i64 a], .bool (decide (n ≤ 16))]) ∧ Below w.heap.size w w' := by
  have Hn := Lib.hid hn
  clear hn
  go_enter Tryd.func23, Tryd.ntmps23
  go_wp2_with (first | (go_at_call 33; refine (letterB _ true _ hl).mono ?_; rintro e w' ⟨rfl, rfl⟩) | (go_at_call 34; refine (name_any s a _ (by omega) hs n Hn.out).mono ?_; rintro e w' ⟨rfl, hb⟩; obtain ⟨hc, hf⟩ := bcell hb))
  obtain ⟨hc, hf⟩ := bcell hb
  refine bodyPost_ret (v := .tuple #[.agg #[.int .i64 1, .string (s.extract a (a + n)), .int .i64 a], .bool (decide (n ≤ 16))]) ?_ rfl ⟨rfl, ret_box hb _ _ _⟩
  simp [results, Tryd.results23, go_sem, hc]

set_option maxHeartbeats 1000000 in
theorem token_digit (s : ByteArray) (a : Nat) (w : World) (h1 : a < s.size) (hs : s.size ≤ 4000) (hl : Lx.letterU s.data.toList[a] = false) (hd : Lx.digitU s.data.toList[a] = true) (n : Nat) (hn : n = Lx.run Lx.digitU (s.data.toList.drop a)) (b : Bool) (hb : Lx.numOk (s.data.toList.drop a) n = b) :
    Calls Tryd.prog 23 #[.string s, .int .i64 a] w fun e w' => e = .returned (.tuple #[.agg #[.int .i64 2, .string (s.extract a (a + n)), .int .i64 a], .bool b]) ∧ Below w.heap.size w w' := by
  have Hn := Lib.hid hn
  clear hn
  have num : ∀ w : World, Calls Tryd.prog 36 #[.string s, .int .i64 a] w fun e w' => e = .returned (.tuple #[.agg #[.int .i64 2, .string (s.extract a (a + n)), .int .i64 a], .bool b]) ∧ Below w.heap.size w w' := by
    intro w
    subst hb
    exact number_any s a w h1 hs n Hn.out
  have Num := Lib.hid num
  clear num hb
  go_enter Tryd.func23, Tryd.ntmps23
  go_wp2_with (first | (go_at_call 33; refine (letterB _ false _ hl).mono ?_; rintro e w' ⟨rfl, rfl⟩) | (go_at_call 35; refine (digitB _ true _ hd).mono ?_; rintro e w' ⟨rfl, rfl⟩) | (go_at_call 36; refine (Num.out _).mono ?_; rintro e w' ⟨rfl, hb⟩; obtain ⟨hc, hf⟩ := bcell hb))
  obtain ⟨hc, hf⟩ := bcell hb
  refine bodyPost_ret (v := .tuple #[.agg #[.int .i64 2, .string (s.extract a (a + n)), .int .i64 a], .bool b]) ?_ rfl ⟨rfl, ret_box hb _ _ _⟩
  simp [results, Tryd.results23, go_sem, hc]

/-- what the last way of 'token' answers: the symbol that is found, or none -/
def SymSaid (a : Nat) (w : World) (o : Option (List UInt8)) (e : Ending) (w' : World) : Prop :=
  Below w.heap.size w w' ∧ (match o with
    | some t => e = .returned (.tuple #[.agg #[.int .i64 3, .string ⟨t.toArray⟩, .int .i64 a], .bool true])
    | none => e = .returned (.tuple #[.agg #[.int .i64 0, .string ⟨#[]⟩, .int .i64 0], .bool false]))

set_option maxHeartbeats 1000000 in
theorem token_sym (s : ByteArray) (a : Nat) (w : World) (h1 : a < s.size) (hs : s.size ≤ 4000) (hl : Lx.letterU s.data.toList[a] = false) (hd : Lx.digitU s.data.toList[a] = false) (o : Option (List UInt8)) (ho : Lx.sym (s.data.toList.drop a) = o) :
    Calls Tryd.prog 23 #[.string s, .int .i64 a] w (SymSaid a w o) := by
  have Ho := Lib.hid ho
  clear ho
  go_enter Tryd.func23, Tryd.ntmps23
  go_wp2_with (first | (go_at_call 33; refine (letterB _ false _ hl).mono ?_; rintro e w' ⟨rfl, rfl⟩) | (go_at_call 35; refine (digitB _ false _ hd).mono ?_; rintro e w' ⟨rfl, rfl⟩) | (go_at_call 37; refine (symbols_at _).mono ?_; rintro e w' ⟨rfl, hb, hT⟩))
  obtain ⟨hc, hf⟩ := bcell hb
  have hz : w.heap.size + 1 ≤ w'.heap.size := by have := hb.size; simpa using this
  have hT' := Lib.hid hT
  clear hT
  go_loop [7] (fun t => ∃ i : Nat, i ≤ 27 ∧ t = .int .i64 i ∧ Lx.symFrom (s.data.toList.drop a) i = o) (fun t => 27 - (intOf t).toNat)
  case atStart => exact ⟨0, by omega, rfl, Ho.out⟩
  case round =>
    obtain ⟨i, hi, rfl, hr⟩ := hrel
    have Hr := Lib.hid hr
    clear hr
    by_cases hlt : i < 27
    · obtain ⟨t, ht⟩ : ∃ t, Lx.refSyms[i]? = some t := ⟨_, List.getElem?_eq_getElem (show i < Lx.refSyms.length from hlt)⟩
      have hcell : w'.cell? ⟨w.heap.size + 1, i, none⟩ = some (.string ⟨t.toArray⟩) := by have := hT'.out i t ht; simpa using this
      have hlen : t.length ≤ 3 := (Lx.refSyms_short t (List.mem_of_getElem? ht)).1
      have Ht := Lib.hid ht
      clear ht
      cases hbg : Lx.begins s.data.toList t a
      · have Hn := Lib.hid (Lx.symFrom_no _ t a i Ht.out hbg)
        go_wp2_with (go_at_call 32; refine (beginsB s t a false _ (by omega) hs hlen hbg).mono ?_; rintro e w' ⟨rfl, rfl⟩)
        go_round
        case rel => exact ⟨i + 1, by omega, by go_num, by rw [← Hr.out, Hn.out]⟩
        case measure => simp [intOf]; omega
      · have Hn := Lib.hid (Lx.symFrom_yes _ t a i Ht.out hbg)
        go_wp2_with (go_at_call 32; refine (beginsB s t a true _ (by omega) hs hlen hbg).mono ?_; rintro e w' ⟨rfl, rfl⟩)
        refine bodyPost_ret (v := .tuple #[.agg #[.int .i64 3, .string ⟨t.toArray⟩, .int .i64 a], .bool true]) ?_ rfl ⟨ret_box hb _ _ _, ?_⟩
        · simp [results, Tryd.results23, go_sem, hc]
        · rw [← Hr.out, Hn.out]
    · obtain rfl : i = 27 := by omega
      go_wp2
      refine bodyPost_ret (v := .tuple #[.agg #[.int .i64 0, .string ⟨#[]⟩, .int .i64 0], .bool false]) ?_ rfl ⟨ret_box hb _ _ _, ?_⟩
      · simp [results, Tryd.results23, go_sem, hc]
      · rw [← Hr.out, Lx.symFrom_end]

end Go.Proofs.YtpggfkdfchafhaaDoor
