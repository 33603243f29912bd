/-
  Walks over the program's tokenAt, a branch each.
-/
import Derived.Test.YtpggfkdfchafhaaDoorLxCoded
namespace Go.Proofs.YtpggfkdfchafhaaDoor
open Go.RowKit

set_option maxHeartbeats 1000000 in
theorem at_name_yes (s : ByteArray) (a : Nat) (w : World) (h1 : a < s.size) (hl : Lx.inCls ({ data := #[65, 90, 97, 122] } : ByteArray).data.toList (s[a].toNat : Int) = true) (T : ByteArray) (hT : T.toList.isEmpty = false)
    (hcall : Hid (∀ w' : World, Below w.heap.size w w' → Calls Tryd.prog 29 #[.string s, .int .i64 a] w' fun e w'' => e = .returned (.string T) ∧ Below w'.heap.size w' w'')) :
    Calls Tryd.prog 21 #[.string s, .int .i64 a] w fun e w' => e = .returned (.tuple #[.agg #[.int .i64 1, .string T, .int .i64 a], .bool true]) ∧ Below w.heap.size w w' := by
  go_enter Tryd.func21, Tryd.ntmps21
  go_wp2_with (first | (go_at_call 26; ((with_reducible refine (hasB { data := #[65, 90, 97, 122] } _ true _ (by decide) (by decide) hl).mono ?_); rintro e w' ⟨rfl, rfl⟩)) | (go_at_call 29; refine (hcall.out _ ((Below.refl _ _).alloc (Nat.le_refl _) _)).mono ?_; rintro e w' ⟨rfl, hb⟩; obtain ⟨hc, hf⟩ := bcell hb))
  obtain ⟨hc, hf⟩ := bcell hb
  refine bodyPost_ret (v := .tuple #[.agg #[.int .i64 1, .string T, .int .i64 a], .bool true]) ?_ rfl ⟨rfl, ret_box hb _ _ _⟩
  simp [results, Tryd.results21, go_sem, hc]

set_option maxHeartbeats 1000000 in
theorem at_name_no (s : ByteArray) (a : Nat) (w : World) (h1 : a < s.size) (hl : Lx.inCls ({ data := #[65, 90, 97, 122] } : ByteArray).data.toList (s[a].toNat : Int) = true) 
    (hcall : Hid (∀ w' : World, Below w.heap.size w w' → Calls Tryd.prog 29 #[.string s, .int .i64 a] w' fun e w'' => e = .returned (.string ⟨#[]⟩) ∧ Below w'.heap.size w' w'')) :
    Calls Tryd.prog 21 #[.string s, .int .i64 a] w fun e w' => e = .returned (.tuple #[.agg #[.int .i64 0, .string ⟨#[]⟩, .int .i64 0], .bool false]) ∧ Below w.heap.size w w' := by
  go_enter Tryd.func21, Tryd.ntmps21
  go_wp2_with (first | (go_at_call 26; ((with_reducible refine (hasB { data := #[65, 90, 97, 122] } _ true _ (by decide) (by decide) hl).mono ?_); rintro e w' ⟨rfl, rfl⟩)) | (go_at_call 29; refine (hcall.out _ ((Below.refl _ _).alloc (Nat.le_refl _) _)).mono ?_; rintro e w' ⟨rfl, hb⟩; obtain ⟨hc, hf⟩ := bcell hb))
  obtain ⟨hc, hf⟩ := bcell hb
  refine bodyPost_ret (v := .tuple #[.agg #[.int .i64 0, .string ⟨#[]⟩, .int .i64 0], .bool false]) ?_ rfl ⟨rfl, ret_box hb _ _ _⟩
  simp [results, Tryd.results21, go_sem, hc]

set_option maxHeartbeats 1000000 in
theorem at_number_yes (s : ByteArray) (a : Nat) (w : World) (h1 : a < s.size) (hl : Lx.inCls ({ data := #[65, 90, 97, 122] } : ByteArray).data.toList (s[a].toNat : Int) = false) (hd : Lx.inCls ({ data := #[48, 57] } : ByteArray).data.toList (s[a].toNat : Int) = true) (T : ByteArray) (hT : T.toList.isEmpty = false)
    (hcall : Hid (∀ w' : World, Below w.heap.size w w' → Calls Tryd.prog 30 #[.string s, .int .i64 a] w' fun e w'' => e = .returned (.string T) ∧ Below w'.heap.size w' w'')) :
    Calls Tryd.prog 21 #[.string s, .int .i64 a] w fun e w' => e = .returned (.tuple #[.agg #[.int .i64 2, .string T, .int .i64 a], .bool true]) ∧ Below w.heap.size w w' := by
  go_enter Tryd.func21, Tryd.ntmps21
  go_wp2_with (first | (go_at_call 26; ((with_reducible refine (hasB { data := #[65, 90, 97, 122] } _ false _ (by decide) (by decide) hl).mono ?_); rintro e w' ⟨rfl, rfl⟩)) | (go_at_call 26; ((with_reducible refine (hasB { data := #[48, 57] } _ true _ (by decide) (by decide) hd).mono ?_); rintro e w' ⟨rfl, rfl⟩)) | (go_at_call 30; refine (hcall.out _ ((Below.refl _ _).alloc (Nat.le_refl _) _)).mono ?_; rintro e w' ⟨rfl, hb⟩; obtain ⟨hc, hf⟩ := bcell hb))
  obtain ⟨hc, hf⟩ := bcell hb
  refine bodyPost_ret (v := .tuple #[.agg #[.int .i64 2, .string T, .int .i64 a], .bool true]) ?_ rfl ⟨rfl, ret_box hb _ _ _⟩
  simp [results, Tryd.results21, go_sem, hc]

set_option maxHeartbeats 1000000 in
theorem at_number_no (s : ByteArray) (a : Nat) (w : World) (h1 : a < s.size) (hl : Lx.inCls ({ data := #[65, 90, 97, 122] } : ByteArray).data.toList (s[a].toNat : Int) = false) (hd : Lx.inCls ({ data := #[48, 57] } : ByteArray).data.toList (s[a].toNat : Int) = true) 
    (hcall : Hid (∀ w' : World, Below w.heap.size w w' → Calls Tryd.prog 30 #[.string s, .int .i64 a] w' fun e w'' => e = .returned (.string ⟨#[]⟩) ∧ Below w'.heap.size w' w'')) :
    Calls Tryd.prog 21 #[.string s, .int .i64 a] w fun e w' => e = .returned (.tuple #[.agg #[.int .i64 0, .string ⟨#[]⟩, .int .i64 0], .bool false]) ∧ Below w.heap.size w w' := by
  go_enter Tryd.func21, Tryd.ntmps21
  go_wp2_with (first | (go_at_call 26; ((with_reducible refine (hasB { data := #[65, 90, 97, 122] } _ false _ (by decide) (by decide) hl).mono ?_); rintro e w' ⟨rfl, rfl⟩)) | (go_at_call 26; ((with_reducible refine (hasB { data := #[48, 57] } _ true _ (by decide) (by decide) hd).mono ?_); rintro e w' ⟨rfl, rfl⟩)) | (go_at_call 30; refine (hcall.out _ ((Below.refl _ _).alloc (Nat.le_refl _) _)).mono ?_; rintro e w' ⟨rfl, hb⟩; obtain ⟨hc, hf⟩ := bcell hb))
  obtain ⟨hc, hf⟩ := bcell hb
  refine bodyPost_ret (v := .tuple #[.agg #[.int .i64 0, .string ⟨#[]⟩, .int .i64 0], .bool false]) ?_ rfl ⟨rfl, ret_box hb _ _ _⟩
  simp [results, Tryd.results21, go_sem, hc]

set_option maxHeartbeats 1000000 in
theorem at_symbol_yes (s : ByteArray) (a : Nat) (w : World) (h1 : a < s.size) (hl : Lx.inCls ({ data := #[65, 90, 97, 122] } : ByteArray).data.toList (s[a].toNat : Int) = false) (hd : Lx.inCls ({ data := #[48, 57] } : ByteArray).data.toList (s[a].toNat : Int) = false) (T : ByteArray) (hT : T.toList.isEmpty = false)
    (hcall : Hid (∀ w' : World, Below w.heap.size w w' → Calls Tryd.prog 31 #[.string s, .int .i64 a] w' fun e w'' => e = .returned (.string T) ∧ Below w'.heap.size w' w'')) :
    Calls Tryd.prog 21 #[.string s, .int .i64 a] w fun e w' => e = .returned (.tuple #[.agg #[.int .i64 3, .string T, .int .i64 a], .bool true]) ∧ Below w.heap.size w w' := by
  go_enter Tryd.func21, Tryd.ntmps21
  go_wp2_with (first | (go_at_call 26; ((with_reducible refine (hasB { data := #[65, 90, 97, 122] } _ false _ (by decide) (by decide) hl).mono ?_); rintro e w' ⟨rfl, rfl⟩)) | (go_at_call 26; ((with_reducible refine (hasB { data := #[48, 57] } _ false _ (by decide) (by decide) hd).mono ?_); rintro e w' ⟨rfl, rfl⟩)) | (go_at_call 31; refine (hcall.out _ ((Below.refl _ _).alloc (Nat.le_refl _) _)).mono ?_; rintro e w' ⟨rfl, hb⟩; obtain ⟨hc, hf⟩ := bcell hb))
  obtain ⟨hc, hf⟩ := bcell hb
  refine bodyPost_ret (v := .tuple #[.agg #[.int .i64 3, .string T, .int .i64 a], .bool true]) ?_ rfl ⟨rfl, ret_box hb _ _ _⟩
  simp [results, Tryd.results21, go_sem, hc]

set_option maxHeartbeats 1000000 in
theorem at_symbol_no (s : ByteArray) (a : Nat) (w : World) (h1 : a < s.size) (hl : Lx.inCls ({ data := #[65, 90, 97, 122] } : ByteArray).data.toList (s[a].toNat : Int) = false) (hd : Lx.inCls ({ data := #[48, 57] } : ByteArray).data.toList (s[a].toNat : Int) = false) 
    (hcall : Hid (∀ w' : World, Below w.heap.size w w' → Calls Tryd.prog 31 #[.string s, .int .i64 a] w' fun e w'' => e = .returned (.string ⟨#[]⟩) ∧ Below w'.heap.size w' w'')) :
    Calls Tryd.prog 21 #[.string s, .int .i64 a] w fun e w' => e = .returned (.tuple #[.agg #[.int .i64 0, .string ⟨#[]⟩, .int .i64 0], .bool false]) ∧ Below w.heap.size w w' := by
  go_enter Tryd.func21, Tryd.ntmps21
  go_wp2_with (first | (go_at_call 26; ((with_reducible refine (hasB { data := #[65, 90, 97, 122] } _ false _ (by decide) (by decide) hl).mono ?_); rintro e w' ⟨rfl, rfl⟩)) | (go_at_call 26; ((with_reducible refine (hasB { data := #[48, 57] } _ false _ (by decide) (by decide) hd).mono ?_); rintro e w' ⟨rfl, rfl⟩)) | (go_at_call 31; refine (hcall.out _ ((Below.refl _ _).alloc (Nat.le_refl _) _)).mono ?_; rintro e w' ⟨rfl, hb⟩; obtain ⟨hc, hf⟩ := bcell hb))
  obtain ⟨hc, hf⟩ := bcell hb
  refine bodyPost_ret (v := .tuple #[.agg #[.int .i64 0, .string ⟨#[]⟩, .int .i64 0], .bool false]) ?_ rfl ⟨rfl, ret_box hb _ _ _⟩
  simp [results, Tryd.results21, go_sem, hc]

end Go.Proofs.YtpggfkdfchafhaaDoor
