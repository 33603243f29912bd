/-
  A walk over the program's search for a symbol: a labelled loop over its table.
-/
import Derived.Test.YtpggfkdfchafhaaDoorLxTab
import Derived.Test.YtpggfkdfchafhaaDoorLxSpecc
import Derived.Test.YtpggfkdfchafhaaDoorLxCodec
import Derived.Deep.LoopGhost
import Derived.Deep.QuietTactic
import Derived.BigQuiet
import Derived.WalkMore
import Derived.WalkSmall
import Derived.IntWalk
namespace Go.Proofs.YtpggfkdfchafhaaDoor
open Go.RowKit

/-- the first symbol of the program's table, from an index on -/
def tabFrom (l : List UInt8) (i : Nat) : Option (List UInt8) := (symTab.drop i).find? fun t => l.take t.length == t
theorem tabFrom_yes (l t : List UInt8) (a i : Nat) (h : symTab[i]? = some t) (hb : Lx.begins l t a = true) : tabFrom (l.drop a) i = some t := by
  obtain ⟨hi, ht⟩ := List.getElem?_eq_some_iff.1 h
  unfold tabFrom
  rw [List.drop_eq_getElem_cons hi, ht]
  unfold Lx.begins at hb
  rw [List.find?_cons]
  simp only [hb]
theorem tabFrom_no (l t : List UInt8) (a i : Nat) (h : symTab[i]? = some t) (hb : Lx.begins l t a = false) : tabFrom (l.drop a) i = tabFrom (l.drop a) (i + 1) := by
  obtain ⟨hi, ht⟩ := List.getElem?_eq_some_iff.1 h
  unfold tabFrom
  rw [List.drop_eq_getElem_cons hi, ht]
  unfold Lx.begins at hb
  rw [List.find?_cons]
  simp only [hb]
theorem tabFrom_end (l : List UInt8) : tabFrom l 27 = none := rfl
theorem symTab_short : ∀ t ∈ symTab, t.length ≤ 3 ∧ 0 < t.length := by decide

/-- the first j bytes of a symbol stand at an offset -/
def Pre (l t : List UInt8) (a j : Nat) : Prop := (l.drop a).take j = t.take j
theorem pre_zero (l t : List UInt8) (a : Nat) : Pre l t a 0 := by simp [Pre]
theorem pre_all (l t : List UInt8) (a : Nat) (h : Pre l t a t.length) : Lx.begins l t a = true := by
  unfold Lx.begins
  unfold Pre at h
  rw [h, List.take_length]
  exact beq_self_eq_true _
theorem pre_next (l t : List UInt8) (a j : Nat) (h : Pre l t a j) (h1 : a + j < l.length) (h2 : j < t.length) (he : l[a + j] = t[j]) : Pre l t a (j + 1) := by
  unfold Pre at *
  rw [List.take_succ_eq_append_getElem (by rw [List.length_drop]; omega), List.take_succ_eq_append_getElem h2, h]
  simp [he]
theorem pre_end (l t : List UInt8) (a j : Nat) (h1 : l.length ≤ a + j) (h2 : j < t.length) : Lx.begins l t a = false := by
  unfold Lx.begins
  apply beq_eq_false_iff_ne.2
  intro h
  have hl := congrArg List.length h
  rw [List.length_take, List.length_drop] at hl
  omega
theorem pre_off (l t : List UInt8) (a j : Nat) (h1 : a + j < l.length) (h2 : j < t.length) (he : l[a + j] ≠ t[j]) : Lx.begins l t a = false := by
  unfold Lx.begins
  apply beq_eq_false_iff_ne.2
  intro h
  apply he
  have hj := congrArg (fun x => x[j]?) h
  simp only [List.getElem?_take, h2, if_true, List.getElem?_drop] at hj
  rw [List.getElem?_eq_getElem h1, List.getElem?_eq_getElem h2] at hj
  exact Option.some.inj hj

/-- a string's byte, read by an index that is a sum -/
theorem idx_str (s : ByteArray) (x : Int) (k : Nat) (hx : x = k) (hk : k < s.size) (W : World) : (Instr.index 9 (.string s) (.int .i64 x)).run Tryd.prog W = .ok (.int .u8 (s[k].toNat : Int)) W := by
  subst hx
  rw [run_index_string W _ s _ _ Tryd.underlying9]
  simp [hk]

/-- what the search answers -/
def symText : Option (List UInt8) → ByteArray
  | some t => ⟨t.toArray⟩
  | none => ⟨#[]⟩

set_option maxRecDepth 100000 in
set_option maxHeartbeats 1000000 in
theorem symbolAt_any (s : ByteArray) (a : Nat) (w : World) (h1 : a < s.size) (hs : s.size ≤ 4000) (hS : SymsAt w) (o : Option (List UInt8)) (ho : tabFrom (s.data.toList.drop a) 0 = o) (T : ByteArray) (hT : symText o = T) :
    Calls Tryd.prog 31 #[.string s, .int .i64 a] w fun e w' => e = .returned (.string T) ∧ Below w.heap.size w w' := by
  have Ho := Lib.hid ho
  have HS := Lib.hid hS
  have HT := Lib.hid hT
  clear ho hS hT
  go_enter Tryd.func31, Tryd.ntmps31
  go_wp2
  go_step3
  go_wp2
  go_step3
  go_wp2_with ((with_reducible refine wpList_symLoad rfl _ rfl rfl HS.out ?_))
  go_loopg [9] 27 (fun g s9 wx => ∃ i : Nat, i + g = 27 ∧ s9 = .int .i64 i ∧ Hid (tabFrom (s.data.toList.drop a) i = o) ∧ Below w.heap.size w wx)
  case atStart => exact ⟨0, rfl, rfl, Ho, Below.refl _ _⟩
  case round =>
    obtain ⟨i, hig, rfl, Hi, hbx⟩ := hrel
    cases gk with
    | zero =>
      obtain rfl : i = 27 := by omega
      have HR : Hid (T = ⟨#[]⟩) := Lib.hid (by rw [← HT.out, ← Hi.out, tabFrom_end]; rfl)
      go_wp2
      try rw [Exit.noGoto_ret]
      go_ret
      exact ⟨ret_str HR.out.symm, hbx⟩
    | succ g =>
      obtain ⟨t, ht⟩ : ∃ t, symTab[i]? = some t := ⟨_, List.getElem?_eq_getElem (show i < symTab.length from (show i < 27 by omega))⟩
      have hidx := symIdx i t ht
      have hlen : t.length ≤ 3 := (symTab_short t (List.mem_of_getElem? ht)).1
      have Ht := Lib.hid ht
      have hi27 : i < 27 := by omega
      clear ht
      go_wp2
      obtain ⟨wo, rfl⟩ : ∃ wo : World, wo = wr := ⟨_, rfl⟩
      have Hbx := Lib.hid hbx
      clear hbx
      go_loopg [14] t.length (fun h s14 wy => ∃ j : Nat, j + h = t.length ∧ s14 = .int .i64 j ∧ Hid (Pre s.data.toList t a j) ∧ Hid (Below w.heap.size w wy))
      case atStart => exact ⟨0, by omega, rfl, Lib.hid (pre_zero _ _ _), Hbx⟩
      case round =>
        obtain ⟨j, hjh, rfl, Hj, Hby⟩ := hrel
        cases gk with
        | zero =>
          obtain rfl : j = t.length := by omega
          have HR : Hid (T = ⟨t.toArray⟩) := Lib.hid (by rw [← HT.out, ← Hi.out, tabFrom_yes _ t a i Ht.out (pre_all _ _ _ Hj.out)]; rfl)
          go_wp2
          try rw [Exit.noGoto_ret]
          go_ret
          exact ⟨ret_str HR.out.symm, Hby.out⟩
        | succ h =>
          have hjt : j < t.length := by omega
          by_cases hend : a + j = s.size
          · have hno := Lib.hid (tabFrom_no _ t a i Ht.out (pre_end _ t a j (by show s.size ≤ a + j; omega) hjt))
            have htest : (((a : Int) + (j : Int)) == (s.size : Int)) = true := beq_iff_eq.2 (by omega)
            clear hend
            go_wp2
            go_quiet (fail)
            go_wp2
            go_roundg g
            case measure => omega
            case rel => exact ⟨i + 1, by omega, by go_num, Lib.hid (by rw [← Hi.out, hno.out]), by first | exact below_drewN Hby.out _ | exact Hby.out⟩
          · have hlt : a + j < s.size := by
              rcases Nat.lt_or_ge (a + j) s.size with h | h
              · exact h
              · exfalso
                rcases Nat.lt_or_ge 0 j with h0 | h0
                · obtain ⟨j', rfl⟩ : ∃ j', j = j' + 1 := ⟨j - 1, by omega⟩
                  have hp := congrArg List.length Hj.out
                  rw [List.length_take, List.length_take, List.length_drop] at hp
                  have : s.data.toList.length = s.size := rfl
                  omega
                · omega
            have htest : (((a : Int) + (j : Int)) == (s.size : Int)) = false := beq_eq_false_iff_ne.2 (by omega)
            have hjz : j < (⟨t.toArray⟩ : ByteArray).size := by show j < t.toArray.size; simpa using hjt
            by_cases hc : s.data.toList[a + j] = t[j]
            · have Hnext := Lib.hid (pre_next _ t a j Hj.out hlt hjt hc)
              have hct : ((s[a + j].toNat : Int) != (t[j].toNat : Int)) = false := by
                rw [show s[a + j] = s.data.toList[a + j] from rfl, hc]
                exact bne_self_eq_false _
              clear hend hc
              have hi1 : ∀ W, (Instr.index 9 (.string s) (.int .i64 ((a : Int) + (j : Int)))).run Tryd.prog W = .ok (.int .u8 (s[a + j].toNat : Int)) W := idx_str s _ (a + j) (by omega) hlt
              have hi2 : ∀ W, (Instr.index 9 (.string ⟨t.toArray⟩) (.int .i64 (j : Int))).run Tryd.prog W = .ok (.int .u8 (t[j].toNat : Int)) W := idx_str ⟨t.toArray⟩ _ j rfl hjz
              have hsum : IntKind.i64.wrap ((a : Int) + (j : Int)) = (a : Int) + (j : Int) := IntWalk.i64_in _ (by omega)
              go_wp2
              go_quiet (fail)
              clear hsum hi1 hi2
              go_wp2
              go_roundg h
              case measure => omega
              case rel => exact ⟨j + 1, by omega, by go_num, Hnext, Lib.hid (by first | exact below_drewN Hby.out _ | exact Hby.out)⟩
            · have hno := Lib.hid (tabFrom_no _ t a i Ht.out (pre_off _ t a j hlt hjt hc))
              have hct : ((s[a + j].toNat : Int) != (t[j].toNat : Int)) = true := by
                rw [bne_iff_ne]
                intro h
                apply hc
                apply UInt8.toNat_inj.1
                show s[a + j].toNat = t[j].toNat
                omega
              clear hend hc
              have hi1 : ∀ W, (Instr.index 9 (.string s) (.int .i64 ((a : Int) + (j : Int)))).run Tryd.prog W = .ok (.int .u8 (s[a + j].toNat : Int)) W := idx_str s _ (a + j) (by omega) hlt
              have hi2 : ∀ W, (Instr.index 9 (.string ⟨t.toArray⟩) (.int .i64 (j : Int))).run Tryd.prog W = .ok (.int .u8 (t[j].toNat : Int)) W := idx_str ⟨t.toArray⟩ _ j rfl hjz
              have hsum : IntKind.i64.wrap ((a : Int) + (j : Int)) = (a : Int) + (j : Int) := IntWalk.i64_in _ (by omega)
              go_wp2
              go_quiet (fail)
              clear hsum hi1 hi2
              go_wp2
              go_roundg g
              case measure => omega
              case rel => exact ⟨i + 1, by omega, by go_num, Lib.hid (by rw [← Hi.out, hno.out]), by first | exact below_drewN Hby.out _ | exact Hby.out⟩

end Go.Proofs.YtpggfkdfchafhaaDoor
