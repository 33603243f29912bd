/-
  Plain laws of the classes of bytes that the program writes as ranges.
-/
import Derived.Test.YtpggfkdfchafhaaDoorLxSpecb
namespace Go.Proofs.YtpggfkdfchafhaaDoor.Lx

/-- does a byte lie in one of the ranges that a text lists? -/
def inCls : List UInt8 → Int → Bool
  | a :: b :: r, x => (decide ((a.toNat : Int) ≤ x) && decide (x ≤ (b.toNat : Int))) || inCls r x
  | _, _ => false

theorem inCls_at (l : List UInt8) (m : Nat) (x : Int) (h : m + 1 < l.length) : inCls (l.drop m) x = ((decide ((l[m].toNat : Int) ≤ x) && decide (x ≤ (l[m + 1].toNat : Int))) || inCls (l.drop (m + 2)) x) := by
  rw [drop_at l m (by omega), drop_at l (m + 1) h]
  rfl
theorem inCls_end (l : List UInt8) (m : Nat) (x : Int) (h : l.length ≤ m) : inCls (l.drop m) x = false := by
  rw [List.drop_eq_nil_of_le h]; rfl

theorem cls_white (x : Int) : inCls [9, 10, 13, 13, 32, 32] x = white x := by
  rw [Bool.eq_iff_iff]
  simp [inCls, white]
  omega
theorem cls_feed (x : Int) : inCls [10, 10] x = (x == 10) := by
  rw [Bool.eq_iff_iff]
  simp [inCls]
  omega
theorem cls_letter (x : Int) : inCls [65, 90, 97, 122] x = letter x := by
  rw [Bool.eq_iff_iff]
  simp [inCls, letter]
  omega
theorem cls_digit (x : Int) : inCls [48, 57] x = digit x := by
  rw [Bool.eq_iff_iff]
  simp [inCls, digit]
theorem cls_word (x : Int) : inCls [48, 57, 65, 90, 95, 95, 97, 122] x = word x := by
  rw [Bool.eq_iff_iff]
  simp [inCls, word, letter, digit]
  omega

/-- not a line feed -/
def other (c : UInt8) : Bool := !((c.toNat : Int) == 10)
theorem other_iff (c : UInt8) : other c = true ↔ c ≠ 10 := by
  unfold other
  constructor
  · intro h e; subst e; exact absurd h (by decide)
  · intro h
    simp only [Bool.not_eq_true', beq_eq_false_iff_ne, ne_eq]
    intro e
    exact h (UInt8.toNat_inj.1 (by show c.toNat = 10; omega))

theorem run_stop (p : UInt8 → Bool) (l : List UInt8) (h : run p l < l.length) : p (l[run p l]) = false := by
  induction l with
  | nil => simp at h
  | cons c r ih =>
    cases hp : p c
    · have e : run p (c :: r) = 0 := by rw [run_cons, hp]; rfl
      simp only [e, List.getElem_cons_zero]
      exact hp
    · have e : run p (c :: r) = run p r + 1 := by rw [run_cons, hp]; simp; omega
      simp only [e, List.getElem_cons_succ]
      exact ih (by rw [e] at h; simpa using h)
theorem run_stop_at (p : UInt8 → Bool) (l : List UInt8) (a k : Nat) (hk : k = a + run p (l.drop a)) (h : k < l.length) : p l[k] = false := by
  subst hk
  have h1 := run_stop p (l.drop a) (by rw [List.length_drop]; omega)
  simpa using h1

theorem skip_run_white (l : List UInt8) : skip false l = run whiteU l + skip false (l.drop (run whiteU l)) := by
  induction l with
  | nil => rfl
  | cons c r ih =>
    cases hw : whiteU c
    · have e : run whiteU (c :: r) = 0 := by rw [run_cons, hw]; rfl
      rw [e]
      simp
    · have e : run whiteU (c :: r) = run whiteU r + 1 := by rw [run_cons, hw]; simp; omega
      rw [e, List.drop_succ_cons]
      conv => lhs; unfold skip
      simp only [hw, Bool.false_eq_true, if_false, if_true]
      omega
theorem skip_run_other (l : List UInt8) : skip true l = run other l + skip false (l.drop (run other l)) := by
  induction l with
  | nil => rfl
  | cons c r ih =>
    cases hw : other c
    · have e : run other (c :: r) = 0 := by rw [run_cons, hw]; rfl
      have hc : c = 10 := by
        have := other_iff c
        rw [hw] at this
        simpa using this
      rw [e, hc]
      simp [skip, show whiteU 10 = true from by decide]
    · have e : run other (c :: r) = run other r + 1 := by rw [run_cons, hw]; simp; omega
      have hc := (other_iff c).1 hw
      rw [e, List.drop_succ_cons]
      conv => lhs; unfold skip
      simp only [hc, if_false, if_true]
      omega
/-- one step of the program's way through a gap -/
theorem gap_white (l : List UInt8) (a k : Nat) (hk : k = a + run whiteU (l.drop a)) : a + skip false (l.drop a) = k + skip false (l.drop k) := by
  rw [skip_run_white (l.drop a), List.drop_drop, ← hk]
  omega
theorem gap_other (l : List UInt8) (a k : Nat) (hk : k = a + run other (l.drop a)) : a + skip true (l.drop a) = k + skip false (l.drop k) := by
  rw [skip_run_other (l.drop a), List.drop_drop, ← hk]
  omega

theorem lu_run (l : List UInt8) (k m : Nat) (hm : m = k + run wordU (l.drop k)) (h : ∀ h : k < l.length, digitU l[k] = false) : lu (l.drop k) = decide (k < m) := by
  by_cases hlt : k < l.length
  · have hd := h hlt
    cases hw : wordU l[k]
    · rw [run_no _ _ _ hlt hw] at hm
      rw [decide_eq_false (by omega), drop_at l k hlt]
      unfold wordU word at hw
      simp only [Bool.or_eq_false_iff] at hw
      show (letterU l[k] || ((l[k].toNat : Int) == 95)) = false
      rw [show letterU l[k] = false from hw.1.1, hw.2]
      rfl
    · rw [run_yes _ _ _ hlt hw] at hm
      rw [decide_eq_true (by omega), drop_at l k hlt]
      unfold wordU word at hw
      unfold digitU at hd
      rw [hd, Bool.or_false] at hw
      exact hw
  · rw [List.drop_eq_nil_of_le (by omega)] at hm ⊢
    rw [decide_eq_false (by rw [hm]; show ¬ k < k + 0; omega)]
    rfl

end Go.Proofs.YtpggfkdfchafhaaDoor.Lx
