/-
  The plain functions of the lexer of chapter 1 (bytes as natural numbers) and their laws; no program is imported.
-/
namespace Go.Proofs.YtpggfkdfchafhaaDoor.Lx

def white (c : Int) : Bool := c == 32 || c == 9 || c == 10 || c == 13
def letter (c : Int) : Bool := (decide (97 ≤ c) && decide (c ≤ 122)) || (decide (65 ≤ c) && decide (c ≤ 90))
def digit (c : Int) : Bool := decide (48 ≤ c) && decide (c ≤ 57)
def word (c : Int) : Bool := letter c || digit c || c == 95
def whiteU (c : UInt8) : Bool := white (c.toNat : Int)
def letterU (c : UInt8) : Bool := letter (c.toNat : Int)
def digitU (c : UInt8) : Bool := digit (c.toNat : Int)
def wordU (c : UInt8) : Bool := word (c.toNat : Int)
def begins (l t : List UInt8) (a : Nat) : Bool := (l.drop a).take t.length == t

/-- the length of the gap at the beginning of a text; 'note' says whether a comment is open -/
def skip (note : Bool) : List UInt8 → Nat
  | [] => 0
  | c :: r =>
    if note then (if c = 10 then 1 + skip false r else 1 + skip true r)
    else if whiteU c then 1 + skip false r
    else if c = 47 ∧ r.head? = some 47 then 1 + skip true r
    else 0

theorem skip_le (l : List UInt8) : ∀ note, skip note l ≤ l.length := by
  induction l with
  | nil => intro n; simp [skip]
  | cons c r ih =>
    intro n
    have h1 := ih true
    have h2 := ih false
    simp only [skip, List.length_cons]
    repeat' split
    all_goals omega

theorem drop_at (l : List UInt8) (k : Nat) (h : k < l.length) : l.drop k = l[k] :: l.drop (k + 1) := List.drop_eq_getElem_cons h

theorem begins2_iff (l : List UInt8) (k : Nat) (h : k < l.length) : begins l [47, 47] k = true ↔ l[k] = 47 ∧ (l.drop (k + 1)).head? = some 47 := by
  unfold begins
  rw [drop_at l k h]
  cases hr : l.drop (k + 1) with
  | nil => simp
  | cons c r => simp

theorem skip_end (l : List UInt8) (k : Nat) (b : Bool) (h : l.length ≤ k) : skip b (l.drop k) = 0 := by
  rw [List.drop_eq_nil_of_le h]; simp [skip]

theorem skip_white (l : List UInt8) (k : Nat) (h : k < l.length) (hw : whiteU l[k] = true) : skip false (l.drop k) = 1 + skip false (l.drop (k + 1)) := by
  rw [drop_at l k h]; simp [skip, hw]

theorem white47 : whiteU 47 = false := by decide

theorem skip_note (l : List UInt8) (k : Nat) (h : k < l.length) (hb : begins l [47, 47] k = true) : skip false (l.drop k) = skip true (l.drop k) := by
  obtain ⟨h1, h2⟩ := (begins2_iff l k h).1 hb
  rw [drop_at l k h]
  simp only [skip, h1, h2, white47]
  simp

theorem skip_none (l : List UInt8) (k : Nat) (h : k < l.length) (hb : begins l [47, 47] k = false) (hw : whiteU l[k] = false) : skip false (l.drop k) = 0 := by
  have := begins2_iff l k h
  rw [drop_at l k h]
  simp only [skip, hw]
  simp [hb] at this
  simp
  intro h1 h2
  exact absurd h2 (by simpa using this h1)

theorem skip_in (l : List UInt8) (k : Nat) (h : k < l.length) (hc : l[k] ≠ 10) : skip true (l.drop k) = 1 + skip true (l.drop (k + 1)) := by
  rw [drop_at l k h]; simp [skip, hc]

theorem skip_out (l : List UInt8) (k : Nat) (h : k < l.length) (hc : l[k] = 10) : skip true (l.drop k) = skip false (l.drop k) := by
  rw [drop_at l k h]; simp [skip, hc, show whiteU 10 = true from by decide]

/-- the number of bytes at the beginning of a text that have a property -/
def run (p : UInt8 → Bool) (l : List UInt8) : Nat := (l.takeWhile p).length

theorem run_le (p : UInt8 → Bool) (l : List UInt8) : run p l ≤ l.length := (List.takeWhile_prefix p).sublist.length_le
theorem run_end (p : UInt8 → Bool) (l : List UInt8) (k : Nat) (h : l.length ≤ k) : run p (l.drop k) = 0 := by
  rw [List.drop_eq_nil_of_le h]; rfl
theorem run_cons (p : UInt8 → Bool) (c : UInt8) (r : List UInt8) : run p (c :: r) = if p c then 1 + run p r else 0 := by
  unfold run
  rw [List.takeWhile_cons]
  split
  · rw [List.length_cons]; omega
  · rfl
theorem run_yes (p : UInt8 → Bool) (l : List UInt8) (k : Nat) (h : k < l.length) (hp : p l[k] = true) : run p (l.drop k) = 1 + run p (l.drop (k + 1)) := by
  rw [drop_at l k h, run_cons, if_pos hp]
theorem run_no (p : UInt8 → Bool) (l : List UInt8) (k : Nat) (h : k < l.length) (hp : p l[k] = false) : run p (l.drop k) = 0 := by
  rw [drop_at l k h, run_cons, if_neg (by rw [hp]; exact Bool.false_ne_true)]

theorem word_letter (c : UInt8) (h : letterU c = true) : wordU c = true := by
  unfold wordU word; unfold letterU at h; rw [h]; rfl
theorem word_digit (c : UInt8) (h : digitU c = true) : wordU c = true := by
  unfold wordU word; unfold digitU at h; rw [h]; simp
theorem word_under (c : UInt8) (h : ((c.toNat : Int) == 95) = true) : wordU c = true := by
  unfold wordU word; rw [h]; simp
theorem word_none (c : UInt8) (h1 : letterU c = false) (h2 : digitU c = false) (h3 : ((c.toNat : Int) == 95) = false) : wordU c = false := by
  unfold wordU word; unfold letterU at h1; unfold digitU at h2; rw [h1, h2, h3]; rfl

/-- does a letter or an underscore come first? -/
def lu : List UInt8 → Bool
  | [] => false
  | c :: _ => letterU c || ((c.toNat : Int) == 95)
/-- is the run of n digits at the beginning of a text a number? -/
def numOk (l : List UInt8) (n : Nat) : Bool := decide (n ≤ 9) && (!(l.head? == some 48) || n == 1) && !lu (l.drop n)

theorem lu_at (s : ByteArray) (k : Nat) (h : k < s.size) : lu (s.data.toList.drop k) = (letterU s.data.toList[k] || ((s[k].toNat : Int) == 95)) := by
  rw [drop_at s.data.toList k h]; rfl
theorem lu_end (s : ByteArray) (k : Nat) (h : ¬ k < s.size) : lu (s.data.toList.drop k) = false := by
  rw [List.drop_eq_nil_of_le (by show s.size ≤ k; omega)]; rfl
theorem numOk_eq (s : ByteArray) (a k n : Nat) (h : a < s.size) (e : a + n = k) :
    numOk (s.data.toList.drop a) n = (decide ((k : Int) - a ≤ 9) && (!((s[a].toNat : Int) == 48) || ((k : Int) == a + 1)) && !lu (s.data.toList.drop k)) := by
  subst e
  unfold numOk
  rw [List.drop_drop]
  congr 1
  congr 1
  · rw [decide_eq_decide]; omega
  · congr 1
    · rw [drop_at s.data.toList a h]
      congr 1
      rw [Bool.eq_iff_iff]
      simp only [List.head?_cons, beq_iff_eq, Option.some.injEq]
      constructor
      · intro h'
        show ((s.data.toList[a].toNat : Nat) : Int) = 48
        rw [h']; rfl
      · intro h'
        apply UInt8.toNat_inj.1
        show s[a].toNat = 48
        omega
    · rw [Bool.eq_iff_iff]
      simp only [beq_iff_eq]
      omega

theorem nf1 {K : Int} {X Y : Bool} (h : 9 < K) : false = (decide (K ≤ 9) && X && Y) := by
  rw [decide_eq_false (by omega)]; rfl
theorem nf2 {X Y : Bool} (h : Y = true) : false = (X && !Y) := by rw [h]; simp
theorem nt1 {K S : Int} {E Y : Bool} (h : K ≤ 9) (h2 : ¬ S = 48) (h3 : Y = false) : true = (decide (K ≤ 9) && (!(S == 48) || E) && !Y) := by
  rw [decide_eq_true h, h3, beq_eq_false_iff_ne.2 h2]; rfl
theorem ne1 {K S : Int} {E Y : Bool} (h : K ≤ 9) (h2 : S = 48) (h3 : Y = false) : E = (decide (K ≤ 9) && (!(S == 48) || E) && !Y) := by
  rw [decide_eq_true h, h3, h2]; simp
theorem lu_no (s : ByteArray) (k : Nat) (h : k < s.size) (hl : letterU s.data.toList[k] = false) : lu (s.data.toList.drop k) = ((s[k].toNat : Int) == 95) := by
  rw [lu_at s k h, hl]; rfl
theorem lu_yes (s : ByteArray) (k : Nat) (h : k < s.size) (hl : letterU s.data.toList[k] = true) : lu (s.data.toList.drop k) = true := by
  rw [lu_at s k h, hl]; rfl

/-- the symbols, in the order of the reference -/
def refSyms : List (List UInt8) := [[61, 61, 62], [58, 61], [61, 61], [33, 61], [60, 61], [38, 38], [124, 124], [123], [125], [40], [41], [91], [93], [59], [58], [44], [46], [63], [61], [33], [60], [38], [124], [94], [43], [45], [42]]
/-- the first symbol of the reference's table that begins a text -/
def sym (l : List UInt8) : Option (List UInt8) := refSyms.find? fun t => l.take t.length == t
/-- the kind and the length of the token that begins a text -/
def tok (l : List UInt8) : Option (Nat × Nat) :=
  match l with
  | [] => none
  | c :: _ =>
    if letterU c then (if run wordU l ≤ 16 then some (1, run wordU l) else none)
    else if digitU c then (if numOk l (run digitU l) then some (2, run digitU l) else none)
    else (sym l).map fun t => (3, t.length)

end Go.Proofs.YtpggfkdfchafhaaDoor.Lx
