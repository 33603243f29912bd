/-
  Merged texts of the base: LxSpec LxSpecb LxSpecc LxLen LxGaps LxMore LxConcat LxLay Px Pxa Pxb Pxc Una Sma Smx Smb Smc Smd Sme Smf Lca Lcb.
-/

set_option linter.unusedVariables false
set_option linter.unusedSimpArgs false
/-
  The plain functions of the lexer of chapter 1 (bytes as natural numbers) and their laws; no program is imported.
-/
namespace Go.Proofs.YtbgpboiblggmiaaGreatDoor.Lx

def white (c : Int) : Bool := c == 32 || c == 9 || c == 10 || c == 13
def letter (c : Int) : Bool := (decide (97 ≤ c) && decide (c ≤ 122)) || (decide (65 ≤ c) && decide (c ≤ 90))
def digit (c : Int) : Bool := decide (48 ≤ c) && decide (c ≤ 57)
def word (c : Int) : Bool := letter c || digit c || c == 95
def whiteU (c : UInt8) : Bool := white (c.toNat : Int)
def letterU (c : UInt8) : Bool := letter (c.toNat : Int)
def digitU (c : UInt8) : Bool := digit (c.toNat : Int)
def wordU (c : UInt8) : Bool := word (c.toNat : Int)
def begins (l t : List UInt8) (a : Nat) : Bool := (l.drop a).take t.length == t

/-- the length of the gap at the beginning of a text; 'note' says whether a comment is open -/
def skip (note : Bool) : List UInt8 → Nat
  | [] => 0
  | c :: r =>
    if note then (if c = 10 then 1 + skip false r else 1 + skip true r)
    else if whiteU c then 1 + skip false r
    else if c = 47 ∧ r.head? = some 47 then 1 + skip true r
    else 0

theorem skip_le (l : List UInt8) : ∀ note, skip note l ≤ l.length := by
  induction l with
  | nil => intro n; simp [skip]
  | cons c r ih =>
    intro n
    have h1 := ih true
    have h2 := ih false
    simp only [skip, List.length_cons]
    repeat' split
    all_goals omega

theorem drop_at (l : List UInt8) (k : Nat) (h : k < l.length) : l.drop k = l[k] :: l.drop (k + 1) := List.drop_eq_getElem_cons h

theorem begins2_iff (l : List UInt8) (k : Nat) (h : k < l.length) : begins l [47, 47] k = true ↔ l[k] = 47 ∧ (l.drop (k + 1)).head? = some 47 := by
  unfold begins
  rw [drop_at l k h]
  cases hr : l.drop (k + 1) with
  | nil => simp
  | cons c r => simp

theorem skip_end (l : List UInt8) (k : Nat) (b : Bool) (h : l.length ≤ k) : skip b (l.drop k) = 0 := by
  rw [List.drop_eq_nil_of_le h]; simp [skip]

theorem skip_white (l : List UInt8) (k : Nat) (h : k < l.length) (hw : whiteU l[k] = true) : skip false (l.drop k) = 1 + skip false (l.drop (k + 1)) := by
  rw [drop_at l k h]; simp [skip, hw]

theorem white47 : whiteU 47 = false := by decide

theorem skip_note (l : List UInt8) (k : Nat) (h : k < l.length) (hb : begins l [47, 47] k = true) : skip false (l.drop k) = skip true (l.drop k) := by
  obtain ⟨h1, h2⟩ := (begins2_iff l k h).1 hb
  rw [drop_at l k h]
  simp only [skip, h1, h2, white47]
  simp

theorem skip_none (l : List UInt8) (k : Nat) (h : k < l.length) (hb : begins l [47, 47] k = false) (hw : whiteU l[k] = false) : skip false (l.drop k) = 0 := by
  have := begins2_iff l k h
  rw [drop_at l k h]
  simp only [skip, hw]
  simp [hb] at this
  simp
  intro h1 h2
  exact absurd h2 (by simpa using this h1)

theorem skip_in (l : List UInt8) (k : Nat) (h : k < l.length) (hc : l[k] ≠ 10) : skip true (l.drop k) = 1 + skip true (l.drop (k + 1)) := by
  rw [drop_at l k h]; simp [skip, hc]

theorem skip_out (l : List UInt8) (k : Nat) (h : k < l.length) (hc : l[k] = 10) : skip true (l.drop k) = skip false (l.drop k) := by
  rw [drop_at l k h]; simp [skip, hc, show whiteU 10 = true from by decide]

/-- the number of bytes at the beginning of a text that have a property -/
def run (p : UInt8 → Bool) (l : List UInt8) : Nat := (l.takeWhile p).length

theorem run_le (p : UInt8 → Bool) (l : List UInt8) : run p l ≤ l.length := (List.takeWhile_prefix p).sublist.length_le
theorem run_end (p : UInt8 → Bool) (l : List UInt8) (k : Nat) (h : l.length ≤ k) : run p (l.drop k) = 0 := by
  rw [List.drop_eq_nil_of_le h]; rfl
theorem run_cons (p : UInt8 → Bool) (c : UInt8) (r : List UInt8) : run p (c :: r) = if p c then 1 + run p r else 0 := by
  unfold run
  rw [List.takeWhile_cons]
  split
  · rw [List.length_cons]; omega
  · rfl
theorem run_yes (p : UInt8 → Bool) (l : List UInt8) (k : Nat) (h : k < l.length) (hp : p l[k] = true) : run p (l.drop k) = 1 + run p (l.drop (k + 1)) := by
  rw [drop_at l k h, run_cons, if_pos hp]
theorem run_no (p : UInt8 → Bool) (l : List UInt8) (k : Nat) (h : k < l.length) (hp : p l[k] = false) : run p (l.drop k) = 0 := by
  rw [drop_at l k h, run_cons, if_neg (by rw [hp]; exact Bool.false_ne_true)]

theorem word_letter (c : UInt8) (h : letterU c = true) : wordU c = true := by
  unfold wordU word; unfold letterU at h; rw [h]; rfl
theorem word_digit (c : UInt8) (h : digitU c = true) : wordU c = true := by
  unfold wordU word; unfold digitU at h; rw [h]; simp
theorem word_under (c : UInt8) (h : ((c.toNat : Int) == 95) = true) : wordU c = true := by
  unfold wordU word; rw [h]; simp
theorem word_none (c : UInt8) (h1 : letterU c = false) (h2 : digitU c = false) (h3 : ((c.toNat : Int) == 95) = false) : wordU c = false := by
  unfold wordU word; unfold letterU at h1; unfold digitU at h2; rw [h1, h2, h3]; rfl

/-- does a letter or an underscore come first? -/
def lu : List UInt8 → Bool
  | [] => false
  | c :: _ => letterU c || ((c.toNat : Int) == 95)
/-- is the run of n digits at the beginning of a text a number? -/
def numOk (l : List UInt8) (n : Nat) : Bool := decide (n ≤ 9) && (!(l.head? == some 48) || n == 1) && !lu (l.drop n)

theorem lu_at (s : ByteArray) (k : Nat) (h : k < s.size) : lu (s.data.toList.drop k) = (letterU s.data.toList[k] || ((s[k].toNat : Int) == 95)) := by
  rw [drop_at s.data.toList k h]; rfl
theorem lu_end (s : ByteArray) (k : Nat) (h : ¬ k < s.size) : lu (s.data.toList.drop k) = false := by
  rw [List.drop_eq_nil_of_le (by show s.size ≤ k; omega)]; rfl
theorem numOk_eq (s : ByteArray) (a k n : Nat) (h : a < s.size) (e : a + n = k) :
    numOk (s.data.toList.drop a) n = (decide ((k : Int) - a ≤ 9) && (!((s[a].toNat : Int) == 48) || ((k : Int) == a + 1)) && !lu (s.data.toList.drop k)) := by
  subst e
  unfold numOk
  rw [List.drop_drop]
  congr 1
  congr 1
  · rw [decide_eq_decide]; omega
  · congr 1
    · rw [drop_at s.data.toList a h]
      congr 1
      rw [Bool.eq_iff_iff]
      simp only [List.head?_cons, beq_iff_eq, Option.some.injEq]
      constructor
      · intro h'
        show ((s.data.toList[a].toNat : Nat) : Int) = 48
        rw [h']; rfl
      · intro h'
        apply UInt8.toNat_inj.1
        show s[a].toNat = 48
        omega
    · rw [Bool.eq_iff_iff]
      simp only [beq_iff_eq]
      omega

theorem nf1 {K : Int} {X Y : Bool} (h : 9 < K) : false = (decide (K ≤ 9) && X && Y) := by
  rw [decide_eq_false (by omega)]; rfl
theorem nf2 {X Y : Bool} (h : Y = true) : false = (X && !Y) := by rw [h]; simp
theorem nt1 {K S : Int} {E Y : Bool} (h : K ≤ 9) (h2 : ¬ S = 48) (h3 : Y = false) : true = (decide (K ≤ 9) && (!(S == 48) || E) && !Y) := by
  rw [decide_eq_true h, h3, beq_eq_false_iff_ne.2 h2]; rfl
theorem ne1 {K S : Int} {E Y : Bool} (h : K ≤ 9) (h2 : S = 48) (h3 : Y = false) : E = (decide (K ≤ 9) && (!(S == 48) || E) && !Y) := by
  rw [decide_eq_true h, h3, h2]; simp
theorem lu_no (s : ByteArray) (k : Nat) (h : k < s.size) (hl : letterU s.data.toList[k] = false) : lu (s.data.toList.drop k) = ((s[k].toNat : Int) == 95) := by
  rw [lu_at s k h, hl]; rfl
theorem lu_yes (s : ByteArray) (k : Nat) (h : k < s.size) (hl : letterU s.data.toList[k] = true) : lu (s.data.toList.drop k) = true := by
  rw [lu_at s k h, hl]; rfl

/-- the symbols, in the order of the reference -/
def refSyms : List (List UInt8) := [[61, 61, 62], [58, 61], [61, 61], [33, 61], [60, 61], [38, 38], [124, 124], [123], [125], [40], [41], [91], [93], [59], [58], [44], [46], [63], [61], [33], [60], [38], [124], [94], [43], [45], [42]]
/-- the first symbol of the reference's table that begins a text -/
def sym (l : List UInt8) : Option (List UInt8) := refSyms.find? fun t => l.take t.length == t
/-- the kind and the length of the token that begins a text -/
def tok (l : List UInt8) : Option (Nat × Nat) :=
  match l with
  | [] => none
  | c :: _ =>
    if letterU c then (if run wordU l ≤ 16 then some (1, run wordU l) else none)
    else if digitU c then (if numOk l (run digitU l) then some (2, run digitU l) else none)
    else (sym l).map fun t => (3, t.length)

end Go.Proofs.YtbgpboiblggmiaaGreatDoor.Lx

/-
  More plain laws of the lexer: the tokens at a position, cases.
-/
namespace Go.Proofs.YtbgpboiblggmiaaGreatDoor.Lx

theorem tok_letter (l : List UInt8) (a : Nat) (h : a < l.length) (hl : letterU l[a] = true) :
    tok (l.drop a) = if run wordU (l.drop a) ≤ 16 then some (1, run wordU (l.drop a)) else none := by
  conv => lhs; rw [drop_at l a h]
  unfold tok
  simp only [hl, if_true]
  rw [← drop_at l a h]
theorem tok_digit (l : List UInt8) (a : Nat) (h : a < l.length) (hl : letterU l[a] = false) (hd : digitU l[a] = true) :
    tok (l.drop a) = if numOk (l.drop a) (run digitU (l.drop a)) then some (2, run digitU (l.drop a)) else none := by
  conv => lhs; rw [drop_at l a h]
  unfold tok
  simp only [hl, hd, if_true, Bool.false_eq_true, if_false]
  rw [← drop_at l a h]
theorem tok_sym (l : List UInt8) (a : Nat) (h : a < l.length) (hl : letterU l[a] = false) (hd : digitU l[a] = false) :
    tok (l.drop a) = (sym (l.drop a)).map fun t => (3, t.length) := by
  conv => lhs; rw [drop_at l a h]
  unfold tok
  simp only [hl, hd, Bool.false_eq_true, if_false]
  rw [← drop_at l a h]

/-- the first symbol that begins a text, from an index of the table on -/
def symFrom (l : List UInt8) (i : Nat) : Option (List UInt8) := (refSyms.drop i).find? fun t => l.take t.length == t
theorem symFrom_zero (l : List UInt8) : symFrom l 0 = sym l := rfl
theorem symFrom_yes (l t : List UInt8) (a i : Nat) (h : refSyms[i]? = some t) (hb : begins l t a = true) : symFrom (l.drop a) i = some t := by
  obtain ⟨hi, ht⟩ := List.getElem?_eq_some_iff.1 h
  unfold symFrom
  rw [List.drop_eq_getElem_cons hi, ht]
  unfold begins at hb
  rw [List.find?_cons]
  simp only [hb]
theorem symFrom_no (l t : List UInt8) (a i : Nat) (h : refSyms[i]? = some t) (hb : begins l t a = false) : symFrom (l.drop a) i = symFrom (l.drop a) (i + 1) := by
  obtain ⟨hi, ht⟩ := List.getElem?_eq_some_iff.1 h
  unfold symFrom
  rw [List.drop_eq_getElem_cons hi, ht]
  unfold begins at hb
  rw [List.find?_cons]
  simp only [hb]
theorem symFrom_end (l : List UInt8) : symFrom l 27 = none := rfl
theorem refSyms_len : refSyms.length = 27 := rfl
theorem refSyms_short : ∀ t ∈ refSyms, t.length ≤ 3 ∧ 0 < t.length := by decide
theorem sym_len (l t : List UInt8) (h : sym l = some t) : l.take t.length = t ∧ t.length ≤ 3 ∧ 0 < t.length := by
  have h1 := List.find?_some h
  have h2 := List.mem_of_find?_eq_some h
  exact ⟨by simpa using h1, refSyms_short t h2⟩

theorem run_pos (p : UInt8 → Bool) (c : UInt8) (r : List UInt8) (h : p c = true) : 0 < run p (c :: r) := by rw [run_cons, if_pos h]; omega
theorem tok_pos (l : List UInt8) (kd n : Nat) (h : tok l = some (kd, n)) : 0 < n ∧ n ≤ l.length := by
  cases l with
  | nil => simp [tok] at h
  | cons c r =>
    unfold tok at h
    simp only at h
    split at h
    · rename_i hl
      split at h
      · simp only [Option.some.injEq, Prod.mk.injEq] at h
        rw [← h.2]
        exact ⟨run_pos _ _ _ (word_letter c hl), run_le _ _⟩
      · cases h
    · split at h
      · rename_i hd
        split at h
        · simp only [Option.some.injEq, Prod.mk.injEq] at h
          rw [← h.2]
          exact ⟨run_pos _ _ _ hd, run_le _ _⟩
        · cases h
      · cases hs : sym (c :: r) with
        | none => rw [hs] at h; cases h
        | some t =>
          rw [hs] at h
          simp only [Option.map_some, Option.some.injEq, Prod.mk.injEq] at h
          rw [← h.2]
          obtain ⟨h1, _, h3⟩ := sym_len _ _ hs
          refine ⟨h3, ?_⟩
          have := congrArg List.length h1
          rw [List.length_take] at this
          omega

/-- a token: its kind, its text, its offset -/
structure Tok where
  kind : Nat
  text : List UInt8
  off : Nat
deriving DecidableEq

/-- the tokens from a position on, then the error's number and its position; c tokens were read before -/
def go : Nat → List UInt8 → Nat → Nat → List Tok × Nat × Nat
  | 0, _, _, _ => ([], 0, 0)
  | _ + 1, [], _, _ => ([], 0, 0)
  | f + 1, l@(_ :: _), a, c =>
    if c = 1500 then ([], 2, a)
    else match tok l with
      | none => ([], 10, a)
      | some (kd, n) =>
        let g := skip false (l.drop n)
        let r := go f ((l.drop n).drop g) (a + n + g) (c + 1)
        (⟨kd, l.take n, a⟩ :: r.1, r.2)

/-- with an error there are no tokens -/
def fin (r : List Tok × Nat × Nat) : List Tok × Nat × Nat := if r.2.1 = 0 then (r.1, 0, 0) else ([], r.2.1, r.2.2)
/-- what chapter 1 says of Lex -/
def lex (l : List UInt8) : List Tok × Nat × Nat :=
  if 4000 < l.length then ([], 2, 0) else fin (go (l.length + 1) (l.drop (skip false l)) (skip false l) 0)

/-- what is still to come, behind the tokens that were read -/
def rest (f : Nat) (l : List UInt8) (k : Nat) (acc : List Tok) : List Tok × Nat × Nat :=
  fin (acc ++ (go f (l.drop k) k acc.length).1, (go f (l.drop k) k acc.length).2)

theorem lex_big (l : List UInt8) (h : 4000 < l.length) : lex l = ([], 2, 0) := by unfold lex; rw [if_pos h]
theorem lex_rest (l : List UInt8) (h : l.length ≤ 4000) : lex l = rest (l.length + 1) l (skip false l) [] := by
  unfold lex
  rw [if_neg (by omega)]
  rfl
theorem rest_end (f : Nat) (l : List UInt8) (k : Nat) (acc : List Tok) (h : l.length ≤ k) : rest f l k acc = (acc, 0, 0) := by
  unfold rest
  rw [List.drop_eq_nil_of_le h]
  cases f <;> simp [go, fin]
theorem rest_full (f : Nat) (l : List UInt8) (k : Nat) (acc : List Tok) (h : k < l.length) (hf : 0 < f) (hc : acc.length = 1500) : rest f l k acc = ([], 2, k) := by
  obtain ⟨f, rfl⟩ : ∃ g, f = g + 1 := ⟨f - 1, by omega⟩
  unfold rest
  rw [drop_at l k h, hc]
  simp [go, fin]
theorem rest_none (f : Nat) (l : List UInt8) (k : Nat) (acc : List Tok) (h : k < l.length) (hf : 0 < f) (hc : acc.length ≠ 1500) (ht : tok (l.drop k) = none) : rest f l k acc = ([], 10, k) := by
  obtain ⟨f, rfl⟩ : ∃ g, f = g + 1 := ⟨f - 1, by omega⟩
  have e : go (f + 1) (l.drop k) k acc.length = ([], 10, k) := by
    rw [drop_at l k h] at ht ⊢
    simp only [go, hc, if_false, ht]
  unfold rest
  rw [e]
  simp [fin]
theorem rest_some (f : Nat) (l : List UInt8) (k : Nat) (acc : List Tok) (kd n : Nat) (h : k < l.length) (hf : l.length - k < f) (hc : acc.length ≠ 1500) (ht : tok (l.drop k) = some (kd, n)) :
    0 < n ∧ k + n ≤ l.length ∧ l.length - (k + n + skip false (l.drop (k + n))) < f - 1 ∧ rest f l k acc = rest (f - 1) l (k + n + skip false (l.drop (k + n))) (acc ++ [⟨kd, (l.drop k).take n, k⟩]) := by
  obtain ⟨f, rfl⟩ : ∃ g, f = g + 1 := ⟨f - 1, by omega⟩
  obtain ⟨h1, h2⟩ := tok_pos _ _ _ ht
  rw [List.length_drop] at h2
  refine ⟨h1, by omega, by omega, ?_⟩
  unfold rest
  have e : (go (f + 1) (l.drop k) k acc.length) = (⟨kd, (l.drop k).take n, k⟩ :: (go f (l.drop (k + n + skip false (l.drop (k + n)))) (k + n + skip false (l.drop (k + n))) (acc.length + 1)).1, (go f (l.drop (k + n + skip false (l.drop (k + n)))) (k + n + skip false (l.drop (k + n))) (acc.length + 1)).2) := by
    conv => lhs; rw [drop_at l k h]
    rw [drop_at l k h] at ht
    simp only [go, hc, if_false, ht]
    rw [← drop_at l k h]
    simp only [List.drop_drop, Nat.add_assoc]
  rw [e]
  simp only [Nat.add_sub_cancel, List.length_append, List.length_singleton, List.append_assoc, List.singleton_append]

end Go.Proofs.YtbgpboiblggmiaaGreatDoor.Lx

/-
  Plain laws of the classes of bytes that the program writes as ranges.
-/
namespace Go.Proofs.YtbgpboiblggmiaaGreatDoor.Lx

/-- does a byte lie in one of the ranges that a text lists? -/
def inCls : List UInt8 → Int → Bool
  | a :: b :: r, x => (decide ((a.toNat : Int) ≤ x) && decide (x ≤ (b.toNat : Int))) || inCls r x
  | _, _ => false

theorem inCls_at (l : List UInt8) (m : Nat) (x : Int) (h : m + 1 < l.length) : inCls (l.drop m) x = ((decide ((l[m].toNat : Int) ≤ x) && decide (x ≤ (l[m + 1].toNat : Int))) || inCls (l.drop (m + 2)) x) := by
  rw [drop_at l m (by omega), drop_at l (m + 1) h]
  rfl
theorem inCls_end (l : List UInt8) (m : Nat) (x : Int) (h : l.length ≤ m) : inCls (l.drop m) x = false := by
  rw [List.drop_eq_nil_of_le h]; rfl

theorem cls_white (x : Int) : inCls [9, 10, 13, 13, 32, 32] x = white x := by
  rw [Bool.eq_iff_iff]
  simp [inCls, white]
  omega
theorem cls_feed (x : Int) : inCls [10, 10] x = (x == 10) := by
  rw [Bool.eq_iff_iff]
  simp [inCls]
  omega
theorem cls_letter (x : Int) : inCls [65, 90, 97, 122] x = letter x := by
  rw [Bool.eq_iff_iff]
  simp [inCls, letter]
  omega
theorem cls_digit (x : Int) : inCls [48, 57] x = digit x := by
  rw [Bool.eq_iff_iff]
  simp [inCls, digit]
theorem cls_word (x : Int) : inCls [48, 57, 65, 90, 95, 95, 97, 122] x = word x := by
  rw [Bool.eq_iff_iff]
  simp [inCls, word, letter, digit]
  omega

/-- not a line feed -/
def other (c : UInt8) : Bool := !((c.toNat : Int) == 10)
theorem other_iff (c : UInt8) : other c = true ↔ c ≠ 10 := by
  unfold other
  constructor
  · intro h e; subst e; exact absurd h (by decide)
  · intro h
    simp only [Bool.not_eq_true', beq_eq_false_iff_ne, ne_eq]
    intro e
    exact h (UInt8.toNat_inj.1 (by show c.toNat = 10; omega))

theorem run_stop (p : UInt8 → Bool) (l : List UInt8) (h : run p l < l.length) : p (l[run p l]) = false := by
  induction l with
  | nil => simp at h
  | cons c r ih =>
    cases hp : p c
    · have e : run p (c :: r) = 0 := by rw [run_cons, hp]; rfl
      simp only [e, List.getElem_cons_zero]
      exact hp
    · have e : run p (c :: r) = run p r + 1 := by rw [run_cons, hp]; simp; omega
      simp only [e, List.getElem_cons_succ]
      exact ih (by rw [e] at h; simpa using h)
theorem run_stop_at (p : UInt8 → Bool) (l : List UInt8) (a k : Nat) (hk : k = a + run p (l.drop a)) (h : k < l.length) : p l[k] = false := by
  subst hk
  have h1 := run_stop p (l.drop a) (by rw [List.length_drop]; omega)
  simpa using h1

theorem skip_run_white (l : List UInt8) : skip false l = run whiteU l + skip false (l.drop (run whiteU l)) := by
  induction l with
  | nil => rfl
  | cons c r ih =>
    cases hw : whiteU c
    · have e : run whiteU (c :: r) = 0 := by rw [run_cons, hw]; rfl
      rw [e]
      simp
    · have e : run whiteU (c :: r) = run whiteU r + 1 := by rw [run_cons, hw]; simp; omega
      rw [e, List.drop_succ_cons]
      conv => lhs; unfold skip
      simp only [hw, Bool.false_eq_true, if_false, if_true]
      omega
theorem skip_run_other (l : List UInt8) : skip true l = run other l + skip false (l.drop (run other l)) := by
  induction l with
  | nil => rfl
  | cons c r ih =>
    cases hw : other c
    · have e : run other (c :: r) = 0 := by rw [run_cons, hw]; rfl
      have hc : c = 10 := by
        have := other_iff c
        rw [hw] at this
        simpa using this
      rw [e, hc]
      simp [skip, show whiteU 10 = true from by decide]
    · have e : run other (c :: r) = run other r + 1 := by rw [run_cons, hw]; simp; omega
      have hc := (other_iff c).1 hw
      rw [e, List.drop_succ_cons]
      conv => lhs; unfold skip
      simp only [hc, if_false, if_true]
      omega
/-- one step of the program's way through a gap -/
theorem gap_white (l : List UInt8) (a k : Nat) (hk : k = a + run whiteU (l.drop a)) : a + skip false (l.drop a) = k + skip false (l.drop k) := by
  rw [skip_run_white (l.drop a), List.drop_drop, ← hk]
  omega
theorem gap_other (l : List UInt8) (a k : Nat) (hk : k = a + run other (l.drop a)) : a + skip true (l.drop a) = k + skip false (l.drop k) := by
  rw [skip_run_other (l.drop a), List.drop_drop, ← hk]
  omega

theorem lu_run (l : List UInt8) (k m : Nat) (hm : m = k + run wordU (l.drop k)) (h : ∀ h : k < l.length, digitU l[k] = false) : lu (l.drop k) = decide (k < m) := by
  by_cases hlt : k < l.length
  · have hd := h hlt
    cases hw : wordU l[k]
    · rw [run_no _ _ _ hlt hw] at hm
      rw [decide_eq_false (by omega), drop_at l k hlt]
      unfold wordU word at hw
      simp only [Bool.or_eq_false_iff] at hw
      show (letterU l[k] || ((l[k].toNat : Int) == 95)) = false
      rw [show letterU l[k] = false from hw.1.1, hw.2]
      rfl
    · rw [run_yes _ _ _ hlt hw] at hm
      rw [decide_eq_true (by omega), drop_at l k hlt]
      unfold wordU word at hw
      unfold digitU at hd
      rw [hd, Bool.or_false] at hw
      exact hw
  · rw [List.drop_eq_nil_of_le (by omega)] at hm ⊢
    rw [decide_eq_false (by rw [hm]; show ¬ k < k + 0; omega)]
    rfl

end Go.Proofs.YtbgpboiblggmiaaGreatDoor.Lx

/-
  How many tokens there can be.
-/
namespace Go.Proofs.YtbgpboiblggmiaaGreatDoor.Lx

theorem go_len (f : Nat) : ∀ (l : List UInt8) (a c : Nat), c ≤ 1500 → (go f l a c).1.length + c ≤ 1500 := by
  induction f with
  | zero => intro l a c h; simp [go]; omega
  | succ f ih =>
    intro l a c h
    cases l with
    | nil => simp [go]; omega
    | cons x r =>
      unfold go
      split
      · simp; omega
      · rename_i hc
        cases tok (x :: r) with
        | none => simp; omega
        | some kn =>
          have := ih ((List.drop kn.2 (x :: r)).drop (skip false (List.drop kn.2 (x :: r)))) (a + kn.2 + skip false (List.drop kn.2 (x :: r))) (c + 1) (by omega)
          simp only [List.length_cons]
          omega
theorem lex_len (l : List UInt8) : (lex l).1.length ≤ 1500 := by
  unfold lex
  split
  · simp
  · unfold fin
    split
    · have := go_len (l.length + 1) (l.drop (skip false l)) (skip false l) 0 (by omega)
      simpa using this
    · simp
theorem lex_len_of {l : List UInt8} {ts : List Tok} {k p : Nat} (h : lex l = (ts, k, p)) : ts.length ≤ 1500 := by
  have := lex_len l
  rw [h] at this
  exact this

end Go.Proofs.YtbgpboiblggmiaaGreatDoor.Lx

/-
  Plain laws: tokens and gaps cover a source.
-/
namespace Go.Proofs.YtbgpboiblggmiaaGreatDoor.Lx

/-- does a text consist of gaps? -/
def blank (note : Bool) : List UInt8 → Bool
  | [] => true
  | c :: r =>
    if note then blank (other c) r
    else if c = 47 ∧ r.head? = some 47 then blank true r
    else if whiteU c then blank false r
    else false

theorem blank_take (l : List UInt8) : ∀ note, blank note (l.take (skip note l)) = true := by
  induction l with
  | nil => intro n; simp [skip, blank]
  | cons c r ih =>
    intro n
    cases n with
    | true =>
      by_cases hc : c = 10
      · subst hc
        simp only [skip, if_true, Nat.add_comm 1, List.take_succ_cons, blank]
        rw [show other 10 = false from by decide]
        exact ih false
      · simp only [skip, hc, if_true, if_false, Nat.add_comm 1, List.take_succ_cons, blank]
        rw [(other_iff c).2 hc]
        exact ih true
    | false =>
      simp only [skip, Bool.false_eq_true, if_false]
      cases hw : whiteU c
      · simp only [Bool.false_eq_true, if_false]
        split
        · rename_i h
          obtain ⟨h1, h2⟩ := h
          have hr : ∃ r', r = 47 :: r' := by
            cases r with
            | nil => simp at h2
            | cons d r' => simp at h2; exact ⟨r', by rw [h2]⟩
          obtain ⟨r', hr⟩ := hr
          have hpos : 0 < skip true r := by rw [hr]; simp [skip]; omega
          rw [Nat.add_comm 1, List.take_succ_cons]
          have hh : (r.take (skip true r)).head? = some 47 := by
            rw [hr] at hpos ⊢
            obtain ⟨m, hm⟩ : ∃ m, skip true (47 :: r') = m + 1 := ⟨skip true (47 :: r') - 1, by omega⟩
            rw [hm, List.take_succ_cons]; rfl
          simp only [blank, Bool.false_eq_true, if_false, h1, hh, and_self, if_true]
          exact ih true
        · simp [blank]
      · simp only [if_true, Nat.add_comm 1, List.take_succ_cons, blank, Bool.false_eq_true, if_false]
        have hc : ¬ c = 47 := by intro e; rw [e] at hw; exact absurd hw (by decide)
        simp only [hc, false_and, if_false, hw, if_true]
        exact ih false

theorem blank_note (l : List UInt8) (k : Nat) (h : k < l.length) (hb : begins l [47, 47] k = true) (hk : blank false (l.drop k) = true) : blank true (l.drop (k + 1)) = true := by
  obtain ⟨h1, h2⟩ := (begins2_iff l k h).1 hb
  rw [drop_at l k h] at hk
  simp only [blank, Bool.false_eq_true, if_false, h1, h2, and_self, if_true] at hk
  exact hk
theorem blank_white (l : List UInt8) (k : Nat) (h : k < l.length) (hb : begins l [47, 47] k = false) (hk : blank false (l.drop k) = true) : whiteU l[k] = true ∧ blank false (l.drop (k + 1)) = true := by
  have hi := begins2_iff l k h
  rw [hb] at hi
  have hn : ¬ (l[k] = 47 ∧ (l.drop (k + 1)).head? = some 47) := fun hh => absurd (hi.2 hh) Bool.false_ne_true
  rw [drop_at l k h] at hk
  simp only [blank, Bool.false_eq_true, if_false, hn] at hk
  split at hk
  · rename_i hw; exact ⟨hw, hk⟩
  · cases hk

/-- the tokens of a source from an offset on: each behind a gap, the rest a gap -/
def Chain (l : List UInt8) : Nat → List Tok → Prop
  | e, [] => e + skip false (l.drop e) = l.length
  | e, t :: r => t.off = e + skip false (l.drop e) ∧ 0 < t.text.length ∧ t.off + t.text.length ≤ l.length ∧ t.text = (l.drop t.off).take t.text.length ∧ Chain l (t.off + t.text.length) r

theorem tok_take_len (l : List UInt8) (k n : Nat) (h : k + n ≤ l.length) : ((l.drop k).take n).length = n := by rw [List.length_take, List.length_drop]; omega

theorem go_chain (l : List UInt8) (f : Nat) : ∀ (e k c : Nat) (ts : List Tok) (p : Nat), k = e + skip false (l.drop e) → k ≤ l.length → l.length - k < f → go f (l.drop k) k c = (ts, 0, p) → Chain l e ts := by
  induction f with
  | zero => intro e k c ts p _ _ h; omega
  | succ f ih =>
    intro e k c ts p hk hl hf h
    rcases Nat.lt_or_ge k l.length with hlt | hge
    · have ht0 : l.drop k = l[k] :: l.drop (k + 1) := drop_at l k hlt
      rw [ht0] at h
      unfold go at h
      rw [← ht0] at h
      split at h
      · simp at h
      · cases ht : tok (l.drop k) with
        | none => rw [ht] at h; simp at h
        | some kn =>
          obtain ⟨kd, n⟩ := kn
          rw [ht] at h
          obtain ⟨hp1, hp2⟩ := tok_pos _ _ _ ht
          rw [List.length_drop] at hp2
          simp only [List.drop_drop, Prod.mk.injEq] at h
          obtain ⟨h1, h2⟩ := h
          have hn := tok_take_len l k n (by omega)
          have hs := skip_le (l.drop (k + n)) false
          rw [List.length_drop] at hs
          obtain ⟨rs, hrs⟩ : ∃ rs, (go f (l.drop (k + n + skip false (l.drop (k + n)))) (k + n + skip false (l.drop (k + n))) (c + 1)) = (rs, 0, p) := by
            refine ⟨_, Prod.ext rfl (Prod.ext ?_ ?_)⟩
            · rw [h2]
            · rw [h2]
          rw [hrs] at h1
          subst h1
          refine ⟨hk, by rw [hn]; exact hp1, by rw [hn]; show k + n ≤ l.length; omega, by rw [hn], ?_⟩
          rw [hn]
          exact ih (k + n) _ (c + 1) rs p rfl (by omega) (by omega) hrs
    · have : k = l.length := by omega
      rw [List.drop_eq_nil_of_le (by omega)] at h
      simp only [go, Prod.mk.injEq] at h
      obtain ⟨rfl, _, _⟩ := h
      show e + skip false (l.drop e) = l.length
      omega

theorem lex_chain {l : List UInt8} {ts : List Tok} {p : Nat} (h : lex l = (ts, 0, p)) : Chain l 0 ts := by
  unfold lex at h
  split at h
  · simp at h
  · rename_i hl
    unfold fin at h
    split at h
    · rename_i he
      have hs := skip_le l false
      have h1 := congrArg Prod.fst h
      refine go_chain l (l.length + 1) 0 (skip false l) 0 ts (go (l.length + 1) (l.drop (skip false l)) (skip false l) 0).2.2 (by simp) hs (by omega) (Prod.ext h1 (Prod.ext he rfl))
    · rename_i he
      simp only [Prod.mk.injEq] at h
      exact absurd h.2.1 he

theorem chain_at (l : List UInt8) : ∀ (ts : List Tok) (e k : Nat) (t : Tok), Chain l e ts → ts[k]? = some t → ∃ e', Chain l e' (t :: ts.drop (k + 1)) := by
  intro ts
  induction ts with
  | nil => intro e k t _ h; simp at h
  | cons x r ih =>
    intro e k t hc h
    cases k with
    | zero =>
      simp only [List.getElem?_cons_zero, Option.some.injEq] at h
      subst h
      exact ⟨e, hc⟩
    | succ k => exact ih _ k t hc.2.2.2.2 (by simpa using h)

theorem drop_of {α : Type} (l : List α) (k : Nat) (t : α) (h : l[k]? = some t) : l.drop k = t :: l.drop (k + 1) := by
  obtain ⟨hk, rfl⟩ := List.getElem?_eq_some_iff.1 h
  exact List.drop_eq_getElem_cons hk

end Go.Proofs.YtbgpboiblggmiaaGreatDoor.Lx

/-
  Plain laws: what the lexer says of a part of a source.
-/
namespace Go.Proofs.YtbgpboiblggmiaaGreatDoor.Lx

theorem run_take (p : UInt8 → Bool) (l : List UInt8) : ∀ m, run p l ≤ m → run p (l.take m) = run p l := by
  induction l with
  | nil => intro m _; simp
  | cons c r ih =>
    intro m h
    rw [run_cons] at h ⊢
    cases m with
    | zero =>
      split at h
      · omega
      · rename_i hp; simp [run, hp]
    | succ m =>
      rw [List.take_succ_cons, run_cons]
      split
      · rename_i hp
        rw [if_pos hp] at h
        rw [ih m (by omega)]
      · rfl

theorem lu_take (l : List UInt8) (m : Nat) (h : lu l = false) : lu (l.take m) = false := by
  cases l with
  | nil => simp [lu]
  | cons c r =>
    cases m with
    | zero => rfl
    | succ m => exact h

theorem numOk_take (l : List UInt8) (n m : Nat) (hn : 0 < n) (hm : n ≤ m) (h : numOk l n = true) : numOk (l.take m) n = true := by
  unfold numOk at h ⊢
  simp only [Bool.and_eq_true, Bool.not_eq_true'] at h ⊢
  obtain ⟨⟨h1, h2⟩, h3⟩ := h
  refine ⟨⟨h1, ?_⟩, ?_⟩
  · rw [show (l.take m).head? = l.head? from by
      cases l with
      | nil => simp
      | cons c r => obtain ⟨m', rfl⟩ : ∃ m', m = m' + 1 := ⟨m - 1, by omega⟩; rfl]
    exact h2
  · rw [List.drop_take]
    exact lu_take _ _ h3

theorem find_take (ts : List (List UInt8)) (l t : List UInt8) (m : Nat) (h : ts.find? (fun t => l.take t.length == t) = some t) (hm : t.length ≤ m) : ts.find? (fun t => (l.take m).take t.length == t) = some t := by
  induction ts with
  | nil => cases h
  | cons x r ih =>
    rw [List.find?_cons] at h ⊢
    cases hx : (l.take x.length == x) with
    | true =>
      rw [hx] at h
      simp only [Option.some.injEq] at h
      subst h
      have : ((l.take m).take x.length == x) = true := by
        rw [List.take_take, Nat.min_eq_left hm]; exact hx
      rw [this]
    | false =>
      rw [hx] at h
      have : ((l.take m).take x.length == x) = false := by
        apply beq_eq_false_iff_ne.2
        intro he
        apply beq_eq_false_iff_ne.1 hx
        have hl := congrArg List.length he
        rw [List.length_take, List.length_take] at hl
        rw [List.take_take, Nat.min_eq_left (by omega)] at he
        exact he
      rw [this]
      exact ih h

theorem tok_cons (c : UInt8) (r : List UInt8) : tok (c :: r) = if letterU c then (if run wordU (c :: r) ≤ 16 then some (1, run wordU (c :: r)) else none) else if digitU c then (if numOk (c :: r) (run digitU (c :: r)) then some (2, run digitU (c :: r)) else none) else (sym (c :: r)).map fun t => (3, t.length) := rfl

theorem tok_take (l : List UInt8) (kd n m : Nat) (h : tok l = some (kd, n)) (hm : n ≤ m) : tok (l.take m) = some (kd, n) := by
  have hp := tok_pos _ _ _ h
  cases l with
  | nil => simp [tok] at h
  | cons c r =>
    obtain ⟨m', rfl⟩ : ∃ m', m = m' + 1 := ⟨m - 1, by omega⟩
    have e : (c :: r).take (m' + 1) = c :: r.take m' := List.take_succ_cons
    rw [e, tok_cons]
    rw [tok_cons] at h
    split at h
    · rename_i hl
      rw [if_pos hl]
      split at h
      · rename_i h16
        simp only [Option.some.injEq, Prod.mk.injEq] at h
        obtain ⟨rfl, rfl⟩ := h
        have hr := run_take wordU (c :: r) (m' + 1) hm
        rw [e] at hr
        rw [hr, if_pos h16]
      · cases h
    · rename_i hl
      rw [if_neg hl]
      split at h
      · rename_i hd
        rw [if_pos hd]
        split at h
        · rename_i hok
          simp only [Option.some.injEq, Prod.mk.injEq] at h
          obtain ⟨rfl, rfl⟩ := h
          have hr := run_take digitU (c :: r) (m' + 1) hm
          have hn := numOk_take (c :: r) _ (m' + 1) hp.1 hm hok
          rw [e] at hr hn
          rw [hr, if_pos hn]
        · cases h
      · rename_i hd
        rw [if_neg hd]
        cases hs : sym (c :: r) with
        | none => rw [hs] at h; cases h
        | some t =>
          rw [hs] at h
          simp only [Option.map_some, Option.some.injEq, Prod.mk.injEq] at h
          obtain ⟨rfl, rfl⟩ := h
          have hf : sym ((c :: r).take (m' + 1)) = some t := find_take refSyms (c :: r) t (m' + 1) hs hm
          rw [e] at hf
          rw [hf]
          rfl

theorem skip_take (l : List UInt8) : ∀ (note : Bool) (m : Nat), skip note l ≤ m → skip note (l.take m) = skip note l := by
  induction l with
  | nil => intro n m _; simp
  | cons c r ih =>
    intro n m h
    cases m with
    | zero =>
      have h0 : skip n (c :: r) = 0 := by omega
      rw [h0]; simp [skip]
    | succ m =>
      rw [List.take_succ_cons]
      cases n with
      | true =>
        unfold skip at h ⊢
        simp only [if_true] at h ⊢
        split
        · rename_i hc; rw [if_pos hc] at h; rw [ih false m (by omega)]
        · rename_i hc; rw [if_neg hc] at h; rw [ih true m (by omega)]
      | false =>
        unfold skip at h ⊢
        simp only [Bool.false_eq_true, if_false] at h ⊢
        split
        · rename_i hw; rw [if_pos hw] at h; rw [ih false m (by omega)]
        · rename_i hw
          rw [if_neg hw] at h
          by_cases hh : c = 47 ∧ r.head? = some 47
          · rw [if_pos hh] at h
            have hr : ∃ r', r = 47 :: r' := by
              cases r with
              | nil => simp at hh
              | cons d r' => obtain ⟨_, h2⟩ := hh; simp at h2; exact ⟨r', by rw [h2]⟩
            obtain ⟨r', hr⟩ := hr
            have hpos : 0 < skip true r := by rw [hr]; simp [skip]; omega
            have hh' : c = 47 ∧ (r.take m).head? = some 47 := by
              refine ⟨hh.1, ?_⟩
              obtain ⟨m', rfl⟩ : ∃ m', m = m' + 1 := ⟨m - 1, by omega⟩
              rw [hr]; rfl
            rw [if_pos hh, if_pos hh', ih true m (by omega)]
          · have hh' : ¬ (c = 47 ∧ (r.take m).head? = some 47) := by
              rintro ⟨h1, h2⟩
              apply hh
              refine ⟨h1, ?_⟩
              cases r with
              | nil => simp at h2
              | cons d r' =>
                cases m with
                | zero => simp at h2
                | succ m' => simpa using h2
            rw [if_neg hh, if_neg hh']

theorem skip_idem (l : List UInt8) : ∀ note, skip false (l.drop (skip note l)) = 0 := by
  induction l with
  | nil => intro n; simp [skip]
  | cons c r ih =>
    intro n
    cases n with
    | true =>
      by_cases hc : c = 10
      · have e : skip true (c :: r) = skip false r + 1 := by simp [skip, hc]; omega
        rw [e, List.drop_succ_cons]; exact ih false
      · have e : skip true (c :: r) = skip true r + 1 := by simp [skip, hc]; omega
        rw [e, List.drop_succ_cons]; exact ih true
    | false =>
      cases hw : whiteU c
      · by_cases hh : c = 47 ∧ r.head? = some 47
        · have e : skip false (c :: r) = skip true r + 1 := by
            conv => lhs; unfold skip
            rw [if_neg Bool.false_ne_true, if_neg (by rw [hw]; exact Bool.false_ne_true), if_pos hh]; omega
          rw [e, List.drop_succ_cons]; exact ih true
        · have e : skip false (c :: r) = 0 := by
            conv => lhs; unfold skip
            simp only [Bool.false_eq_true, if_false, hw, hh]
          rw [e, List.drop_zero, e]
      · have e : skip false (c :: r) = skip false r + 1 := by
          conv => lhs; unfold skip
          simp only [Bool.false_eq_true, if_false, hw, if_true]; omega
        rw [e, List.drop_succ_cons]; exact ih false

theorem skip_at_zero (l : List UInt8) (e k : Nat) (h : k = e + skip false (l.drop e)) : skip false (l.drop k) = 0 := by
  subst h
  rw [← List.drop_drop]
  exact skip_idem _ false

/-- one step of the lexer -/
theorem go_step (l : List UInt8) (f k c kd n : Nat) (h : k < l.length) (hc : c ≠ 1500) (ht : tok (l.drop k) = some (kd, n)) :
    go (f + 1) (l.drop k) k c = (⟨kd, (l.drop k).take n, k⟩ :: (go f (l.drop (k + n + skip false (l.drop (k + n)))) (k + n + skip false (l.drop (k + n))) (c + 1)).1, (go f (l.drop (k + n + skip false (l.drop (k + n)))) (k + n + skip false (l.drop (k + n))) (c + 1)).2) := by
  conv => lhs; rw [drop_at l k h]
  rw [drop_at l k h] at ht
  simp only [go, hc, if_false, ht]
  rw [← drop_at l k h]
  simp only [List.drop_drop, Nat.add_assoc]
theorem go_stop (l : List UInt8) (f k c : Nat) (h : k < l.length) (hc : c ≠ 1500) (ht : tok (l.drop k) = none) : go (f + 1) (l.drop k) k c = ([], 10, k) := by
  rw [drop_at l k h] at ht ⊢
  simp only [go, hc, if_false, ht]
theorem go_full (l : List UInt8) (f k : Nat) (h : k < l.length) : go (f + 1) (l.drop k) k 1500 = ([], 2, k) := by
  rw [drop_at l k h]
  simp [go]
theorem go_end (l : List UInt8) (f k c : Nat) (h : l.length ≤ k) : go f (l.drop k) k c = ([], 0, 0) := by
  rw [List.drop_eq_nil_of_le h]
  cases f <;> rfl

theorem next_le (l : List UInt8) (k n : Nat) (h : k + n ≤ l.length) : k + n + skip false (l.drop (k + n)) ≤ l.length := by
  have h1 := skip_le (l.drop (k + n)) false
  rw [List.length_drop] at h1
  omega

/-- an error lies behind where the lexer stands, inside the source; there no token begins -/
theorem go_err (l : List UInt8) (f : Nat) : ∀ (k c p : Nat) (ts : List Tok), k ≤ l.length → skip false (l.drop k) = 0 → go f (l.drop k) k c = (ts, 10, p) → k ≤ p ∧ p < l.length ∧ tok (l.drop p) = none ∧ skip false (l.drop p) = 0 := by
  induction f with
  | zero => intro k c p ts _ _ h; simp [go] at h
  | succ f ih =>
    intro k c p ts hk h0 h
    rcases Nat.lt_or_ge k l.length with hlt | hge
    · by_cases hc : c = 1500
      · subst hc; rw [go_full l f k hlt] at h; simp at h
      · cases ht : tok (l.drop k) with
        | none =>
          rw [go_stop l f k c hlt hc ht] at h
          simp only [Prod.mk.injEq] at h
          obtain ⟨_, _, rfl⟩ := h
          exact ⟨Nat.le_refl _, hlt, ht, h0⟩
        | some kn =>
          obtain ⟨kd, n⟩ := kn
          have hp := tok_pos _ _ _ ht
          rw [List.length_drop] at hp
          rw [go_step l f k c kd n hlt hc ht] at h
          have hn := next_le l k n (by omega)
          obtain ⟨a, b⟩ := ih _ (c + 1) p _ hn (skip_at_zero l (k + n) _ rfl) (Prod.ext rfl (Prod.mk.inj h).2)
          exact ⟨by omega, b⟩
    · rw [go_end l (f + 1) k c hge] at h; simp at h

theorem go_before (l : List UInt8) (f : Nat) : ∀ (k c p f' : Nat) (ts : List Tok), k ≤ l.length → skip false (l.drop k) = 0 → go f (l.drop k) k c = (ts, 10, p) → p - k < f' → (go f' ((l.take p).drop k) k c).2.1 = 0 := by
  induction f with
  | zero => intro k c p f' ts _ _ h; simp [go] at h
  | succ f ih =>
    intro k c p f' ts hk h0 h hf
    obtain ⟨hkp, hpl, _, _⟩ := go_err l (f + 1) k c p ts hk h0 h
    have hpl' : (l.take p).length = p := by rw [List.length_take]; omega
    rcases Nat.lt_or_ge k p with hlt | hge
    · have hc : c ≠ 1500 := by
        intro hc; subst hc; rw [go_full l f k (by omega)] at h; simp at h
      cases ht : tok (l.drop k) with
      | none =>
        rw [go_stop l f k c (by omega) hc ht] at h
        simp only [Prod.mk.injEq] at h
        omega
      | some kn =>
        obtain ⟨kd, n⟩ := kn
        have hp := tok_pos _ _ _ ht
        rw [List.length_drop] at hp
        rw [go_step l f k c kd n (by omega) hc ht] at h
        have hn := next_le l k n (by omega)
        have h2 : go f (l.drop (k + n + skip false (l.drop (k + n)))) (k + n + skip false (l.drop (k + n))) (c + 1) = (_, 10, p) := Prod.ext rfl (Prod.mk.inj h).2
        obtain ⟨hkp', _⟩ := go_err l f _ (c + 1) p _ hn (skip_at_zero l (k + n) _ rfl) h2
        obtain ⟨f', rfl⟩ : ∃ g, f' = g + 1 := ⟨f' - 1, by omega⟩
        have ht' : tok ((l.take p).drop k) = some (kd, n) := by
          rw [List.drop_take]; exact tok_take _ _ _ _ ht (by omega)
        have hs' : skip false ((l.take p).drop (k + n)) = skip false (l.drop (k + n)) := by
          rw [List.drop_take]; exact skip_take _ _ _ (by omega)
        rw [go_step (l.take p) f' k c kd n (by omega) hc ht', hs']
        exact ih _ (c + 1) p f' _ hn (skip_at_zero l (k + n) _ rfl) h2 (by omega)
    · rw [go_end (l.take p) f' k c (by omega)]

/-- what chapter 1 says of the parts of a source at an error -/
theorem lex_err {l : List UInt8} {ts : List Tok} {p : Nat} (h : lex l = (ts, 10, p)) : p < l.length ∧ (lex (l.take p)).2.1 = 0 ∧ lex (l.drop p) = ([], 10, 0) := by
  unfold lex at h
  split at h
  · simp at h
  · rename_i hl
    have hg : ∃ rs, go (l.length + 1) (l.drop (skip false l)) (skip false l) 0 = (rs, 10, p) := by
      unfold fin at h
      split at h
      · simp at h
      · simp only [Prod.mk.injEq] at h
        exact ⟨_, Prod.ext rfl (Prod.ext h.2.1 h.2.2)⟩
    obtain ⟨rs, hg⟩ := hg
    have hs := skip_le l false
    have h0 : skip false (l.drop (skip false l)) = 0 := skip_idem l false
    obtain ⟨h1, h2, h3, h4⟩ := go_err l _ _ 0 p rs hs h0 hg
    have hlp : (l.take p).length = p := by rw [List.length_take]; omega
    refine ⟨h2, ?_, ?_⟩
    · unfold lex
      rw [if_neg (by omega), hlp, skip_take l false p h1]
      have hb := go_before l _ _ 0 p (p + 1) rs hs h0 hg (by omega)
      unfold fin
      rw [if_pos hb]
    · unfold lex
      rw [if_neg (by rw [List.length_drop]; omega), h4, List.drop_zero]
      have := go_stop (l.drop p) ((l.drop p).length) 0 0 (by rw [List.length_drop]; omega) (by omega) (by rw [List.drop_zero]; exact h3)
      rw [List.drop_zero] at this
      rw [this]
      rfl

/-- every token of a source is the one that begins at its offset -/
theorem go_toks (l : List UInt8) (f : Nat) : ∀ (k c : Nat), k ≤ l.length → ∀ t ∈ (go f (l.drop k) k c).1, tok (l.drop t.off) = some (t.kind, t.text.length) ∧ t.text = (l.drop t.off).take t.text.length := by
  induction f with
  | zero => intro k c _ t ht; simp [go] at ht
  | succ f ih =>
    intro k c hk t ht
    rcases Nat.lt_or_ge k l.length with hlt | hge
    · by_cases hc : c = 1500
      · subst hc; rw [go_full l f k hlt] at ht; simp at ht
      · cases htk : tok (l.drop k) with
        | none => rw [go_stop l f k c hlt hc htk] at ht; simp at ht
        | some kn =>
          obtain ⟨kd, n⟩ := kn
          have hp := tok_pos _ _ _ htk
          rw [List.length_drop] at hp
          rw [go_step l f k c kd n hlt hc htk] at ht
          rcases List.mem_cons.1 ht with rfl | ht
          · have hn := tok_take_len l k n (by omega)
            exact ⟨by rw [hn]; exact htk, by rw [hn]⟩
          · exact ih _ (c + 1) (next_le l k n (by omega)) t ht
    · rw [go_end l (f + 1) k c hge] at ht; simp at ht
theorem lex_toks {l : List UInt8} {ts : List Tok} {k p : Nat} (h : lex l = (ts, k, p)) : ∀ t ∈ ts, tok (l.drop t.off) = some (t.kind, t.text.length) ∧ t.text = (l.drop t.off).take t.text.length := by
  intro t ht
  unfold lex at h
  split at h
  · simp only [Prod.mk.injEq] at h; rw [← h.1] at ht; simp at ht
  · unfold fin at h
    split at h
    · simp only [Prod.mk.injEq] at h
      rw [← h.1] at ht
      exact go_toks l _ _ 0 (skip_le l false) t ht
    · simp only [Prod.mk.injEq] at h; rw [← h.1] at ht; simp at ht

/-- a token's text with the next byte is not one token -/
theorem lex_longest {l : List UInt8} {ts : List Tok} {p : Nat} (h : lex l = (ts, 0, p)) (t : Tok) (ht : t ∈ ts) (t' : Tok) (p' : Nat) (hm : lex ((l.drop t.off).take (t.text.length + 1)) = ([t'], 0, p')) (hlen : t.off + t.text.length < l.length) : t'.text ≠ (l.drop t.off).take (t.text.length + 1) := by
  intro he
  obtain ⟨h1, _⟩ := lex_toks h t ht
  obtain ⟨c1, c2, c3, _, _⟩ := lex_chain hm
  have hml : ((l.drop t.off).take (t.text.length + 1)).length = t.text.length + 1 := by rw [List.length_take, List.length_drop]; omega
  have h2 := (lex_toks hm t' (by simp)).1
  have hl := congrArg List.length he
  rw [hml] at hl c3
  have h0 : t'.off = 0 := by omega
  rw [h0, List.drop_zero, tok_take _ _ _ _ h1 (by omega)] at h2
  simp only [Option.some.injEq, Prod.mk.injEq] at h2
  omega

end Go.Proofs.YtbgpboiblggmiaaGreatDoor.Lx

/-
  Plain laws: a source, a line feed and a second source.
-/
namespace Go.Proofs.YtbgpboiblggmiaaGreatDoor.Lx

theorem run_app (p : UInt8 → Bool) (c : UInt8) (hc : p c = false) (l b : List UInt8) : run p (l ++ c :: b) = run p l := by
  induction l with
  | nil => rw [List.nil_append, run_cons, if_neg (by rw [hc]; exact Bool.false_ne_true)]; rfl
  | cons x r ih => rw [List.cons_append, run_cons, run_cons, ih]

theorem lu_app (c : UInt8) (h1 : letterU c = false) (h2 : ((c.toNat : Int) == 95) = false) (l b : List UInt8) : lu (l ++ c :: b) = lu l := by
  cases l with
  | nil => show (letterU c || _) = false; rw [h1, h2]; rfl
  | cons x r => rfl

theorem numOk_app (c : UInt8) (h1 : letterU c = false) (h2 : ((c.toNat : Int) == 95) = false) (x : UInt8) (r b : List UInt8) (n : Nat) (hn : n ≤ (x :: r).length) : numOk ((x :: r) ++ c :: b) n = numOk (x :: r) n := by
  unfold numOk
  rw [List.drop_append_of_le_length hn, lu_app c h1 h2]
  rfl

theorem prefix_app (t l b : List UInt8) (c : UInt8) (hc : c ∉ t) : ((l ++ c :: b).take t.length == t) = (l.take t.length == t) := by
  rw [Bool.eq_iff_iff, beq_iff_eq, beq_iff_eq]
  rcases Nat.le_total t.length l.length with h | h
  · rw [List.take_append_of_le_length h]
  · constructor
    · intro he
      rcases Nat.lt_or_ge l.length t.length with h' | h'
      · exfalso
        apply hc
        have : (l ++ c :: b)[l.length]? = some c := by rw [List.getElem?_append_right (Nat.le_refl _)]; simp
        have h3 : ((l ++ c :: b).take t.length)[l.length]? = some c := by rw [List.getElem?_take, if_pos h', this]
        rw [he] at h3
        exact List.mem_of_getElem? h3
      · rw [List.take_append_of_le_length h'] at he; exact he
    · intro he
      have hl := congrArg List.length he
      rw [List.length_take] at hl
      rw [List.take_append_of_le_length (by omega)]
      exact he

theorem find_app (ts : List (List UInt8)) (l b : List UInt8) (c : UInt8) (hc : ∀ t ∈ ts, c ∉ t) : ts.find? (fun t => (l ++ c :: b).take t.length == t) = ts.find? (fun t => l.take t.length == t) := by
  induction ts with
  | nil => rfl
  | cons x r ih =>
    rw [List.find?_cons, List.find?_cons, prefix_app x l b c (hc x (by simp)), ih (fun t ht => hc t (by simp [ht]))]

/-- a byte that ends every token: no letter, digit or underscore, and in no symbol -/
def Ends (c : UInt8) : Prop := wordU c = false ∧ digitU c = false ∧ letterU c = false ∧ ((c.toNat : Int) == 95) = false ∧ ∀ t ∈ refSyms, c ∉ t
theorem ends_feed : Ends 10 := ⟨by decide, by decide, by decide, by decide, by decide⟩

theorem tok_app (c : UInt8) (hc : Ends c) (x : UInt8) (r b : List UInt8) : tok ((x :: r) ++ c :: b) = tok (x :: r) := by
  obtain ⟨h1, h2, h3, h4, h5⟩ := hc
  have hw := run_app wordU c h1 (x :: r) b
  have hd := run_app digitU c h2 (x :: r) b
  have hs : sym ((x :: r) ++ c :: b) = sym (x :: r) := find_app refSyms (x :: r) b c h5
  have hn := numOk_app c h3 h4 x r b (run digitU (x :: r)) (run_le _ _)
  rw [List.cons_append] at *
  rw [tok_cons, tok_cons, hw, hd, hs, hn]

theorem skip_app (l b : List UInt8) : ∀ note, skip note (l ++ 10 :: b) = skip note l + (if skip note l = l.length then 1 + skip false b else 0) := by
  generalize hB : skip false b = B
  induction l with
  | nil =>
    intro n
    cases n <;> simp [skip, hB, show whiteU 10 = true from by decide]
  | cons c r ih =>
    intro n
    have hf := ih false
    have ht := ih true
    cases n with
    | true =>
      rw [List.cons_append]
      unfold skip
      simp only [if_true, List.length_cons]
      split
      · rw [hf]; split <;> split <;> omega
      · rw [ht]; split <;> split <;> omega
    | false =>
      rw [List.cons_append]
      unfold skip
      simp only [Bool.false_eq_true, if_false, List.length_cons]
      split
      · rw [hf]; split <;> split <;> omega
      · have hh : (c = 47 ∧ (r ++ 10 :: b).head? = some 47) ↔ (c = 47 ∧ r.head? = some 47) := by
          cases r with
          | nil => simp
          | cons d r' => simp
        by_cases h : c = 47 ∧ r.head? = some 47
        · rw [if_pos h, if_pos (hh.2 h), ht]; split <;> split <;> omega
        · rw [if_neg h, if_neg (fun h' => h (hh.1 h'))]; simp

/-- fuel beyond the length changes nothing -/
theorem go_fuel (f : Nat) : ∀ (f' : Nat) (l : List UInt8) (k c : Nat), l.length < f → l.length < f' → go f l k c = go f' l k c := by
  induction f with
  | zero => intro f' l k c h; omega
  | succ f ih =>
    intro f' l k c h h'
    obtain ⟨f', rfl⟩ : ∃ g, f' = g + 1 := ⟨f' - 1, by omega⟩
    cases l with
    | nil => rfl
    | cons x r =>
      unfold go
      split
      · rfl
      · cases ht : tok (x :: r) with
        | none => rfl
        | some kn =>
          have hp := tok_pos _ kn.1 kn.2 ht
          have hlen : ((List.drop kn.2 (x :: r)).drop (skip false (List.drop kn.2 (x :: r)))).length < (x :: r).length := by
            rw [List.length_drop, List.length_drop]
            simp only [List.length_cons] at hp ⊢
            omega
          simp only []
          rw [ih f' _ _ _ (by omega) (by omega)]

/-- the lexer from a token's beginning on, with enough fuel -/
def G (l : List UInt8) (k c : Nat) : List Tok × Nat × Nat := go (l.length + 1) l k c
theorem G_nil (k c : Nat) : G [] k c = ([], 0, 0) := rfl
theorem G_full (x : UInt8) (r : List UInt8) (k : Nat) : G (x :: r) k 1500 = ([], 2, k) := by unfold G; simp [go]
theorem G_none (x : UInt8) (r : List UInt8) (k c : Nat) (hc : c ≠ 1500) (h : tok (x :: r) = none) : G (x :: r) k c = ([], 10, k) := by
  unfold G; simp only [go, hc, if_false, h]
/-- what is left behind a token and its gap -/
def after (l : List UInt8) (n : Nat) : List UInt8 := (l.drop n).drop (skip false (l.drop n))
theorem after_len (l : List UInt8) (n : Nat) (h : 0 < n) (hl : 0 < l.length) : (after l n).length < l.length := by
  unfold after; rw [List.length_drop, List.length_drop]; omega
theorem G_some (x : UInt8) (r : List UInt8) (k c kd n : Nat) (hc : c ≠ 1500) (h : tok (x :: r) = some (kd, n)) :
    G (x :: r) k c = (⟨kd, (x :: r).take n, k⟩ :: (G (after (x :: r) n) (k + n + skip false ((x :: r).drop n)) (c + 1)).1, (G (after (x :: r) n) (k + n + skip false ((x :: r).drop n)) (c + 1)).2) := by
  have hp := tok_pos _ _ _ h
  have hl := after_len (x :: r) n hp.1 (by simp)
  unfold G
  conv => lhs; unfold go
  simp only [hc, if_false, h]
  have e := go_fuel (x :: r).length ((after (x :: r) n).length + 1) (after (x :: r) n) (k + n + skip false ((x :: r).drop n)) (c + 1) (by omega) (by omega)
  show (⟨kd, (x :: r).take n, k⟩ :: (go (x :: r).length (after (x :: r) n) (k + n + skip false ((x :: r).drop n)) (c + 1)).1, (go (x :: r).length (after (x :: r) n) (k + n + skip false ((x :: r).drop n)) (c + 1)).2) = _
  rw [e]

theorem lex_G (l : List UInt8) (h : l.length ≤ 4000) : lex l = fin (G (l.drop (skip false l)) (skip false l) 0) := by
  unfold lex G
  rw [if_neg (by omega), go_fuel (l.length + 1) ((l.drop (skip false l)).length + 1) _ _ _ (by rw [List.length_drop]; omega) (by omega)]

theorem G_err0 (N : Nat) : ∀ (l : List UInt8) (k c : Nat), l.length ≤ N → (G l k c).2.1 = 0 → (G l k c).2 = (0, 0) := by
  induction N with
  | zero => intro l k c hl h; cases l with | nil => rfl | cons x r => simp at hl
  | succ N ih =>
    intro l k c hl h
    cases l with
    | nil => rfl
    | cons x r =>
      by_cases hc : c = 1500
      · subst hc; rw [G_full] at h; simp at h
      · cases ht : tok (x :: r) with
        | none => rw [G_none x r k c hc ht] at h; simp at h
        | some kn =>
          rw [G_some x r k c kn.1 kn.2 hc ht] at h ⊢
          have hlen := after_len (x :: r) kn.2 (tok_pos _ kn.1 kn.2 ht).1 (by simp)
          exact ih _ _ _ (by omega) h

/-- behind the first source: its tokens, then the lexer goes on in the second -/
theorem G_app (b : List UInt8) (N : Nat) : ∀ (l : List UInt8) (k c : Nat) (ts : List Tok), l.length ≤ N → l ≠ [] → (G l k c).2.1 = 0 → (G l k c).1 = ts →
    G (l ++ 10 :: b) k c = (ts ++ (G (b.drop (skip false b)) (k + l.length + 1 + skip false b) (c + ts.length)).1, (G (b.drop (skip false b)) (k + l.length + 1 + skip false b) (c + ts.length)).2) := by
  induction N with
  | zero => intro l k c ts hl hne; exact absurd (List.eq_nil_of_length_eq_zero (by omega)) hne
  | succ N ih =>
    intro l k c ts hl hne h0 hts
    cases l with
    | nil => exact absurd rfl hne
    | cons x r =>
      by_cases hc : c = 1500
      · subst hc; rw [G_full] at h0; simp at h0
      · cases ht : tok (x :: r) with
        | none => rw [G_none x r k c hc ht] at h0; simp at h0
        | some kn =>
          obtain ⟨kd, n⟩ := kn
          have hp := tok_pos _ _ _ ht
          have ht' : tok (x :: (r ++ 10 :: b)) = some (kd, n) := by rw [← ht]; exact tok_app 10 ends_feed x r b
          rw [G_some x r k c kd n hc ht] at h0 hts
          rw [List.cons_append, G_some x (r ++ 10 :: b) k c kd n hc ht']
          have hlen := after_len (x :: r) n hp.1 (by simp)
          have hdrop : (x :: (r ++ 10 :: b)).drop n = (x :: r).drop n ++ 10 :: b := by
            rw [← List.cons_append, List.drop_append_of_le_length hp.2]
          have htake : (x :: (r ++ 10 :: b)).take n = (x :: r).take n := by
            rw [← List.cons_append, List.take_append_of_le_length hp.2]
          have hsk := skip_app ((x :: r).drop n) b false
          have hdl : ((x :: r).drop n).length = (x :: r).length - n := List.length_drop ..
          have hsl := skip_le ((x :: r).drop n) false
          rw [htake, hdrop]
          by_cases hg : skip false ((x :: r).drop n) = ((x :: r).drop n).length
          · rw [if_pos hg] at hsk
            have ha : after (x :: r) n = [] := by unfold after; exact List.drop_eq_nil_of_le (by omega)
            rw [ha, G_nil] at hts h0
            subst hts
            have ha' : after (x :: (r ++ 10 :: b)) n = b.drop (skip false b) := by
              unfold after
              rw [hdrop, hsk, hg, ← Nat.add_assoc, ← List.drop_drop, ← List.drop_drop, List.drop_left, List.drop_succ_cons, List.drop_zero]
            rw [ha', hsk]
            have e1 : k + n + (skip false ((x :: r).drop n) + (1 + skip false b)) = k + (x :: r).length + 1 + skip false b := by omega
            rw [e1]
            rfl
          · rw [if_neg hg, Nat.add_zero] at hsk
            have hne' : after (x :: r) n ≠ [] := by
              intro e
              have := congrArg List.length e
              unfold after at this
              rw [List.length_drop] at this
              simp only [List.length_nil] at this
              omega
            have ha' : after (x :: (r ++ 10 :: b)) n = after (x :: r) n ++ 10 :: b := by
              unfold after
              rw [hdrop, hsk, List.drop_append_of_le_length hsl]
            have hal : (after (x :: r) n).length = (x :: r).length - n - skip false ((x :: r).drop n) := by unfold after; rw [List.length_drop, List.length_drop]
            have hi := ih (after (x :: r) n) (k + n + skip false ((x :: r).drop n)) (c + 1) _ (by omega) hne' h0 rfl
            rw [ha', hsk, hi]
            have e1 : k + n + skip false ((x :: r).drop n) + (after (x :: r) n).length + 1 + skip false b = k + (x :: r).length + 1 + skip false b := by omega
            rw [e1, ← hts]
            simp only [List.length_cons, List.cons_append]
            rw [show c + 1 + (G (after (x :: r) n) (k + n + skip false ((x :: r).drop n)) (c + 1)).1.length = c + ((G (after (x :: r) n) (k + n + skip false ((x :: r).drop n)) (c + 1)).1.length + 1) from by omega]

/-- a token with a greater offset -/
def shiftBy (d : Nat) (t : Tok) : Tok := ⟨t.kind, t.text, t.off + d⟩

/-- greater offsets, and more tokens before -/
theorem G_shift (d e : Nat) (N : Nat) : ∀ (l : List UInt8) (k c : Nat), l.length ≤ N → c + e ≤ 1500 →
    ((G l (k + d) (c + e)).2.1 = 2 ∧ k + d ≤ (G l (k + d) (c + e)).2.2 ∧ ((G l k c).2.1 ≠ 0 ∨ 1500 < c + e + (G l k c).1.length)) ∨
    ((G l (k + d) (c + e)).1 = (G l k c).1.map (shiftBy d) ∧ (G l (k + d) (c + e)).2.1 = (G l k c).2.1 ∧ (G l (k + d) (c + e)).2.2 = (if (G l k c).2.1 = 0 then 0 else (G l k c).2.2 + d)) := by
  induction N with
  | zero => intro l k c hl hc; cases l with | nil => right; exact ⟨rfl, rfl, rfl⟩ | cons x r => simp at hl
  | succ N ih =>
    intro l k c hl hce
    cases l with
    | nil => right; exact ⟨rfl, rfl, rfl⟩
    | cons x r =>
      by_cases hf : c + e = 1500
      · left
        rw [hf, G_full]
        refine ⟨rfl, Nat.le_refl _, ?_⟩
        by_cases hc : c = 1500
        · left; rw [hc, G_full]; simp
        · cases ht : tok (x :: r) with
          | none => left; rw [G_none x r k c hc ht]; simp
          | some kn => right; rw [G_some x r k c kn.1 kn.2 hc ht]; simp only [List.length_cons]; omega
      · have hc : c ≠ 1500 := by omega
        cases ht : tok (x :: r) with
        | none =>
          right
          rw [G_none x r k c hc ht, G_none x r (k + d) (c + e) hf ht]
          exact ⟨rfl, rfl, rfl⟩
        | some kn =>
          obtain ⟨kd, n⟩ := kn
          have hp := tok_pos _ _ _ ht
          have hlen := after_len (x :: r) n hp.1 (by simp)
          have hi := ih (after (x :: r) n) (k + n + skip false ((x :: r).drop n)) (c + 1) (by omega) (by omega)
          rw [G_some x r k c kd n hc ht, G_some x r (k + d) (c + e) kd n hf ht]
          have e1 : k + d + n + skip false ((x :: r).drop n) = k + n + skip false ((x :: r).drop n) + d := by omega
          have e2 : c + e + 1 = c + 1 + e := by omega
          rw [e1, e2]
          rcases hi with ⟨h1, h2, h3⟩ | ⟨h1, h2, h3⟩
          · left
            refine ⟨h1, Nat.le_trans (show k + d ≤ k + n + skip false ((x :: r).drop n) + d by omega) h2, ?_⟩
            rcases h3 with h3 | h3
            · exact .inl h3
            · right; simp only [List.length_cons]; omega
          · right
            refine ⟨?_, h2, h3⟩
            simp only [List.map_cons, h1]
            rfl

theorem go_pos (l : List UInt8) (f : Nat) : ∀ (k c : Nat), k ≤ l.length → (go f (l.drop k) k c).2.2 ≤ l.length := by
  induction f with
  | zero => intro k c _; simp [go]
  | succ f ih =>
    intro k c hk
    rcases Nat.lt_or_ge k l.length with hlt | hge
    · by_cases hc : c = 1500
      · subst hc; rw [go_full l f k hlt]; exact hk
      · cases ht : tok (l.drop k) with
        | none => rw [go_stop l f k c hlt hc ht]; exact hk
        | some kn =>
          have hp := tok_pos _ kn.1 kn.2 ht
          rw [List.length_drop] at hp
          rw [go_step l f k c kn.1 kn.2 hlt hc ht]
          exact ih _ (c + 1) (next_le l k kn.2 (by omega))
    · rw [go_end l (f + 1) k c hge]; exact Nat.zero_le _
theorem lex_pos {l : List UInt8} {ts : List Tok} {k p : Nat} (h : lex l = (ts, k, p)) : p ≤ l.length := by
  unfold lex at h
  split at h
  · simp only [Prod.mk.injEq] at h; omega
  · unfold fin at h
    split at h
    · simp only [Prod.mk.injEq] at h; omega
    · simp only [Prod.mk.injEq] at h
      rw [← h.2.2]
      exact go_pos l _ _ 0 (skip_le l false)

/-- chapter 1's word on two sources with a line feed between them -/
theorem lex_concat {a b : List UInt8} {la lb : List Tok} {p fb pb : Nat} (ha : lex a = (la, 0, p)) (hb : lex b = (lb, fb, pb)) (hl : a.length + 1 + b.length ≤ 4000) :
    (∃ q, lex (a ++ 10 :: b) = ([], 2, q) ∧ a.length + 1 ≤ q ∧ (fb ≠ 0 ∨ 1500 < la.length + lb.length)) ∨
    (fb ≠ 0 ∧ lex (a ++ 10 :: b) = ([], fb, a.length + 1 + pb)) ∨
    (fb = 0 ∧ lex (a ++ 10 :: b) = (la ++ lb.map (shiftBy (a.length + 1)), 0, 0)) := by
  have hla := lex_len_of ha
  rw [lex_G a (by omega)] at ha
  rw [lex_G b (by omega)] at hb
  rw [lex_G (a ++ 10 :: b) (by rw [List.length_append, List.length_cons]; omega)]
  have hsa := skip_le a false
  have hga : (G (a.drop (skip false a)) (skip false a) 0).2.1 = 0 ∧ (G (a.drop (skip false a)) (skip false a) 0).1 = la := by
    unfold fin at ha
    split at ha
    · rename_i h; exact ⟨h, (Prod.mk.inj ha).1⟩
    · rename_i h; exact absurd (Prod.mk.inj (Prod.mk.inj ha).2).1 h
  -- the lexer's way through both
  have key : G ((a ++ 10 :: b).drop (skip false (a ++ 10 :: b))) (skip false (a ++ 10 :: b)) 0 = (la ++ (G (b.drop (skip false b)) (skip false b + (a.length + 1)) (0 + la.length)).1, (G (b.drop (skip false b)) (skip false b + (a.length + 1)) (0 + la.length)).2) := by
    have hsk := skip_app a b false
    by_cases hg : skip false a = a.length
    · rw [if_pos hg] at hsk
      have : a.drop (skip false a) = [] := List.drop_eq_nil_of_le (by omega)
      rw [this, G_nil] at hga
      have hn : la = [] := hga.2.symm
      subst hn
      rw [hsk, hg, ← Nat.add_assoc, ← List.drop_drop, ← List.drop_drop, List.drop_left, List.drop_succ_cons, List.drop_zero, List.nil_append]
      rw [show a.length + 1 + skip false b = skip false b + (a.length + 1) from by omega]
      rfl
    · rw [if_neg hg, Nat.add_zero] at hsk
      have hne : a.drop (skip false a) ≠ [] := by
        intro e
        have := congrArg List.length e
        rw [List.length_drop] at this
        simp only [List.length_nil] at this
        omega
      have := G_app b _ (a.drop (skip false a)) (skip false a) 0 la (Nat.le_refl _) hne hga.1 hga.2
      rw [hsk, List.drop_append_of_le_length hsa, this]
      have e1 : skip false a + (a.drop (skip false a)).length + 1 + skip false b = skip false b + (a.length + 1) := by rw [List.length_drop]; omega
      rw [e1]
  rw [key]
  have hsh := G_shift (a.length + 1) la.length _ (b.drop (skip false b)) (skip false b) 0 (Nat.le_refl _) (by omega)
  have hbd : lb = (if (G (b.drop (skip false b)) (skip false b) 0).2.1 = 0 then (G (b.drop (skip false b)) (skip false b) 0).1 else []) ∧ fb = (G (b.drop (skip false b)) (skip false b) 0).2.1 ∧ pb = (if (G (b.drop (skip false b)) (skip false b) 0).2.1 = 0 then 0 else (G (b.drop (skip false b)) (skip false b) 0).2.2) := by
    unfold fin at hb
    split at hb
    · rename_i h
      simp only [Prod.mk.injEq] at hb
      obtain ⟨rfl, rfl, rfl⟩ := hb
      simp [h]
    · rename_i h
      simp only [Prod.mk.injEq] at hb
      obtain ⟨rfl, rfl, rfl⟩ := hb
      simp [h]
  obtain ⟨hb1, hb2, hb3⟩ := hbd
  rcases hsh with ⟨h1, h2, h3⟩ | ⟨h1, h2, h3⟩
  · left
    refine ⟨_, by unfold fin; rw [if_neg (by rw [h1]; omega)]; show ([], _, _) = _; rw [h1], Nat.le_trans (by omega) h2, ?_⟩
    by_cases hf : fb = 0
    · right
      rw [hb1, ← hb2, if_pos hf]
      rcases h3 with h3 | h3
      · exact absurd (hb2 ▸ hf) h3
      · omega
    · exact .inl hf
  · right
    by_cases hf : fb = 0
    · right
      refine ⟨hf, ?_⟩
      have h0 : (G (b.drop (skip false b)) (skip false b) 0).2.1 = 0 := by rw [← hb2]; exact hf
      unfold fin
      rw [if_pos (by rw [h2, h0])]
      show (la ++ _, 0, 0) = _
      rw [h1, hb1, if_pos h0]
    · left
      refine ⟨hf, ?_⟩
      have h0 : (G (b.drop (skip false b)) (skip false b) 0).2.1 ≠ 0 := by rw [← hb2]; exact hf
      unfold fin
      rw [if_neg (by rw [h2]; exact h0)]
      show ([], _, _) = _
      rw [h2, h3, if_neg h0, ← hb2, hb3, if_neg h0]
      congr 2
      omega

end Go.Proofs.YtbgpboiblggmiaaGreatDoor.Lx

/-
  Plain laws: the tokens of a source, separated by other gaps.
-/
namespace Go.Proofs.YtbgpboiblggmiaaGreatDoor.Lx

/-- the gaps that the law lays -/
def gapB : Nat → List UInt8
  | 0 => [32]
  | 1 => [10]
  | 2 => [9, 32]
  | 3 => [32, 47, 47, 32, 120, 32, 58, 61, 32, 49, 32, 47, 10]
  | 4 => [13, 10]
  | _ => [47, 47, 10]

/-- a gap that ends a token and is skipped whole -/
def OkGap (g : List UInt8) : Prop := ∃ c r, g = c :: r ∧ Ends c ∧ g.length ≤ 13 ∧ ∀ rest, skip false (g ++ rest) = g.length + skip false rest

theorem ends_blank : Ends 32 := ⟨by decide, by decide, by decide, by decide, by decide⟩
theorem ends_tab : Ends 9 := ⟨by decide, by decide, by decide, by decide, by decide⟩
theorem ends_ret : Ends 13 := ⟨by decide, by decide, by decide, by decide, by decide⟩
theorem ends_slash : Ends 47 := ⟨by decide, by decide, by decide, by decide, by decide⟩
theorem sw (c : UInt8) (r : List UInt8) (h : whiteU c = true) : skip false (c :: r) = 1 + skip false r := by
  conv => lhs; unfold skip
  rw [if_neg Bool.false_ne_true, if_pos h]
theorem sn (r : List UInt8) : skip false (47 :: 47 :: r) = 1 + skip true (47 :: r) := by
  conv => lhs; unfold skip
  rw [if_neg Bool.false_ne_true, if_neg (by decide), if_pos ⟨rfl, rfl⟩]
theorem si (c : UInt8) (r : List UInt8) (h : c ≠ 10) : skip true (c :: r) = 1 + skip true r := by
  conv => lhs; unfold skip
  rw [if_pos rfl, if_neg h]
theorem so (r : List UInt8) : skip true (10 :: r) = 1 + skip false r := by
  conv => lhs; unfold skip
  rw [if_pos rfl, if_pos rfl]

theorem gapB_ok (n : Nat) : OkGap (gapB n) := by
  unfold gapB
  split
  · exact ⟨32, [], rfl, ends_blank, by decide, fun rest => by simp only [List.cons_append, List.nil_append, sw _ _ (show whiteU 32 = true by decide), List.length_cons, List.length_nil]⟩
  · exact ⟨10, [], rfl, ends_feed, by decide, fun rest => by simp only [List.cons_append, List.nil_append, sw _ _ (show whiteU 10 = true by decide), List.length_cons, List.length_nil]⟩
  · exact ⟨9, [32], rfl, ends_tab, by decide, fun rest => by simp only [List.cons_append, List.nil_append, sw _ _ (show whiteU 9 = true by decide), sw _ _ (show whiteU 32 = true by decide), List.length_cons, List.length_nil]; omega⟩
  · refine ⟨32, [47, 47, 32, 120, 32, 58, 61, 32, 49, 32, 47, 10], rfl, ends_blank, by decide, fun rest => ?_⟩
    simp only [List.cons_append, List.nil_append]
    rw [sw _ _ (by decide), sn, si _ _ (by decide), si _ _ (by decide), si _ _ (by decide), si _ _ (by decide), si _ _ (by decide), si _ _ (by decide), si _ _ (by decide), si _ _ (by decide), si _ _ (by decide), si _ _ (by decide), so]
    simp only [List.length_cons, List.length_nil]
    omega
  · exact ⟨13, [10], rfl, ends_ret, by decide, fun rest => by simp only [List.cons_append, List.nil_append, sw _ _ (show whiteU 13 = true by decide), sw _ _ (show whiteU 10 = true by decide), List.length_cons, List.length_nil]; omega⟩
  · refine ⟨47, [47, 10], rfl, ends_slash, by decide, fun rest => ?_⟩
    simp only [List.cons_append, List.nil_append]
    rw [sn, si _ _ (by decide), so]
    simp only [List.length_cons, List.length_nil]
    omega

/-- the tokens' texts, each followed by its gap -/
def lay (ga : Nat → List UInt8) : Nat → List Tok → List UInt8
  | _, [] => []
  | i, t :: r => t.text ++ (ga i ++ lay ga (i + 1) r)
theorem lay_snoc (ga : Nat → List UInt8) (ts : List Tok) (t : Tok) : ∀ i, lay ga i (ts ++ [t]) = lay ga i ts ++ t.text ++ ga (i + ts.length) := by
  induction ts with
  | nil => intro i; simp [lay]
  | cons x r ih =>
    intro i
    show x.text ++ (ga i ++ lay ga (i + 1) (r ++ [t])) = _
    rw [ih]
    simp only [lay, List.append_assoc, List.length_cons]
    rw [show i + 1 + r.length = i + (r.length + 1) from by omega]

/-- a token whose text is one token -/
def Alone (t : Tok) : Prop := tok t.text = some (t.kind, t.text.length)
theorem lex_alone {l : List UInt8} {ts : List Tok} {k p : Nat} (h : lex l = (ts, k, p)) : ∀ t ∈ ts, Alone t := by
  intro t ht
  obtain ⟨h1, h2⟩ := lex_toks h t ht
  have := tok_take _ _ _ t.text.length h1 (Nat.le_refl _)
  rw [← h2] at this
  exact this

theorem syms_first : ∀ t ∈ refSyms, ∃ c r, t = c :: r ∧ whiteU c = false ∧ c ≠ 47 := by
  intro t ht
  unfold refSyms at ht
  simp only [List.mem_cons, List.not_mem_nil, or_false] at ht
  rcases ht with rfl | rfl | rfl | rfl | rfl | rfl | rfl | rfl | rfl | rfl | rfl | rfl | rfl | rfl | rfl | rfl | rfl | rfl | rfl | rfl | rfl | rfl | rfl | rfl | rfl | rfl | rfl
  all_goals exact ⟨_, _, rfl, by decide, by decide⟩

theorem tok_first (c : UInt8) (r : List UInt8) (kd n : Nat) (h : tok (c :: r) = some (kd, n)) : whiteU c = false ∧ c ≠ 47 := by
  rw [tok_cons] at h
  split at h
  · rename_i hl
    unfold letterU letter at hl
    simp only [Bool.or_eq_true, Bool.and_eq_true, decide_eq_true_eq] at hl
    refine ⟨?_, ?_⟩
    · unfold whiteU white
      simp only [Bool.or_eq_false_iff, beq_eq_false_iff_ne]
      omega
    · rintro rfl
      have : (47 : UInt8).toNat = 47 := rfl
      omega
  · split at h
    · rename_i hd
      unfold digitU digit at hd
      simp only [Bool.and_eq_true, decide_eq_true_eq] at hd
      refine ⟨?_, ?_⟩
      · unfold whiteU white
        simp only [Bool.or_eq_false_iff, beq_eq_false_iff_ne]
        omega
      · rintro rfl
        have : (47 : UInt8).toNat = 47 := rfl
        omega
    · cases hs : sym (c :: r) with
      | none => rw [hs] at h; cases h
      | some t =>
        obtain ⟨h1, _, _⟩ := sym_len _ _ hs
        obtain ⟨c', r', rfl, h2, h3⟩ := syms_first t (List.mem_of_find?_eq_some hs)
        have := congrArg (fun x => x[0]?) h1
        simp at this
        rw [this]
        exact ⟨h2, h3⟩
theorem skip_first (c : UInt8) (r b : List UInt8) (kd n : Nat) (h : tok (c :: r) = some (kd, n)) : skip false (c :: (r ++ b)) = 0 := by
  obtain ⟨h1, h2⟩ := tok_first c r kd n h
  unfold skip
  rw [if_neg Bool.false_ne_true, if_neg (by rw [h1]; exact Bool.false_ne_true), if_neg (by rintro ⟨h, _⟩; exact h2 h)]
theorem skip_lay (ga : Nat → List UInt8) (i : Nat) (ts : List Tok) (ha : ∀ t ∈ ts, Alone t) : skip false (lay ga i ts) = 0 := by
  cases ts with
  | nil => rfl
  | cons t r =>
    have h := ha t (by simp)
    unfold Alone at h
    show skip false (t.text ++ (ga i ++ lay ga (i + 1) r)) = 0
    cases hx : t.text with
    | nil => rw [hx] at h; simp [tok] at h
    | cons c q =>
      rw [hx] at h
      exact skip_first c q _ _ _ h

/-- kind and text of tokens -/
def keys (l : List Tok) : List (Nat × List UInt8) := l.map fun t => (t.kind, t.text)

theorem G_lay (ga : Nat → List UInt8) (hg : ∀ i, OkGap (ga i)) (ts : List Tok) : ∀ (i k c : Nat), (∀ t ∈ ts, Alone t) → c + ts.length ≤ 1500 → keys (G (lay ga i ts) k c).1 = keys ts ∧ (G (lay ga i ts) k c).2 = (0, 0) := by
  induction ts with
  | nil => intro i k c _ _; exact ⟨rfl, rfl⟩
  | cons t r ih =>
    intro i k c ha hc
    have h := ha t (by simp)
    unfold Alone at h
    obtain ⟨c0, g0, hg0, hends, _, hskip⟩ := hg i
    simp only [List.length_cons] at hc
    cases hx : t.text with
    | nil => rw [hx] at h; simp [tok] at h
    | cons x q =>
      have he : lay ga i (t :: r) = x :: (q ++ (ga i ++ lay ga (i + 1) r)) := by
        show t.text ++ _ = _
        rw [hx]; rfl
      have ht : tok (x :: (q ++ (ga i ++ lay ga (i + 1) r))) = some (t.kind, (x :: q).length) := by
        rw [hx] at h
        rw [← h, hg0]
        exact tok_app c0 hends x q (g0 ++ lay ga (i + 1) r)
      rw [he, G_some x _ k c _ _ (by omega) ht]
      have hd : (x :: (q ++ (ga i ++ lay ga (i + 1) r))).drop (x :: q).length = ga i ++ lay ga (i + 1) r := by
        rw [← List.cons_append, List.drop_left]
      have htk : (x :: (q ++ (ga i ++ lay ga (i + 1) r))).take (x :: q).length = x :: q := by
        rw [← List.cons_append, List.take_left]
      have hs : skip false (ga i ++ lay ga (i + 1) r) = (ga i).length := by
        rw [hskip, skip_lay ga (i + 1) r (fun t ht => ha t (by simp [ht])), Nat.add_zero]
      have haf : after (x :: (q ++ (ga i ++ lay ga (i + 1) r))) (x :: q).length = lay ga (i + 1) r := by
        unfold after
        rw [hd, hs, List.drop_left]
      rw [haf, htk, hd, hs]
      obtain ⟨h1, h2⟩ := ih (i + 1) (k + (x :: q).length + (ga i).length) (c + 1) (fun t ht => ha t (by simp [ht])) (by omega)
      refine ⟨?_, h2⟩
      show (t.kind, x :: q) :: keys _ = (t.kind, t.text) :: keys r
      rw [h1, hx]

/-- chapter 1's word on tokens that are separated by other gaps -/
theorem lex_lay (ga : Nat → List UInt8) (hg : ∀ i, OkGap (ga i)) (ts : List Tok) (ha : ∀ t ∈ ts, Alone t) (hn : ts.length ≤ 1500) (hl : (lay ga 0 ts).length ≤ 4000) : ∃ ts', lex (lay ga 0 ts) = (ts', 0, 0) ∧ keys ts' = keys ts := by
  obtain ⟨h1, h2⟩ := G_lay ga hg ts 0 0 0 ha (by omega)
  refine ⟨_, ?_, h1⟩
  rw [lex_G _ hl, skip_lay ga 0 ts ha, List.drop_zero]
  unfold fin
  rw [h2]
  rfl

theorem keys_at {a b : List Tok} (h : keys a = keys b) (k : Nat) (t : Tok) (ht : b[k]? = some t) : ∃ t', a[k]? = some t' ∧ t'.kind = t.kind ∧ t'.text = t.text := by
  have h1 : (keys b)[k]? = some (t.kind, t.text) := by unfold keys; rw [List.getElem?_map, ht]; rfl
  rw [← h] at h1
  unfold keys at h1
  rw [List.getElem?_map, Option.map_eq_some_iff] at h1
  obtain ⟨t', h2, h3⟩ := h1
  simp only [Prod.mk.injEq] at h3
  exact ⟨t', h2, h3.1, h3.2⟩
theorem keys_len {a b : List Tok} (h : keys a = keys b) : a.length = b.length := by
  have := congrArg List.length h
  simpa [keys] using this

end Go.Proofs.YtbgpboiblggmiaaGreatDoor.Lx

/-
  The plain functions of the parser of chapter 2 (trees, readers, items); no program is imported.
-/
namespace Go.Proofs.YtbgpboiblggmiaaGreatDoor.Px
open Lx (Tok)

abbrev Str := List UInt8

/-- a tree -/
inductive T where
  | mk (kind : Int) (name other : Str) (n len init : Int) (ghost : Bool) (kids : List T) (off : Int)

namespace T
def kind : T → Int | mk k _ _ _ _ _ _ _ _ => k
def name : T → Str | mk _ s _ _ _ _ _ _ _ => s
def other : T → Str | mk _ _ s _ _ _ _ _ _ => s
def n : T → Int | mk _ _ _ k _ _ _ _ _ => k
def len : T → Int | mk _ _ _ _ k _ _ _ _ => k
def init : T → Int | mk _ _ _ _ _ k _ _ _ => k
def ghost : T → Bool | mk _ _ _ _ _ _ b _ _ => b
def kids : T → List T | mk _ _ _ _ _ _ _ l _ => l
def off : T → Int | mk _ _ _ _ _ _ _ _ k => k
end T

/-- the zero tree -/
def T.zero : T := .mk 0 [] [] 0 0 0 false [] 0
/-- a tree of a kind at an offset, with kids -/
def T.of (kind : Int) (off : Int) (kids : List T) : T := .mk kind [] [] 0 0 0 false kids off
def T.named (kind : Int) (off : Int) (name : Str) (kids : List T) : T := .mk kind name [] 0 0 0 false kids off

/-- a diagnostic -/
structure D where
  err : Int
  off : Int
deriving DecidableEq

/-- what a reader holds -/
structure St where
  toks : List Tok
  braces : Int
  diags : List D

inductive Res (α : Type) where
  | ok (a : α) (s : St)
  | bad (d : D) (s : St)

def Res.bind {α β : Type} (r : Res α) (f : α → St → Res β) : Res β :=
  match r with
  | .ok a s => f a s
  | .bad d s => .bad d s

theorem Res.bind_ok {α β : Type} (a : α) (s : St) (f : α → St → Res β) : (Res.ok a s).bind f = f a s := rfl
theorem Res.bind_bad {α β : Type} (d : D) (s : St) (f : α → St → Res β) : (Res.bad d s : Res α).bind f = .bad d s := rfl

def keys : List Str := [[109, 111, 100, 117, 108, 101],
  [111, 119, 110, 101, 114],
  [114, 101, 99, 111, 114, 100],
  [115, 104, 97, 114, 101, 100],
  [103, 104, 111, 115, 116],
  [108, 111, 99, 107],
  [105, 110, 118, 97, 114, 105, 97, 110, 116],
  [114, 101, 108, 121],
  [103, 117, 97, 114, 97, 110, 116, 101, 101],
  [102, 114, 97, 109, 101],
  [112, 114, 111, 99],
  [108, 111, 99, 107, 101, 100],
  [108, 111, 99, 97, 108],
  [97, 115, 115, 101, 114, 116],
  [114, 101, 108, 101, 97, 115, 101],
  [119, 105, 116, 104],
  [97, 116, 111, 109, 105, 99],
  [119, 104, 101, 110],
  [99, 97, 115],
  [105, 110, 116, 111],
  [97, 99, 113, 117, 105, 114, 101],
  [102, 114, 101, 101],
  [102, 101, 110, 99, 101],
  [115, 112, 97, 119, 110],
  [106, 111, 105, 110],
  [97, 119, 97, 105, 116],
  [115, 107, 105, 112],
  [105, 102],
  [101, 108, 115, 101],
  [119, 104, 105, 108, 101],
  [118, 97, 114, 105, 97, 110, 116],
  [99, 97, 108, 108],
  [116, 104, 114, 101, 97, 100],
  [97, 115, 108, 101, 101, 112],
  [111, 108, 100],
  [97, 108, 108],
  [115, 111, 109, 101]]
def isKey (s : Str) : Bool := keys.contains s

section
variable (E : Nat)

/-- the next token, or one without a text at the end -/
def peek (s : St) : Tok := match s.toks with | [] => ⟨0, [], E⟩ | t :: _ => t
def text (s : St) : Str := (peek E s).text
def kindOf (s : St) : Nat := (peek E s).kind
def offOf (s : St) : Int := ((peek E s).off : Int)
def wrongD (s : St) : D := ⟨match s.toks with | [] => 21 | _ :: _ => 20, offOf E s⟩
def wrong {α : Type} (s : St) : Res α := .bad (wrongD E s) s
def rest (s : St) : St := { s with toks := s.toks.tail }
def accepts (x : Str) (s : St) : Bool := text E s == x
def accepted (x : Str) (s : St) : St := if accepts E x s then rest s else s
def expect (x : Str) (s : St) : Res Unit := if accepts E x s then .ok () (rest s) else wrong E s
def name (s : St) : Res Str := if kindOf E s = 1 ∧ isKey (text E s) = false then .ok (text E s) (rest s) else wrong E s
def pathGo : Nat → Str → St → Res Str
  | 0, p, s => .ok p s
  | k + 1, p, s => if accepts E [46] s then (name E (rest s)).bind fun q s => pathGo k (p ++ ([46] ++ q)) s else .ok p s
def path (s : St) : Res Str := (name E s).bind fun p s => pathGo E 2 p s
def numVal (l : Str) : Int := l.foldl (fun a c => 10 * a + ((c.toNat : Int) - 48)) 0
def number (s : St) : Res Int := if kindOf E s = 2 then .ok (numVal (text E s)) (rest s) else wrong E s
def length (s : St) : Res Int := if accepts E [48] s then .bad ⟨2, offOf E s⟩ s else number E s

/-- parts separated by commas -/
def sepGo (part : St → Res T) : Nat → List T → St → Res (List T)
  | 0, l, s => .ok l s
  | k + 1, l, s => if accepts E [44] s then (part (rest s)).bind fun t s => sepGo part k (l ++ [t]) s else .ok l s
def separated (part : St → Res T) (s : St) : Res (List T) := (part s).bind fun t s => sepGo E part (s.toks.length + 1) [t] s
def tuple (part : St → Res T) (s : St) : Res (List T) :=
  (expect E [40] s).bind fun _ s =>
  if accepts E [41] s then .ok [] (rest s) else
  (separated E part s).bind fun l s => (expect E [41] s).bind fun _ s => .ok l s

def level (x : Str) : Int :=
  if x = [61, 61, 62] then 1 else if x = [124, 124] then 2 else if x = [38, 38] then 3
  else if x = [61, 61] ∨ x = [33, 61] ∨ x = [60] ∨ x = [60, 61] then 4
  else if x = [124] then 5 else if x = [94] then 6 else if x = [38] then 7
  else if x = [43] ∨ x = [45] then 8 else if x = [42] then 9 else 0
def leastOnTheRight (now : Int) : Int := if now = 1 then now else now + 1
def mostAfter (now : Int) : Int := if now = 4 then now - 1 else now

def numeral (s : St) : Res T := (number E s).bind fun n s' => .ok (.mk 1 [] [] n 0 0 false [] (offOf E s)) s'
def pvar (s : St) : Res T := (path E s).bind fun p s' => .ok (T.named 2 (offOf E s) p []) s'

/-- the places of an expression -/
inductive P where
  | expr | cond | bin (least : Int) | loop (least most : Int) (n : T) | unary | ref

def run : Nat → P → St → Res T
  | 0, _, s => wrong E s
  | k + 1, .expr, s =>
    if accepts E [97, 108, 108] s ∨ accepts E [115, 111, 109, 101] s then
      (name E (rest s)).bind fun x s1 => (expect E [60] s1).bind fun _ s2 => (number E s2).bind fun m s3 => (expect E [58] s3).bind fun _ s4 =>
      (run k .expr s4).bind fun e s5 => .ok (.mk (if accepts E [97, 108, 108] s then 7 else 8) x [] m 0 0 false [e] (offOf E s)) s5
    else run k .cond s
  | k + 1, .cond, s =>
    (run k (.bin 1) s).bind fun n s1 =>
    if accepts E [63] s1 then
      (run k .cond (rest s1)).bind fun y s2 => (expect E [58] s2).bind fun _ s3 => (run k .cond s3).bind fun z s4 =>
      .ok (T.of 6 (offOf E s1) [n, y, z]) s4
    else .ok n s1
  | k + 1, .bin least, s => (run k .unary s).bind fun n s1 => run k (.loop least 9 n) s1
  | k + 1, .loop least most n, s =>
    let now := level (text E s)
    if now < least ∨ most < now then .ok n s else
    (run k (.bin (leastOnTheRight now)) (rest s)).bind fun m s1 =>
    run k (.loop least (mostAfter now) (T.named 5 (offOf E s) (text E s) [n, m])) s1
  | k + 1, .unary, s =>
    if accepts E [33] s then (run k .unary (rest s)).bind fun n s1 => .ok (T.of 4 (offOf E s) [n]) s1
    else if accepts E [111, 108, 100] s then
      (expect E [40] (rest s)).bind fun _ s1 => (run k .ref s1).bind fun n s2 => (expect E [41] s2).bind fun _ s3 => .ok (T.of 3 (offOf E s) [n]) s3
    else if accepts E [40] s then
      (run k .expr (rest s)).bind fun n s1 => (expect E [41] s1).bind fun _ s2 => .ok n s2
    else if kindOf E s = 2 then numeral E s
    else run k .ref s
  | k + 1, .ref, s =>
    (pvar E s).bind fun n s1 =>
    if accepts E [91] s1 then
      (run k .expr (rest s1)).bind fun e s2 => (expect E [93] s2).bind fun _ s3 => .ok (T.named 2 n.off n.name [e]) s3
    else .ok n s1

/-- enough rounds for what is left -/
def fuel (s : St) : Nat := 6 * s.toks.length + 6
def expr (s : St) : Res T := run E (fuel s) .expr s
def refr (s : St) : Res T := run E (fuel s) .ref s
def whole (s : St) : Res T := (expr E s).bind fun n s => match s.toks with | [] => .ok n s | _ :: _ => wrong E s

/-- the rest of a wrong item -/
def skipGo (inBraces : Bool) : List Tok → Int → List Tok
  | [], _ => []
  | t :: r, depth =>
    if inBraces && depth == 0 && t.text == [125] then t :: r
    else if t.text = [123] then skipGo inBraces r (depth + 1)
    else if t.text = [125] then
      (if depth - 1 < 0 then r
       else if depth - 1 = 0 then (match r with | [] => [] | u :: q => if u.text = [59] then q else u :: q)
       else skipGo inBraces r (depth - 1))
    else if t.text = [59] ∧ depth = 0 then r
    else skipGo inBraces r depth
def report (d : D) (l : List D) : List D :=
  if decide (l.length < 20) && (match l.getLast? with | .none => true | .some e => decide (e.off ≠ d.off)) then l ++ [d] else l

/-- an item: its tree, or none, and what is left -/
def item (rd : St → Res T) (inBraces : Bool) (s : St) : Option T × St :=
  match rd s with
  | .ok t s1 => (some t, s1)
  | .bad d s1 => (none, ⟨skipGo inBraces s1.toks s1.braces, 0, report d s1.diags⟩)
def more (l : List T) : Option T → List T
  | none => l
  | some t => l ++ [t]
def listGo (rd : St → Res T) : Nat → List T → St → Res (List T)
  | 0, _, s => wrong E s
  | k + 1, l, s =>
    if accepts E [125] s then .ok l (rest s) else
    match s.toks with
    | [] => wrong E s
    | _ :: _ => listGo rd k (more l (item rd true s).1) (item rd true s).2
def list (rd : St → Res T) (s : St) : Res (List T) := (expect E [123] s).bind fun _ s => listGo E rd (s.toks.length + 1) [] s
def unitsGo (rd : St → Res T) : Nat → List T → St → List T × St
  | 0, l, s => (l, s)
  | k + 1, l, s =>
    match s.toks with
    | [] => (l, s)
    | _ :: _ => unitsGo rd k (more l (item rd false s).1) (item rd false s).2

def assign (l : List T) (s : St) : Res (List T) :=
  (refr E s).bind fun r s => (expect E [58, 61] s).bind fun _ s => (expr E s).bind fun e s => .ok (l ++ [r, e]) s
def assignsGo : Nat → List T → St → Res (List T)
  | 0, l, s => .ok l s
  | k + 1, l, s => if accepts E [44] s then (assign E l (rest s)).bind fun l s => assignsGo k l s else .ok l s
def assigns (l : List T) (s : St) : Res (List T) := (assign E l s).bind fun l s => assignsGo E (s.toks.length + 1) l s
def withs (l : List T) (s : St) : Res (List T) := if accepts E [119, 105, 116, 104] s then assigns E l (rest s) else .ok l s

def claim (kind : Int) (s : St) : Res T :=
  (expr E (rest s)).bind fun e s1 => (expect E [59] s1).bind fun _ s2 => .ok (T.of kind (offOf E s) [e]) s2
def bare (kind : Int) (s : St) : Res T := (expect E [59] (rest s)).bind fun _ s1 => .ok (T.of kind (offOf E s) []) s1
def named (kind : Int) (nm : St → Res Str) (s : St) : Res T :=
  (nm (rest s)).bind fun x s1 => (expect E [59] s1).bind fun _ s2 => .ok (T.named kind (offOf E s) x []) s2
def assignment (s : St) : Res T :=
  (assign E [] (accepted E [114, 101, 108, 101, 97, 115, 101] s)).bind fun l s1 => (withs E l s1).bind fun l s2 => (expect E [59] s2).bind fun _ s3 =>
  .ok (.mk 21 [] [] (if accepts E [114, 101, 108, 101, 97, 115, 101] s then 1 else 0) 0 0 false l (offOf E s)) s3
def none (off : Int) : T := T.of 63 off []
def atomic (s : St) : Res T :=
  (expect E [123] (rest s)).bind fun _ s1 =>
  (if accepts E [125] s1 then .ok [none (offOf E s)] { s1 with braces := 1 } else assigns E [none (offOf E s)] { s1 with braces := 1 }).bind fun l s2 =>
  (expect E [125] s2).bind fun _ s3 =>
  (if accepts E [119, 104, 101, 110] s3 then (expr E (rest { s3 with braces := 0 })).bind fun g s4 => .ok (g :: l.tail) s4 else .ok l { s3 with braces := 0 }).bind fun l s5 =>
  (expect E [59] s5).bind fun _ s6 => .ok (T.of 22 (offOf E s) l) s6
def cas (s : St) : Res T :=
  (refr E (rest s)).bind fun a s1 => (expect E [44] s1).bind fun _ s2 => (expr E s2).bind fun b s3 => (expect E [44] s3).bind fun _ s4 =>
  (expr E s4).bind fun c s5 => (expect E [105, 110, 116, 111] s5).bind fun _ s6 => (refr E s6).bind fun d s7 => (withs E [a, b, c, d] s7).bind fun l s8 =>
  (expect E [59] s8).bind fun _ s9 => .ok (T.of 23 (offOf E s) l) s9
def call (s : St) : Res T :=
  (path E (rest s)).bind fun x s1 => (tuple E (expr E) s1).bind fun l s2 => (expect E [59] s2).bind fun _ s3 => .ok (T.named 33 (offOf E s) x l) s3
def typed (s : St) : Res (Str × Int) := (name E s).bind fun x s1 => (expect E [58] s1).bind fun _ s2 => (number E s2).bind fun m s3 => .ok (x, m) s3
def plocal (s : St) : Res T :=
  (expect E [108, 111, 99, 97, 108] (accepted E [103, 104, 111, 115, 116] s)).bind fun _ s1 => (typed E s1).bind fun p s2 => (expect E [59] s2).bind fun _ s3 =>
  .ok (.mk 35 p.1 [] p.2 0 0 (accepts E [103, 104, 111, 115, 116] s) [] (offOf E s)) s3

def block (rd : St → Res T) (s : St) : Res T := (list E rd s).bind fun l s1 => .ok (T.of 34 (offOf E s) l) s1
def branch (rd : St → Res T) (s : St) : Res T :=
  (expr E (rest s)).bind fun e s1 => (block E rd s1).bind fun y s2 =>
  (if accepts E [101, 108, 115, 101] s2 then block E rd (rest s2) else .ok (T.of 34 (offOf E s) []) s2).bind fun z s3 => .ok (T.of 31 (offOf E s) [e, y, z]) s3
def loop (rd : St → Res T) (s : St) : Res T :=
  (expr E (rest s)).bind fun e s1 =>
  (if accepts E [118, 97, 114, 105, 97, 110, 116] s1 then expr E (rest s1) else .ok (none (offOf E s)) s1).bind fun v s2 =>
  (block E rd s2).bind fun b s3 => .ok (T.of 32 (offOf E s) [e, v, b]) s3
def statement : Nat → St → Res T
  | 0, s => wrong E s
  | k + 1, s =>
    if accepts E [97, 115, 115, 101, 114, 116] s then claim E 20 s
    else if accepts E [97, 119, 97, 105, 116] s then claim E 29 s
    else if accepts E [102, 101, 110, 99, 101] s then bare E 26 s
    else if accepts E [115, 107, 105, 112] s then bare E 30 s
    else if accepts E [97, 116, 111, 109, 105, 99] s then atomic E s
    else if accepts E [99, 97, 115] s then cas E s
    else if accepts E [97, 99, 113, 117, 105, 114, 101] s then named E 24 (path E) s
    else if accepts E [102, 114, 101, 101] s then named E 25 (path E) s
    else if accepts E [115, 112, 97, 119, 110] s then named E 27 (name E) s
    else if accepts E [106, 111, 105, 110] s then named E 28 (name E) s
    else if accepts E [105, 102] s then branch E (statement k) s
    else if accepts E [119, 104, 105, 108, 101] s then loop E (statement k) s
    else if accepts E [99, 97, 108, 108] s then call E s
    else if accepts E [103, 104, 111, 115, 116] s ∨ accepts E [108, 111, 99, 97, 108] s then plocal E s
    else assignment E s
def stmt (s : St) : Res T := statement E (s.toks.length + 1) s

def field (s : St) : Res T := (typed E s).bind fun p s1 => (expect E [59] s1).bind fun _ s2 => .ok (.mk 52 p.1 [] p.2 0 0 false [] (offOf E s)) s2
def param (s : St) : Res T := (typed E s).bind fun p s1 => .ok (.mk 58 p.1 [] p.2 0 0 false [] (offOf E s)) s1
def record (s : St) : Res T := (name E (rest s)).bind fun x s1 => (list E (field E) s1).bind fun l s2 => .ok (T.named 51 (offOf E s) x l) s2
def shared (s : St) : Res T :=
  (expect E [115, 104, 97, 114, 101, 100] (accepted E [103, 104, 111, 115, 116] s)).bind fun _ s1 => (name E s1).bind fun x s2 =>
  (if accepts E [91] s2 then (length E (rest s2)).bind fun m s3 => (expect E [93] s3).bind fun _ s4 => .ok m s4 else .ok 0 s2).bind fun len s5 =>
  (expect E [58] s5).bind fun _ s6 =>
  (if kindOf E s6 = 2 then (number E s6).bind fun m s7 => .ok ([], m) s7 else (name E s6).bind fun y s7 => .ok (y, 0) s7).bind fun q s8 =>
  (if accepts E [61] s8 then number E (rest s8) else .ok 0 s8).bind fun i s9 =>
  (expect E [59] s9).bind fun _ s10 => .ok (.mk 50 x q.1 q.2 len i (accepts E [103, 104, 111, 115, 116] s) [] (offOf E s)) s10
def lock (s : St) : Res T :=
  (name E (rest s)).bind fun x s1 => (expect E [105, 110, 118, 97, 114, 105, 97, 110, 116] s1).bind fun _ s2 => (expr E s2).bind fun e s3 => (expect E [59] s3).bind fun _ s4 =>
  .ok (T.named 53 (offOf E s) x [e]) s4
def frame (s : St) : Res T := (separated E (pvar E) (rest s)).bind fun l s1 => (expect E [59] s1).bind fun _ s2 => .ok (T.of 56 (offOf E s) l) s2
def proc (s : St) : Res T :=
  (name E (rest s)).bind fun x s1 => (tuple E (param E) s1).bind fun l s2 =>
  (if accepts E [108, 111, 99, 107, 101, 100] s2 then name E (rest s2) else .ok [] s2).bind fun y s3 =>
  (block E (stmt E) s3).bind fun b s4 => .ok (.mk 57 x y 0 0 0 false (l ++ [b]) (offOf E s)) s4
def declaration (s : St) : Res T :=
  if accepts E [114, 101, 99, 111, 114, 100] s then record E s
  else if accepts E [108, 111, 99, 107] s then lock E s
  else if accepts E [114, 101, 108, 121] s then claim E 54 s
  else if accepts E [103, 117, 97, 114, 97, 110, 116, 101, 101] s then claim E 55 s
  else if accepts E [102, 114, 97, 109, 101] s then frame E s
  else if accepts E [112, 114, 111, 99] s then proc E s
  else shared E s
def module (s : St) : Res T :=
  (name E (rest s)).bind fun x s1 => (expect E [111, 119, 110, 101, 114] s1).bind fun _ s2 => (name E s2).bind fun y s3 =>
  (list E (declaration E) s3).bind fun l s4 => .ok (.mk 60 x y 0 0 0 false l (offOf E s)) s4
def thread (s : St) : Res T :=
  (expect E [116, 104, 114, 101, 97, 100] (accepted E [97, 115, 108, 101, 101, 112] s)).bind fun _ s1 => (name E s1).bind fun x s2 => (expect E [61] s2).bind fun _ s3 =>
  (path E s3).bind fun p s4 => (tuple E (numeral E) s4).bind fun l s5 => (expect E [59] s5).bind fun _ s6 =>
  .ok (.mk 61 x p (if accepts E [97, 115, 108, 101, 101, 112] s then 1 else 0) 0 0 false l (offOf E s)) s6
def unit (s : St) : Res T := if accepts E [109, 111, 100, 117, 108, 101] s then module E s else thread E s
end

/-- nodes left when a tree is counted to its end, or none if a limit is exceeded -/
def fitsGo : Nat → Int → List T → Int → Option Int
  | 0, _, _, _ => .none
  | _ + 1, _, [], left => some left
  | k + 1, depth, .mk _ _ _ _ _ _ _ kids _ :: r, left =>
    if depth = 0 ∨ left - 1 < 0 then .none else
    match fitsGo k (depth - 1) kids (left - 1) with
    | .none => .none
    | some left => fitsGo k depth r left

mutual
/-- the number of nodes, and the depth -/
def size : T → Nat
  | .mk _ _ _ _ _ _ _ kids _ => 1 + sizes kids
def sizes : List T → Nat
  | [] => 0
  | t :: r => size t + sizes r
end
mutual
def depth : T → Nat
  | .mk _ _ _ _ _ _ _ kids _ => 1 + depths kids
def depths : List T → Nat
  | [] => 0
  | t :: r => Nat.max (depth t) (depths r)
end
def fits (t : T) : Bool := decide (size t ≤ 1500) && decide (depth t ≤ 40)

def start (ts : List Tok) : St := ⟨ts, 0, []⟩
def source (l : List T) : T := T.of 62 0 l
/-- chapter 2's Parse -/
def parse (l : List UInt8) : T × List D :=
  let r := Lx.lex l
  if r.2.1 ≠ 0 then (source [], [⟨r.2.1, r.2.2⟩]) else
  let u := unitsGo (unit l.length) (r.1.length + 1) [] (start r.1)
  if u.2.diags = [] ∧ fits (source u.1) = false then (source [], [⟨2, 0⟩]) else (source u.1, u.2.diags)
/-- chapter 2's ParseExpr -/
def parseExpr (l : List UInt8) : T × List D :=
  let r := Lx.lex l
  if r.2.1 ≠ 0 then (T.zero, [⟨r.2.1, r.2.2⟩]) else
  match item (whole l.length) false (start r.1) with
  | (.none, s) => (T.zero, s.diags)
  | (some t, _) => if fits t then (t, []) else (T.zero, [⟨2, 0⟩])
end Go.Proofs.YtbgpboiblggmiaaGreatDoor.Px

/-
  The plain parser takes tokens: how many are left.
-/
namespace Go.Proofs.YtbgpboiblggmiaaGreatDoor.Px
variable {E : Nat}

theorem bind_inv {α β : Type} {m : Res α} {f : α → St → Res β} {b : β} {s2 : St} (h : m.bind f = .ok b s2) : ∃ a s1, m = .ok a s1 ∧ f a s1 = .ok b s2 := by
  cases m with
  | ok a s => exact ⟨a, s, rfl, h⟩
  | bad d s => cases h

/-- tokens left -/
def left (s : St) : Nat := s.toks.length

theorem acc_left {x : Str} {s : St} (h : accepts E x s = true) (hx : x ≠ []) : left (rest s) + 1 = left s := by
  unfold accepts text peek at h
  unfold left rest
  cases hs : s.toks with
  | nil =>
    rw [hs] at h
    exact absurd (eq_of_beq h).symm hx
  | cons t r => simp
theorem kind_left {s : St} {k : Nat} (h : kindOf E s = k) (hk : k ≠ 0) : left (rest s) + 1 = left s := by
  unfold kindOf peek at h
  unfold left rest
  cases hs : s.toks with
  | nil => rw [hs] at h; exact absurd h.symm hk
  | cons t r => simp
theorem expect_inv {x : Str} {s s2 : St} {a : Unit} (h : expect E x s = .ok a s2) : accepts E x s = true ∧ s2 = rest s := by
  unfold expect wrong at h
  split at h
  · rename_i hc; cases h; exact ⟨hc, rfl⟩
  · cases h
theorem expect_left {x : Str} {s s2 : St} {a : Unit} (h : expect E x s = .ok a s2) (hx : x ≠ []) : left s2 + 1 = left s := by
  obtain ⟨h1, rfl⟩ := expect_inv h
  exact acc_left h1 hx
theorem name_left {s s2 : St} {a : Str} (h : name E s = .ok a s2) : left s2 + 1 = left s := by
  unfold name wrong at h
  split at h
  · rename_i hc; cases h; exact kind_left hc.1 (by decide)
  · cases h
theorem number_left {s s2 : St} {a : Int} (h : number E s = .ok a s2) : left s2 + 1 = left s := by
  unfold number wrong at h
  split at h
  · rename_i hc; cases h; exact kind_left hc (by decide)
  · cases h
theorem pathGo_left : ∀ (k : Nat) (p : Str) {s s2 : St} {a : Str}, pathGo E k p s = .ok a s2 → left s2 ≤ left s
  | 0, p, s, s2, a, h => by rw [pathGo] at h; cases h; exact Nat.le_refl _
  | k + 1, p, s, s2, a, h => by
    rw [pathGo] at h
    split at h
    · rename_i hc
      obtain ⟨q, s1, h1, h2⟩ := bind_inv h
      have := pathGo_left k _ h2
      have := name_left h1
      have := acc_left hc (by decide)
      omega
    · cases h; exact Nat.le_refl _
theorem path_left {s s2 : St} {a : Str} (h : path E s = .ok a s2) : left s2 < left s := by
  unfold path at h
  obtain ⟨q, s1, h1, h2⟩ := bind_inv h
  have := pathGo_left 2 _ h2
  have := name_left h1
  omega
theorem numeral_left {s s2 : St} {a : T} (h : numeral E s = .ok a s2) : left s2 + 1 = left s := by
  unfold numeral at h
  obtain ⟨q, s1, h1, h2⟩ := bind_inv h
  cases h2
  exact number_left h1
theorem pvar_left {s s2 : St} {a : T} (h : pvar E s = .ok a s2) : left s2 < left s := by
  unfold pvar at h
  obtain ⟨q, s1, h1, h2⟩ := bind_inv h
  cases h2
  exact path_left h1

/-- is the place one that takes a token at least? -/
def takes : P → Bool
  | .loop _ _ _ => false
  | _ => true

theorem run_left : ∀ (k : Nat) (p : P) {s s2 : St} {a : T}, run E k p s = .ok a s2 → left s2 + (if takes p then 1 else 0) ≤ left s
  | 0, p, s, s2, a, h => by rw [run] at h; cases h
  | k + 1, .expr, s, s2, a, h => by
    rw [run] at h
    split at h
    · rename_i hc
      have h0 : left (rest s) + 1 = left s := by
        rcases hc with hc | hc
        · exact acc_left hc (by decide)
        · exact acc_left hc (by decide)
      obtain ⟨x1, s1, e1, h⟩ := bind_inv h
      obtain ⟨x2, s2, e2, h⟩ := bind_inv h
      obtain ⟨x3, s3, e3, h⟩ := bind_inv h
      obtain ⟨x4, s4, e4, h⟩ := bind_inv h
      obtain ⟨x5, s5, e5, h⟩ := bind_inv h
      cases h
      have := name_left e1
      have := expect_left e2 (by decide)
      have := number_left e3
      have := expect_left e4 (by decide)
      have := run_left k _ e5
      try simp only [takes] at *
      omega
    · have := run_left k _ h
      simpa [takes] using this
  | k + 1, .cond, s, s2, a, h => by
    rw [run] at h
    obtain ⟨x1, s1, e1, h⟩ := bind_inv h
    have h1 := run_left k _ e1
    split at h
    · rename_i hc
      have h0 := acc_left hc (by decide)
      obtain ⟨x2, s2, e2, h⟩ := bind_inv h
      obtain ⟨x3, s3, e3, h⟩ := bind_inv h
      obtain ⟨x4, s4, e4, h⟩ := bind_inv h
      cases h
      have := run_left k _ e2
      have := expect_left e3 (by decide)
      have := run_left k _ e4
      try simp only [takes] at *
      omega
    · cases h
      simpa [takes] using h1
  | k + 1, .bin least, s, s2, a, h => by
    rw [run] at h
    obtain ⟨x1, s1, e1, h⟩ := bind_inv h
    have h1 := run_left k _ e1
    have h2 := run_left k _ h
    try simp only [takes] at *
    try simp at *
    omega
  | k + 1, .loop least most n, s, s2, a, h => by
    rw [run] at h
    try simp only at h
    split at h
    · cases h; simp [takes]
    · obtain ⟨x1, s1, e1, h⟩ := bind_inv h
      have h1 := run_left k _ e1
      have h2 := run_left k _ h
      have h3 : left (rest s) ≤ left s := by unfold left rest; simp
      try simp only [takes] at *
      try simp at *
      omega
  | k + 1, .unary, s, s2, a, h => by
    rw [run] at h
    split at h
    · rename_i hc
      have h0 := acc_left hc (by decide)
      obtain ⟨x1, s1, e1, h⟩ := bind_inv h
      cases h
      have h1 := run_left k _ e1
      try simp only [takes] at *
      try simp at *
      omega
    · split at h
      · rename_i hc
        have h0 := acc_left hc (by decide)
        obtain ⟨x1, s1, e1, h⟩ := bind_inv h
        obtain ⟨x2, s2, e2, h⟩ := bind_inv h
        obtain ⟨x3, s3, e3, h⟩ := bind_inv h
        cases h
        have := expect_left e1 (by decide)
        have := run_left k _ e2
        have := expect_left e3 (by decide)
        try simp only [takes] at *
        try simp at *
        omega
      · split at h
        · rename_i hc
          have h0 := acc_left hc (by decide)
          obtain ⟨x1, s1, e1, h⟩ := bind_inv h
          obtain ⟨x2, s2, e2, h⟩ := bind_inv h
          cases h
          have := run_left k _ e1
          have := expect_left e2 (by decide)
          try simp only [takes] at *
          try simp at *
          omega
        · split at h
          · have := numeral_left h
            simp only [takes]
            simp
            omega
          · have := run_left k _ h
            simpa [takes] using this
  | k + 1, .ref, s, s2, a, h => by
    rw [run] at h
    obtain ⟨x1, s1, e1, h⟩ := bind_inv h
    have h1 := pvar_left e1
    split at h
    · rename_i hc
      have h0 := acc_left hc (by decide)
      obtain ⟨x2, s2, e2, h⟩ := bind_inv h
      obtain ⟨x3, s3, e3, h⟩ := bind_inv h
      cases h
      have := run_left k _ e2
      have := expect_left e3 (by decide)
      try simp only [takes] at *
      try simp at *
      omega
    · cases h
      simp [takes]
      omega
end Go.Proofs.YtbgpboiblggmiaaGreatDoor.Px

/-
  The plain parser leaves an end of the tokens, whatever it answers.
-/
namespace Go.Proofs.YtbgpboiblggmiaaGreatDoor.Px
variable {E : Nat}

def Res.st {α : Type} : Res α → St
  | .ok _ s => s
  | .bad _ s => s
/-- what is left is an end of what was there -/
def Suf {α : Type} (r : Res α) (s : St) : Prop := r.st.toks <:+ s.toks

theorem suf_bind {α β : Type} {r : Res α} {s : St} {f : α → St → Res β} (h : Suf r s) (hf : ∀ a s1, r = .ok a s1 → Suf (f a s1) s1) : Suf (r.bind f) s := by
  cases r with
  | ok a s1 => exact List.IsSuffix.trans (hf a s1 rfl) h
  | bad d s1 => exact h
theorem suf_rest (s : St) : (rest s).toks <:+ s.toks := List.tail_suffix _
theorem suf_of {α : Type} {r : Res α} {s s1 : St} (h : Suf r s1) (h1 : s1.toks <:+ s.toks) : Suf r s := List.IsSuffix.trans h h1
theorem suf_same {α : Type} {s : St} (a : α) : Suf (.ok a s) s := List.suffix_refl _
theorem suf_wrong {α : Type} (s : St) : Suf (wrong E s : Res α) s := List.suffix_refl _
theorem suf_expect (x : Str) (s : St) : Suf (expect E x s) s := by
  unfold expect
  split
  · exact suf_rest s
  · exact suf_wrong s
theorem suf_name (s : St) : Suf (name E s) s := by
  unfold name
  split
  · exact suf_rest s
  · exact suf_wrong s
theorem suf_number (s : St) : Suf (number E s) s := by
  unfold number
  split
  · exact suf_rest s
  · exact suf_wrong s
theorem suf_length (s : St) : Suf (length E s) s := by
  unfold length
  split
  · exact List.suffix_refl _
  · exact suf_number s
theorem suf_pathGo : ∀ (k : Nat) (p : Str) (s : St), Suf (pathGo E k p s) s
  | 0, p, s => by rw [pathGo]; exact suf_same _
  | k + 1, p, s => by
    rw [pathGo]
    split
    · exact suf_of (suf_bind (suf_name _) (fun a s1 _ => suf_pathGo k _ s1)) (suf_rest s)
    · exact suf_same _
theorem suf_path (s : St) : Suf (path E s) s := by
  unfold path
  exact suf_bind (suf_name s) (fun a s1 _ => suf_pathGo 2 _ s1)
theorem suf_numeral (s : St) : Suf (numeral E s) s := by
  unfold numeral
  exact suf_bind (suf_number s) (fun a s1 _ => suf_same _)
theorem suf_pvar (s : St) : Suf (pvar E s) s := by
  unfold pvar
  exact suf_bind (suf_path s) (fun a s1 _ => suf_same _)
theorem suf_run : ∀ (k : Nat) (p : P) (s : St), Suf (run E k p s) s
  | 0, p, s => by rw [run]; exact suf_wrong s
  | k + 1, .expr, s => by
    rw [run]
    split
    · exact suf_of (suf_bind (suf_name _) fun _ _ _ => suf_bind (suf_expect _ _) fun _ _ _ => suf_bind (suf_number _) fun _ _ _ => suf_bind (suf_expect _ _) fun _ _ _ => suf_bind (suf_run k _ _) fun _ _ _ => suf_same _) (suf_rest s)
    · exact suf_run k _ s
  | k + 1, .cond, s => by
    rw [run]
    refine suf_bind (suf_run k _ _) fun _ s1 _ => ?_
    split
    · exact suf_of (suf_bind (suf_run k _ _) fun _ _ _ => suf_bind (suf_expect _ _) fun _ _ _ => suf_bind (suf_run k _ _) fun _ _ _ => suf_same _) (suf_rest s1)
    · exact suf_same _
  | k + 1, .bin least, s => by
    rw [run]
    exact suf_bind (suf_run k _ _) fun _ s1 _ => suf_run k _ s1
  | k + 1, .loop least most n, s => by
    rw [run]
    try simp only
    split
    · exact suf_same _
    · exact suf_of (suf_bind (suf_run k _ _) fun _ _ _ => suf_run k _ _) (suf_rest s)
  | k + 1, .unary, s => by
    rw [run]
    split
    · exact suf_of (suf_bind (suf_run k _ _) fun _ _ _ => suf_same _) (suf_rest s)
    · split
      · exact suf_of (suf_bind (suf_expect _ _) fun _ _ _ => suf_bind (suf_run k _ _) fun _ _ _ => suf_bind (suf_expect _ _) fun _ _ _ => suf_same _) (suf_rest s)
      · split
        · exact suf_of (suf_bind (suf_run k _ _) fun _ _ _ => suf_bind (suf_expect _ _) fun _ _ _ => suf_same _) (suf_rest s)
        · split
          · exact suf_numeral s
          · exact suf_run k _ s
  | k + 1, .ref, s => by
    rw [run]
    refine suf_bind (suf_pvar _) fun _ s1 _ => ?_
    split
    · exact suf_of (suf_bind (suf_run k _ _) fun _ _ _ => suf_bind (suf_expect _ _) fun _ _ _ => suf_same _) (suf_rest s1)
    · exact suf_same _
theorem suf_expr (s : St) : Suf (expr E s) s := suf_run _ _ s
theorem suf_refr (s : St) : Suf (refr E s) s := suf_run _ _ s
theorem suf_sepGo {part : St → Res T} (hp : ∀ s, Suf (part s) s) : ∀ (k : Nat) (l : List T) (s : St), Suf (sepGo E part k l s) s
  | 0, l, s => by rw [sepGo]; exact suf_same _
  | k + 1, l, s => by
    rw [sepGo]
    split
    · exact suf_of (suf_bind (hp _) fun _ s1 _ => suf_sepGo hp k _ s1) (suf_rest s)
    · exact suf_same _
theorem suf_separated {part : St → Res T} (hp : ∀ s, Suf (part s) s) (s : St) : Suf (separated E part s) s := by
  unfold separated
  exact suf_bind (hp s) fun _ s1 _ => suf_sepGo hp _ _ s1
theorem suf_tuple {part : St → Res T} (hp : ∀ s, Suf (part s) s) (s : St) : Suf (tuple E part s) s := by
  unfold tuple
  refine suf_bind (suf_expect _ _) fun _ s1 _ => ?_
  split
  · exact suf_rest s1
  · exact suf_bind (suf_separated hp _) fun _ _ _ => suf_bind (suf_expect _ _) fun _ _ _ => suf_same _

theorem skip_suf (b : Bool) : ∀ (l : List Lx.Tok) (d : Int), skipGo b l d <:+ l
  | [], d => by rw [skipGo]; exact List.suffix_refl _
  | t :: r, d => by
    rw [skipGo.eq_def]
    simp only
    split
    · exact List.suffix_refl _
    · split
      · exact (skip_suf b r _).trans (List.suffix_cons _ _)
      · split
        · split
          · exact List.suffix_cons _ _
          · split
            · cases r with
              | nil => exact List.nil_suffix
              | cons u q =>
                simp only
                split
                · exact (List.suffix_cons _ _).trans (List.suffix_cons _ _)
                · exact List.suffix_cons _ _
            · exact (skip_suf b r _).trans (List.suffix_cons _ _)
        · split
          · exact List.suffix_cons _ _
          · exact (skip_suf b r _).trans (List.suffix_cons _ _)
/-- if the first token does not stop it, skipping takes it -/
theorem skip_lt (b : Bool) (t : Lx.Tok) (r : List Lx.Tok) (d : Int) (h : b = false ∨ t.text ≠ [125]) : (skipGo b (t :: r) d).length < (t :: r).length := by
  have hs : ∀ q, q <:+ r → q.length < (t :: r).length := fun q hq => by have := hq.length_le; simp; omega
  rw [skipGo.eq_def]
  simp only
  split
  · rename_i hc
    rcases h with h | h
    · subst h; simp at hc
    · simp at hc; exact absurd hc.2 h
  · split
    · exact hs _ (skip_suf b r _)
    · split
      · split
        · exact hs _ (List.suffix_refl _)
        · split
          · cases r with
            | nil => exact hs _ (List.suffix_refl _)
            | cons u q =>
              simp only
              split
              · exact hs _ (List.suffix_cons _ _)
              · exact hs _ (List.suffix_refl _)
          · exact hs _ (skip_suf b r _)
      · split
        · exact hs _ (List.suffix_refl _)
        · exact hs _ (skip_suf b r _)

/-- an item's reader: it takes a token, or leaves an end -/
structure Takes (rd : St → Res T) : Prop where
  suf : ∀ s, Suf (rd s) s
  lt : ∀ s t s1, rd s = .ok t s1 → left s1 < left s
theorem item_left {rd : St → Res T} (h : Takes rd) {b : Bool} {s : St} (hne : s.toks ≠ []) (hb : b = false ∨ accepts E [125] s = false) : left (item rd b s).2 < left s := by
  unfold item
  have h1 := h.suf s
  have h2 := h.lt s
  cases hr : rd s with
  | ok t s1 => exact h2 t s1 hr
  | bad d s1 =>
    rw [hr] at h1
    have h3 : s1.toks <:+ s.toks := h1
    unfold left
    simp only
    by_cases he : s1.toks.length = s.toks.length
    · have h4 : s1.toks = s.toks := h3.eq_of_length he
      rw [h4]
      cases hs : s.toks with
      | nil => exact absurd hs hne
      | cons t r =>
        refine skip_lt b t r _ ?_
        rcases hb with hb | hb
        · exact .inl hb
        · right
          intro e
          unfold accepts text peek at hb
          rw [hs] at hb
          simp [e] at hb
    · have := h3.length_le
      have := (skip_suf b s1.toks s1.braces).length_le
      omega
end Go.Proofs.YtbgpboiblggmiaaGreatDoor.Px

/-
  The plain parser's items take a token at least, and leave an end.
-/
namespace Go.Proofs.YtbgpboiblggmiaaGreatDoor.Px
variable {E : Nat}

/-- it takes a token, if it is right -/
def Lt {α : Type} (r : Res α) (s : St) : Prop := ∀ a s1, r = .ok a s1 → left s1 < left s
theorem suf_left {α : Type} {r : Res α} {s s1 : St} {a : α} (h : Suf r s) (hr : r = .ok a s1) : left s1 ≤ left s := by
  rw [hr] at h
  exact List.IsSuffix.length_le h
theorem lt_bind {α β : Type} {r : Res α} {s : St} {f : α → St → Res β} (h : Lt r s) (hf : ∀ a s1, Suf (f a s1) s1) : Lt (r.bind f) s := by
  intro b s2 hb
  obtain ⟨a, s1, h1, h2⟩ := bind_inv hb
  have := h a s1 h1
  have := suf_left (hf a s1) h2
  omega
theorem lt_bind' {α β : Type} {r : Res α} {s : St} {f : α → St → Res β} (h : Suf r s) (hf : ∀ a s1, Lt (f a s1) s1) : Lt (r.bind f) s := by
  intro b s2 hb
  obtain ⟨a, s1, h1, h2⟩ := bind_inv hb
  have := suf_left h h1
  have := hf a s1 b s2 h2
  omega
theorem lt_rest {α : Type} {r : Res α} {s : St} {x : Str} (ha : accepts E x s = true) (hx : x ≠ []) (h : Suf r (rest s)) : Lt r s := by
  intro a s1 hr
  have := suf_left h hr
  have := acc_left ha hx
  omega
theorem lt_name (s : St) : Lt (name E s) s := fun _ _ h => by have := name_left h; omega
theorem lt_expect {x : Str} (hx : x ≠ []) (s : St) : Lt (expect E x s) s := fun _ _ h => by have := expect_left h hx; omega
theorem lt_refr (s : St) : Lt (refr E s) s := fun _ _ h => by have := run_left _ _ h; simp [takes] at this; omega
theorem accepted_suf (x : Str) (s : St) : (accepted E x s).toks <:+ s.toks := by
  unfold accepted
  split
  · exact suf_rest s
  · exact List.suffix_refl _

theorem suf_typed (s : St) : Suf (typed E s) s := by
  unfold typed
  exact suf_bind (suf_name _) fun _ _ _ => suf_bind (suf_expect _ _) fun _ _ _ => suf_bind (suf_number _) fun _ _ _ => suf_same _
theorem lt_typed (s : St) : Lt (typed E s) s := by
  unfold typed
  exact lt_bind (lt_name _) fun _ _ => suf_bind (suf_expect _ _) fun _ _ _ => suf_bind (suf_number _) fun _ _ _ => suf_same _
theorem takes_field : Takes (field E) := ⟨fun s => by
  unfold field
  exact suf_bind (suf_typed _) fun _ _ _ => suf_bind (suf_expect _ _) fun _ _ _ => suf_same _, fun s => by
  unfold field
  exact lt_bind (lt_typed _) fun _ _ => suf_bind (suf_expect _ _) fun _ _ _ => suf_same _⟩
theorem suf_param (s : St) : Suf (param E s) s := by
  unfold param
  exact suf_bind (suf_typed _) fun _ _ _ => suf_same _
theorem suf_listGo {rd : St → Res T} (h : Takes rd) : ∀ (k : Nat) (l : List T) (s : St), Suf (listGo E rd k l s) s
  | 0, l, s => by rw [listGo]; exact suf_wrong s
  | k + 1, l, s => by
    rw [listGo]
    split
    · exact suf_rest s
    · cases hs : s.toks with
      | nil => exact suf_wrong s
      | cons t r =>
        simp only
        refine suf_of (suf_listGo h k _ _) ?_
        unfold item
        have h1 := h.suf s
        cases hr : rd s with
        | ok t s1 => rw [hr] at h1; exact h1
        | bad d s1 =>
          rw [hr] at h1
          exact (skip_suf _ _ _).trans h1
theorem suf_list {rd : St → Res T} (h : Takes rd) (s : St) : Suf (list E rd s) s := by
  unfold list
  exact suf_bind (suf_expect _ _) fun _ _ _ => suf_listGo h _ _ _
theorem suf_block {rd : St → Res T} (h : Takes rd) (s : St) : Suf (block E rd s) s := by
  unfold block
  exact suf_bind (suf_list h _) fun _ _ _ => suf_same _
theorem suf_assign (l : List T) (s : St) : Suf (assign E l s) s := by
  unfold assign
  exact suf_bind (suf_refr _) fun _ _ _ => suf_bind (suf_expect _ _) fun _ _ _ => suf_bind (suf_expr _) fun _ _ _ => suf_same _
theorem lt_assign (l : List T) (s : St) : Lt (assign E l s) s := by
  unfold assign
  exact lt_bind (lt_refr _) fun _ _ => suf_bind (suf_expect _ _) fun _ _ _ => suf_bind (suf_expr _) fun _ _ _ => suf_same _
theorem suf_assignsGo : ∀ (k : Nat) (l : List T) (s : St), Suf (assignsGo E k l s) s
  | 0, l, s => by rw [assignsGo]; exact suf_same _
  | k + 1, l, s => by
    rw [assignsGo]
    split
    · exact suf_of (suf_bind (suf_assign _ _) fun _ _ _ => suf_assignsGo k _ _) (suf_rest s)
    · exact suf_same _
theorem suf_assigns (l : List T) (s : St) : Suf (assigns E l s) s := by
  unfold assigns
  exact suf_bind (suf_assign _ _) fun _ _ _ => suf_assignsGo _ _ _
theorem suf_withs (l : List T) (s : St) : Suf (withs E l s) s := by
  unfold withs
  split
  · exact suf_of (suf_assigns _ _) (suf_rest s)
  · exact suf_same _
theorem suf_claim (q : Int) (s : St) : Suf (claim E q s) (rest s) := by
  unfold claim
  exact suf_bind (suf_expr _) fun _ _ _ => suf_bind (suf_expect _ _) fun _ _ _ => suf_same _
theorem suf_bare (q : Int) (s : St) : Suf (bare E q s) (rest s) := by
  unfold bare
  exact suf_bind (suf_expect _ _) fun _ _ _ => suf_same _
theorem suf_named (q : Int) (m : St → Res Str) (hm : ∀ s, Suf (m s) s) (s : St) : Suf (named E q m s) (rest s) := by
  unfold named
  exact suf_bind (hm _) fun _ _ _ => suf_bind (suf_expect _ _) fun _ _ _ => suf_same _
theorem suf_call (s : St) : Suf (call E s) (rest s) := by
  unfold call
  exact suf_bind (suf_path _) fun _ _ _ => suf_bind (suf_tuple suf_expr _) fun _ _ _ => suf_bind (suf_expect _ _) fun _ _ _ => suf_same _
theorem suf_cas (s : St) : Suf (cas E s) (rest s) := by
  unfold cas
  exact suf_bind (suf_refr _) fun _ _ _ => suf_bind (suf_expect _ _) fun _ _ _ => suf_bind (suf_expr _) fun _ _ _ => suf_bind (suf_expect _ _) fun _ _ _ => suf_bind (suf_expr _) fun _ _ _ => suf_bind (suf_expect _ _) fun _ _ _ =>
    suf_bind (suf_refr _) fun _ _ _ => suf_bind (suf_withs _ _) fun _ _ _ => suf_bind (suf_expect _ _) fun _ _ _ => suf_same _
theorem suf_atomic (s : St) : Suf (atomic E s) (rest s) := by
  unfold atomic
  refine suf_bind (suf_expect _ _) fun _ s1 _ => suf_bind ?_ fun _ s2 _ => suf_bind (suf_expect _ _) fun _ s3 _ => suf_bind ?_ fun _ _ _ => suf_bind (suf_expect _ _) fun _ _ _ => suf_same _
  · split
    · exact List.suffix_refl _
    · exact suf_assigns _ _
  · split
    · exact suf_of (suf_bind (suf_expr _) fun _ _ _ => suf_same _) (suf_rest { s3 with braces := 0 })
    · exact List.suffix_refl _
theorem suf_plocal (s : St) : Suf (plocal E s) s := by
  unfold plocal
  exact suf_of (suf_bind (suf_expect _ _) fun _ _ _ => suf_bind (suf_typed _) fun _ _ _ => suf_bind (suf_expect _ _) fun _ _ _ => suf_same _) (accepted_suf _ s)
theorem lt_plocal (s : St) : Lt (plocal E s) s := by
  unfold plocal
  intro a s1 h
  have h1 := lt_bind (lt_expect (by decide) _) (fun _ _ => suf_bind (suf_typed _) fun _ _ _ => suf_bind (suf_expect _ _) fun _ _ _ => suf_same _) a s1 h
  have := List.IsSuffix.length_le (accepted_suf (E := E) [103, 104, 111, 115, 116] s)
  unfold left at *
  omega
theorem suf_assignment (s : St) : Suf (assignment E s) s := by
  unfold assignment
  exact suf_of (suf_bind (suf_assign _ _) fun _ _ _ => suf_bind (suf_withs _ _) fun _ _ _ => suf_bind (suf_expect _ _) fun _ _ _ => suf_same _) (accepted_suf _ s)
theorem lt_assignment (s : St) : Lt (assignment E s) s := by
  unfold assignment
  intro a s1 h
  have h1 := lt_bind (lt_assign _ _) (fun _ _ => suf_bind (suf_withs _ _) fun _ _ _ => suf_bind (suf_expect _ _) fun _ _ _ => suf_same _) a s1 h
  have := List.IsSuffix.length_le (accepted_suf (E := E) [114, 101, 108, 101, 97, 115, 101] s)
  unfold left at *
  omega
theorem suf_branch {rd : St → Res T} (h : Takes rd) (s : St) : Suf (branch E rd s) (rest s) := by
  unfold branch
  refine suf_bind (suf_expr _) fun _ _ _ => suf_bind (suf_block h _) fun _ s2 _ => suf_bind ?_ fun _ _ _ => suf_same _
  split
  · exact suf_of (suf_block h _) (suf_rest s2)
  · exact suf_same _
theorem suf_loop {rd : St → Res T} (h : Takes rd) (s : St) : Suf (loop E rd s) (rest s) := by
  unfold loop
  refine suf_bind (suf_expr _) fun _ s1 _ => suf_bind ?_ fun _ _ _ => suf_bind (suf_block h _) fun _ _ _ => suf_same _
  split
  · exact suf_of (suf_expr _) (suf_rest s1)
  · exact suf_same _
theorem takes_of {rd : St → Res T} (h : ∀ s, Suf (rd s) s ∧ Lt (rd s) s) : Takes rd := ⟨fun s => (h s).1, fun s => (h s).2⟩
theorem both_rest {α : Type} {r : Res α} {s : St} {x : Str} (ha : accepts E x s = true) (hx : x ≠ []) (h : Suf r (rest s)) : Suf r s ∧ Lt r s := ⟨suf_of h (suf_rest s), lt_rest ha hx h⟩
theorem takes_statement : ∀ k, Takes (statement E k)
  | 0 => takes_of fun s => by rw [statement]; exact ⟨suf_wrong s, fun _ _ h => by cases h⟩
  | k + 1 => takes_of fun s => by
    rw [statement]
    by_cases hc : accepts E [97, 115, 115, 101, 114, 116] s = true
    · rw [if_pos hc]; exact both_rest hc (by decide) (suf_claim _ _)
    rw [if_neg hc]
    clear hc
    by_cases hc : accepts E [97, 119, 97, 105, 116] s = true
    · rw [if_pos hc]; exact both_rest hc (by decide) (suf_claim _ _)
    rw [if_neg hc]
    clear hc
    by_cases hc : accepts E [102, 101, 110, 99, 101] s = true
    · rw [if_pos hc]; exact both_rest hc (by decide) (suf_bare _ _)
    rw [if_neg hc]
    clear hc
    by_cases hc : accepts E [115, 107, 105, 112] s = true
    · rw [if_pos hc]; exact both_rest hc (by decide) (suf_bare _ _)
    rw [if_neg hc]
    clear hc
    by_cases hc : accepts E [97, 116, 111, 109, 105, 99] s = true
    · rw [if_pos hc]; exact both_rest hc (by decide) (suf_atomic _)
    rw [if_neg hc]
    clear hc
    by_cases hc : accepts E [99, 97, 115] s = true
    · rw [if_pos hc]; exact both_rest hc (by decide) (suf_cas _)
    rw [if_neg hc]
    clear hc
    by_cases hc : accepts E [97, 99, 113, 117, 105, 114, 101] s = true
    · rw [if_pos hc]; exact both_rest hc (by decide) (suf_named _ _ suf_path _)
    rw [if_neg hc]
    clear hc
    by_cases hc : accepts E [102, 114, 101, 101] s = true
    · rw [if_pos hc]; exact both_rest hc (by decide) (suf_named _ _ suf_path _)
    rw [if_neg hc]
    clear hc
    by_cases hc : accepts E [115, 112, 97, 119, 110] s = true
    · rw [if_pos hc]; exact both_rest hc (by decide) (suf_named _ _ suf_name _)
    rw [if_neg hc]
    clear hc
    by_cases hc : accepts E [106, 111, 105, 110] s = true
    · rw [if_pos hc]; exact both_rest hc (by decide) (suf_named _ _ suf_name _)
    rw [if_neg hc]
    clear hc
    by_cases hc : accepts E [105, 102] s = true
    · rw [if_pos hc]; exact both_rest hc (by decide) (suf_branch (takes_statement k) _)
    rw [if_neg hc]
    clear hc
    by_cases hc : accepts E [119, 104, 105, 108, 101] s = true
    · rw [if_pos hc]; exact both_rest hc (by decide) (suf_loop (takes_statement k) _)
    rw [if_neg hc]
    clear hc
    by_cases hc : accepts E [99, 97, 108, 108] s = true
    · rw [if_pos hc]; exact both_rest hc (by decide) (suf_call _)
    rw [if_neg hc]
    clear hc
    by_cases hc : accepts E [103, 104, 111, 115, 116] s = true ∨ accepts E [108, 111, 99, 97, 108] s = true
    · rw [if_pos hc]; exact ⟨suf_plocal s, lt_plocal s⟩
    · rw [if_neg hc]; exact ⟨suf_assignment s, lt_assignment s⟩
theorem suf_statement (k : Nat) (s : St) : Suf (statement E k s) s := (takes_statement k).suf s
theorem takes_stmt : Takes (stmt E) := takes_of fun s => ⟨(takes_statement _).suf s, (takes_statement _).lt s⟩
theorem suf_record (s : St) : Suf (record E s) (rest s) := by
  unfold record
  exact suf_bind (suf_name _) fun _ _ _ => suf_bind (suf_list takes_field _) fun _ _ _ => suf_same _
theorem suf_lock (s : St) : Suf (lock E s) (rest s) := by
  unfold lock
  exact suf_bind (suf_name _) fun _ _ _ => suf_bind (suf_expect _ _) fun _ _ _ => suf_bind (suf_expr _) fun _ _ _ => suf_bind (suf_expect _ _) fun _ _ _ => suf_same _
theorem suf_frame (s : St) : Suf (frame E s) (rest s) := by
  unfold frame
  exact suf_bind (suf_separated suf_pvar _) fun _ _ _ => suf_bind (suf_expect _ _) fun _ _ _ => suf_same _
theorem suf_proc (s : St) : Suf (proc E s) (rest s) := by
  unfold proc
  refine suf_bind (suf_name _) fun _ _ _ => suf_bind (suf_tuple suf_param _) fun _ s2 _ => suf_bind ?_ fun _ _ _ => suf_bind (suf_block takes_stmt _) fun _ _ _ => suf_same _
  split
  · exact suf_of (suf_name _) (suf_rest s2)
  · exact suf_same _
theorem suf_shared_tail (s1 : St) (g : Bool) (o : Int) : Suf ((name E s1).bind fun x s2 =>
  (if accepts E [91] s2 then (length E (rest s2)).bind fun m s3 => (expect E [93] s3).bind fun _ s4 => .ok m s4 else .ok 0 s2).bind fun len s5 =>
  (expect E [58] s5).bind fun _ s6 =>
  (if kindOf E s6 = 2 then (number E s6).bind fun m s7 => .ok ([], m) s7 else (name E s6).bind fun y s7 => .ok (y, 0) s7).bind fun q s8 =>
  (if accepts E [61] s8 then number E (rest s8) else .ok 0 s8).bind fun i s9 =>
  (expect E [59] s9).bind fun _ s10 => .ok (T.mk 50 x q.1 q.2 len i g [] o) s10) s1 := by
  refine suf_bind (suf_name _) fun _ s2 _ => suf_bind ?_ fun _ _ _ => suf_bind (suf_expect _ _) fun _ s6 _ => suf_bind ?_ fun _ s8 _ => suf_bind ?_ fun _ _ _ => suf_bind (suf_expect _ _) fun _ _ _ => suf_same _
  · split
    · exact suf_of (suf_bind (suf_length _) fun _ _ _ => suf_bind (suf_expect _ _) fun _ _ _ => suf_same _) (suf_rest s2)
    · exact suf_same _
  · split
    · exact suf_bind (suf_number _) fun _ _ _ => suf_same _
    · exact suf_bind (suf_name _) fun _ _ _ => suf_same _
  · split
    · exact suf_of (suf_number _) (suf_rest s8)
    · exact suf_same _
theorem both_shared (s : St) : Suf (shared E s) s ∧ Lt (shared E s) s := by
  unfold shared
  refine ⟨suf_of (suf_bind (suf_expect _ _) fun _ s1 _ => suf_shared_tail s1 _ _) (accepted_suf _ s), ?_⟩
  intro a s1 h
  have h1 := lt_bind (lt_expect (by decide) _) (fun _ s1 => suf_shared_tail s1 _ _) a s1 h
  have := List.IsSuffix.length_le (accepted_suf (E := E) [103, 104, 111, 115, 116] s)
  unfold left at *
  omega
theorem takes_declaration : Takes (declaration E) := takes_of fun s => by
  unfold declaration
  split
  · rename_i hc; exact both_rest hc (by decide) (suf_record _)
  split
  · rename_i hc; exact both_rest hc (by decide) (suf_lock _)
  split
  · rename_i hc; exact both_rest hc (by decide) (suf_claim _ _)
  split
  · rename_i hc; exact both_rest hc (by decide) (suf_claim _ _)
  split
  · rename_i hc; exact both_rest hc (by decide) (suf_frame _)
  split
  · rename_i hc; exact both_rest hc (by decide) (suf_proc _)
  · exact both_shared s
theorem suf_module (s : St) : Suf (module E s) (rest s) := by
  unfold module
  exact suf_bind (suf_name _) fun _ _ _ => suf_bind (suf_expect _ _) fun _ _ _ => suf_bind (suf_name _) fun _ _ _ => suf_bind (suf_list takes_declaration _) fun _ _ _ => suf_same _
theorem suf_thread_tail (s1 : St) (q o : Int) : Suf ((name E s1).bind fun x s2 => (expect E [61] s2).bind fun _ s3 =>
  (path E s3).bind fun p s4 => (tuple E (numeral E) s4).bind fun l s5 => (expect E [59] s5).bind fun _ s6 => .ok (T.mk 61 x p q 0 0 false l o) s6) s1 :=
  suf_bind (suf_name _) fun _ _ _ => suf_bind (suf_expect _ _) fun _ _ _ => suf_bind (suf_path _) fun _ _ _ => suf_bind (suf_tuple suf_numeral _) fun _ _ _ => suf_bind (suf_expect _ _) fun _ _ _ => suf_same _
theorem takes_unit : Takes (unit E) := takes_of fun s => by
  unfold unit
  split
  · rename_i hc; exact both_rest hc (by decide) (suf_module _)
  · unfold thread
    refine ⟨suf_of (suf_bind (suf_expect _ _) fun _ s1 _ => suf_thread_tail s1 _ _) (accepted_suf _ s), ?_⟩
    intro a s1 h
    have h1 := lt_bind (lt_expect (by decide) _) (fun _ s1 => suf_thread_tail s1 _ _) a s1 h
    have := List.IsSuffix.length_le (accepted_suf (E := E) [97, 115, 108, 101, 101, 112] s)
    unfold left at *
    omega
end Go.Proofs.YtbgpboiblggmiaaGreatDoor.Px

/-
  What any reader of the plain parser does to the state: a relation that single steps keep, and where an error is found.
-/
namespace Go.Proofs.YtbgpboiblggmiaaGreatDoor.Px
variable {E : Nat} {Q : St → St → Prop}

/-- an error's place: the next token, or the end -/
def BadAt (E : Nat) (d : D) (s : St) : Prop := d.off = offOf E s ∧ (d.err = 2 ∨ d.err = 20 ∨ d.err = 21) ∧ (s.toks = [] ↔ d.err = 21)
structure Steps (E : Nat) (Q : St → St → Prop) : Prop where
  refl : ∀ s, Q s s
  trans : ∀ {a b c}, Q a b → Q b c → Q a c
  rest : ∀ s, Q s (rest s)
  braces : ∀ s b, Q s { s with braces := b }
  skip : ∀ d s q, BadAt E d s → Q s ⟨skipGo q s.toks s.braces, 0, report d s.diags⟩
def Un {α : Type} (E : Nat) (Q : St → St → Prop) (r : Res α) (s : St) : Prop := Q s r.st ∧ ∀ d s1, r = .bad d s1 → BadAt E d s1

theorem un_bind (hP : Steps E Q) {α β : Type} {r : Res α} {s : St} {f : α → St → Res β} (h : Un E Q r s) (hf : ∀ a s1, r = .ok a s1 → Un E Q (f a s1) s1) : Un E Q (r.bind f) s := by
  cases r with
  | ok a s1 => exact ⟨hP.trans h.1 (hf a s1 rfl).1, (hf a s1 rfl).2⟩
  | bad d s1 => exact ⟨h.1, fun d' s' e => by cases e; exact h.2 d s1 rfl⟩
theorem un_rest (hP : Steps E Q) (s : St) : Q s (rest s) := hP.rest s
theorem un_of (hP : Steps E Q) {α : Type} {r : Res α} {s s1 : St} (h : Un E Q r s1) (h1 : Q s s1) : Un E Q r s := ⟨hP.trans h1 h.1, h.2⟩
theorem un_ok {α : Type} {s s1 : St} (a : α) (h : Q s s1) : Un E Q (.ok a s1) s := ⟨h, fun _ _ e => by cases e⟩
theorem un_same (hP : Steps E Q) {α : Type} {s : St} (a : α) : Un E Q (.ok a s) s := un_ok a (hP.refl s)
def Uns (E : Nat) (Q : St → St → Prop) (rd : St → Res T) : Prop := ∀ s, Un E Q (rd s) s
theorem un_wrong (hP : Steps E Q) {α : Type} (s : St) : Un E Q (wrong E s : Res α) s := by
  refine ⟨hP.refl s, fun d s1 e => ?_⟩
  unfold wrong at e
  cases e
  refine ⟨rfl, ?_, ?_⟩
  · unfold wrongD
    cases s.toks
    · exact .inr (.inr rfl)
    · exact .inr (.inl rfl)
  · unfold wrongD
    cases hs : s.toks
    · simp
    · simp
theorem un_expect (hP : Steps E Q) (x : Str) (s : St) : Un E Q (expect E x s) s := by
  unfold expect
  split
  · exact un_ok _ (hP.rest s)
  · exact (un_wrong hP) s
theorem un_name (hP : Steps E Q) (s : St) : Un E Q (name E s) s := by
  unfold name
  split
  · exact un_ok _ (hP.rest s)
  · exact (un_wrong hP) s
theorem un_number (hP : Steps E Q) (s : St) : Un E Q (number E s) s := by
  unfold number
  split
  · exact un_ok _ (hP.rest s)
  · exact (un_wrong hP) s
theorem un_length (hP : Steps E Q) (s : St) : Un E Q (length E s) s := by
  unfold length
  split
  · rename_i hc
    refine ⟨hP.refl s, fun d s1 e => ?_⟩
    cases e
    refine ⟨rfl, .inl rfl, ?_⟩
    constructor
    · intro h0
      unfold accepts text peek at hc
      rw [h0] at hc
      simp at hc
    · intro h0; exact absurd h0 (by show ¬ (2 : Int) = 21; decide)
  · exact (un_number hP) s
theorem un_pathGo (hP : Steps E Q) : ∀ (k : Nat) (p : Str) (s : St), Un E Q (pathGo E k p s) s
  | 0, p, s => by rw [pathGo]; exact (un_same hP) _
  | k + 1, p, s => by
    rw [pathGo]
    split
    · exact (un_of hP) ((un_bind hP) ((un_name hP) _) (fun a s1 _ => (un_pathGo hP) k _ s1)) ((un_rest hP) s)
    · exact (un_same hP) _
theorem un_path (hP : Steps E Q) (s : St) : Un E Q (path E s) s := by
  unfold path
  exact (un_bind hP) ((un_name hP) s) (fun a s1 _ => (un_pathGo hP) 2 _ s1)
theorem un_numeral (hP : Steps E Q) (s : St) : Un E Q (numeral E s) s := by
  unfold numeral
  exact (un_bind hP) ((un_number hP) s) (fun a s1 _ => (un_same hP) _)
theorem un_pvar (hP : Steps E Q) (s : St) : Un E Q (pvar E s) s := by
  unfold pvar
  exact (un_bind hP) ((un_path hP) s) (fun a s1 _ => (un_same hP) _)
theorem un_run (hP : Steps E Q) : ∀ (k : Nat) (p : P) (s : St), Un E Q (run E k p s) s
  | 0, p, s => by rw [run]; exact (un_wrong hP) s
  | k + 1, .expr, s => by
    rw [run]
    split
    · exact (un_of hP) ((un_bind hP) ((un_name hP) _) fun _ _ _ => (un_bind hP) ((un_expect hP) _ _) fun _ _ _ => (un_bind hP) ((un_number hP) _) fun _ _ _ => (un_bind hP) ((un_expect hP) _ _) fun _ _ _ => (un_bind hP) ((un_run hP) k _ _) fun _ _ _ => (un_same hP) _) ((un_rest hP) s)
    · exact (un_run hP) k _ s
  | k + 1, .cond, s => by
    rw [run]
    refine (un_bind hP) ((un_run hP) k _ _) fun _ s1 _ => ?_
    split
    · exact (un_of hP) ((un_bind hP) ((un_run hP) k _ _) fun _ _ _ => (un_bind hP) ((un_expect hP) _ _) fun _ _ _ => (un_bind hP) ((un_run hP) k _ _) fun _ _ _ => (un_same hP) _) ((un_rest hP) s1)
    · exact (un_same hP) _
  | k + 1, .bin least, s => by
    rw [run]
    exact (un_bind hP) ((un_run hP) k _ _) fun _ s1 _ => (un_run hP) k _ s1
  | k + 1, .loop least most n, s => by
    rw [run]
    try simp only
    split
    · exact (un_same hP) _
    · exact (un_of hP) ((un_bind hP) ((un_run hP) k _ _) fun _ _ _ => (un_run hP) k _ _) ((un_rest hP) s)
  | k + 1, .unary, s => by
    rw [run]
    split
    · exact (un_of hP) ((un_bind hP) ((un_run hP) k _ _) fun _ _ _ => (un_same hP) _) ((un_rest hP) s)
    · split
      · exact (un_of hP) ((un_bind hP) ((un_expect hP) _ _) fun _ _ _ => (un_bind hP) ((un_run hP) k _ _) fun _ _ _ => (un_bind hP) ((un_expect hP) _ _) fun _ _ _ => (un_same hP) _) ((un_rest hP) s)
      · split
        · exact (un_of hP) ((un_bind hP) ((un_run hP) k _ _) fun _ _ _ => (un_bind hP) ((un_expect hP) _ _) fun _ _ _ => (un_same hP) _) ((un_rest hP) s)
        · split
          · exact (un_numeral hP) s
          · exact (un_run hP) k _ s
  | k + 1, .ref, s => by
    rw [run]
    refine (un_bind hP) ((un_pvar hP) _) fun _ s1 _ => ?_
    split
    · exact (un_of hP) ((un_bind hP) ((un_run hP) k _ _) fun _ _ _ => (un_bind hP) ((un_expect hP) _ _) fun _ _ _ => (un_same hP) _) ((un_rest hP) s1)
    · exact (un_same hP) _
theorem un_expr (hP : Steps E Q) (s : St) : Un E Q (expr E s) s := (un_run hP) _ _ s
theorem un_refr (hP : Steps E Q) (s : St) : Un E Q (refr E s) s := (un_run hP) _ _ s
theorem un_sepGo (hP : Steps E Q) {part : St → Res T} (hp : ∀ s, Un E Q (part s) s) : ∀ (k : Nat) (l : List T) (s : St), Un E Q (sepGo E part k l s) s
  | 0, l, s => by rw [sepGo]; exact (un_same hP) _
  | k + 1, l, s => by
    rw [sepGo]
    split
    · exact (un_of hP) ((un_bind hP) (hp _) fun _ s1 _ => (un_sepGo hP) hp k _ s1) ((un_rest hP) s)
    · exact (un_same hP) _
theorem un_separated (hP : Steps E Q) {part : St → Res T} (hp : ∀ s, Un E Q (part s) s) (s : St) : Un E Q (separated E part s) s := by
  unfold separated
  exact (un_bind hP) (hp s) fun _ s1 _ => (un_sepGo hP) hp _ _ s1
theorem un_tuple (hP : Steps E Q) {part : St → Res T} (hp : ∀ s, Un E Q (part s) s) (s : St) : Un E Q (tuple E part s) s := by
  unfold tuple
  refine (un_bind hP) ((un_expect hP) _ _) fun _ s1 _ => ?_
  split
  · exact un_ok _ (hP.rest s1)
  · exact (un_bind hP) ((un_separated hP) hp _) fun _ _ _ => (un_bind hP) ((un_expect hP) _ _) fun _ _ _ => (un_same hP) _

theorem un_typed (hP : Steps E Q) (s : St) : Un E Q (typed E s) s := by
  unfold typed
  exact (un_bind hP) ((un_name hP) _) fun _ _ _ => (un_bind hP) ((un_expect hP) _ _) fun _ _ _ => (un_bind hP) ((un_number hP) _) fun _ _ _ => (un_same hP) _
theorem uns_field (hP : Steps E Q) : Uns E Q (field E) := fun s => by
  unfold field
  exact (un_bind hP) ((un_typed hP) _) fun _ _ _ => (un_bind hP) ((un_expect hP) _ _) fun _ _ _ => (un_same hP) _
theorem un_param (hP : Steps E Q) (s : St) : Un E Q (param E s) s := by
  unfold param
  exact (un_bind hP) ((un_typed hP) _) fun _ _ _ => (un_same hP) _
theorem un_item (hP : Steps E Q) {rd : St → Res T} (h : Uns E Q rd) (q : Bool) (s : St) : Q s (item rd q s).2 := by
  unfold item
  have h1 := h s
  cases hr : rd s with
  | ok t s1 => rw [hr] at h1; exact h1.1
  | bad d s1 =>
    rw [hr] at h1
    exact hP.trans h1.1 (hP.skip d s1 q (h1.2 d s1 rfl))
theorem un_listGo (hP : Steps E Q) {rd : St → Res T} (h : Uns E Q rd) : ∀ (k : Nat) (l : List T) (s : St), Un E Q (listGo E rd k l s) s
  | 0, l, s => by rw [listGo]; exact (un_wrong hP) s
  | k + 1, l, s => by
    rw [listGo]
    split
    · exact un_ok _ (hP.rest s)
    · cases hs : s.toks with
      | nil => exact (un_wrong hP) s
      | cons t r =>
        simp only
        exact (un_of hP) ((un_listGo hP) h k _ _) (un_item hP h true s)
theorem un_unitsGo (hP : Steps E Q) {rd : St → Res T} (h : Uns E Q rd) : ∀ (k : Nat) (l : List T) (s : St), Q s (unitsGo rd k l s).2
  | 0, l, s => by rw [unitsGo]; exact hP.refl s
  | k + 1, l, s => by
    rw [unitsGo]
    cases hs : s.toks with
    | nil => exact hP.refl s
    | cons t r => exact hP.trans (un_item hP h false s) ((un_unitsGo hP) h k _ _)
theorem un_accepted (hP : Steps E Q) (x : Str) (s : St) : Q s (accepted E x s) := by
  unfold accepted
  split
  · exact hP.rest s
  · exact hP.refl s
theorem un_list (hP : Steps E Q) {rd : St → Res T} (h : Uns E Q rd) (s : St) : Un E Q (list E rd s) s := by
  unfold list
  exact (un_bind hP) ((un_expect hP) _ _) fun _ _ _ => (un_listGo hP) h _ _ _
theorem un_block (hP : Steps E Q) {rd : St → Res T} (h : Uns E Q rd) (s : St) : Un E Q (block E rd s) s := by
  unfold block
  exact (un_bind hP) ((un_list hP) h _) fun _ _ _ => (un_same hP) _
theorem un_assign (hP : Steps E Q) (l : List T) (s : St) : Un E Q (assign E l s) s := by
  unfold assign
  exact (un_bind hP) ((un_refr hP) _) fun _ _ _ => (un_bind hP) ((un_expect hP) _ _) fun _ _ _ => (un_bind hP) ((un_expr hP) _) fun _ _ _ => (un_same hP) _
theorem un_assignsGo (hP : Steps E Q) : ∀ (k : Nat) (l : List T) (s : St), Un E Q (assignsGo E k l s) s
  | 0, l, s => by rw [assignsGo]; exact (un_same hP) _
  | k + 1, l, s => by
    rw [assignsGo]
    split
    · exact (un_of hP) ((un_bind hP) ((un_assign hP) _ _) fun _ _ _ => (un_assignsGo hP) k _ _) ((un_rest hP) s)
    · exact (un_same hP) _
theorem un_assigns (hP : Steps E Q) (l : List T) (s : St) : Un E Q (assigns E l s) s := by
  unfold assigns
  exact (un_bind hP) ((un_assign hP) _ _) fun _ _ _ => (un_assignsGo hP) _ _ _
theorem un_withs (hP : Steps E Q) (l : List T) (s : St) : Un E Q (withs E l s) s := by
  unfold withs
  split
  · exact (un_of hP) ((un_assigns hP) _ _) ((un_rest hP) s)
  · exact (un_same hP) _
theorem un_claim (hP : Steps E Q) (q : Int) (s : St) : Un E Q (claim E q s) (rest s) := by
  unfold claim
  exact (un_bind hP) ((un_expr hP) _) fun _ _ _ => (un_bind hP) ((un_expect hP) _ _) fun _ _ _ => (un_same hP) _
theorem un_bare (hP : Steps E Q) (q : Int) (s : St) : Un E Q (bare E q s) (rest s) := by
  unfold bare
  exact (un_bind hP) ((un_expect hP) _ _) fun _ _ _ => (un_same hP) _
theorem un_named (hP : Steps E Q) (q : Int) (m : St → Res Str) (hm : ∀ s, Un E Q (m s) s) (s : St) : Un E Q (named E q m s) (rest s) := by
  unfold named
  exact (un_bind hP) (hm _) fun _ _ _ => (un_bind hP) ((un_expect hP) _ _) fun _ _ _ => (un_same hP) _
theorem un_call (hP : Steps E Q) (s : St) : Un E Q (call E s) (rest s) := by
  unfold call
  exact (un_bind hP) ((un_path hP) _) fun _ _ _ => (un_bind hP) ((un_tuple hP) (un_expr hP) _) fun _ _ _ => (un_bind hP) ((un_expect hP) _ _) fun _ _ _ => (un_same hP) _
theorem un_cas (hP : Steps E Q) (s : St) : Un E Q (cas E s) (rest s) := by
  unfold cas
  exact (un_bind hP) ((un_refr hP) _) fun _ _ _ => (un_bind hP) ((un_expect hP) _ _) fun _ _ _ => (un_bind hP) ((un_expr hP) _) fun _ _ _ => (un_bind hP) ((un_expect hP) _ _) fun _ _ _ => (un_bind hP) ((un_expr hP) _) fun _ _ _ => (un_bind hP) ((un_expect hP) _ _) fun _ _ _ =>
    (un_bind hP) ((un_refr hP) _) fun _ _ _ => (un_bind hP) ((un_withs hP) _ _) fun _ _ _ => (un_bind hP) ((un_expect hP) _ _) fun _ _ _ => (un_same hP) _
theorem un_atomic (hP : Steps E Q) (s : St) : Un E Q (atomic E s) (rest s) := by
  unfold atomic
  refine (un_bind hP) ((un_expect hP) _ _) fun _ s1 _ => (un_bind hP) ?_ fun _ s2 _ => (un_bind hP) ((un_expect hP) _ _) fun _ s3 _ => (un_bind hP) ?_ fun _ _ _ => (un_bind hP) ((un_expect hP) _ _) fun _ _ _ => (un_same hP) _
  · split
    · exact un_ok _ (hP.braces s1 1)
    · exact un_of hP ((un_assigns hP) _ _) (hP.braces s1 1)
  · split
    · exact (un_of hP) ((un_bind hP) ((un_expr hP) _) fun _ _ _ => (un_same hP) _) (hP.trans (hP.braces s3 0) ((un_rest hP) { s3 with braces := 0 }))
    · exact un_ok _ (hP.braces s3 0)
theorem un_plocal (hP : Steps E Q) (s : St) : Un E Q (plocal E s) s := by
  unfold plocal
  exact (un_of hP) ((un_bind hP) ((un_expect hP) _ _) fun _ _ _ => (un_bind hP) ((un_typed hP) _) fun _ _ _ => (un_bind hP) ((un_expect hP) _ _) fun _ _ _ => (un_same hP) _) (un_accepted hP _ s)
theorem un_assignment (hP : Steps E Q) (s : St) : Un E Q (assignment E s) s := by
  unfold assignment
  exact (un_of hP) ((un_bind hP) ((un_assign hP) _ _) fun _ _ _ => (un_bind hP) ((un_withs hP) _ _) fun _ _ _ => (un_bind hP) ((un_expect hP) _ _) fun _ _ _ => (un_same hP) _) (un_accepted hP _ s)
theorem un_branch (hP : Steps E Q) {rd : St → Res T} (h : Uns E Q rd) (s : St) : Un E Q (branch E rd s) (rest s) := by
  unfold branch
  refine (un_bind hP) ((un_expr hP) _) fun _ _ _ => (un_bind hP) ((un_block hP) h _) fun _ s2 _ => (un_bind hP) ?_ fun _ _ _ => (un_same hP) _
  split
  · exact (un_of hP) ((un_block hP) h _) ((un_rest hP) s2)
  · exact (un_same hP) _
theorem un_loop (hP : Steps E Q) {rd : St → Res T} (h : Uns E Q rd) (s : St) : Un E Q (loop E rd s) (rest s) := by
  unfold loop
  refine (un_bind hP) ((un_expr hP) _) fun _ s1 _ => (un_bind hP) ?_ fun _ _ _ => (un_bind hP) ((un_block hP) h _) fun _ _ _ => (un_same hP) _
  split
  · exact (un_of hP) ((un_expr hP) _) ((un_rest hP) s1)
  · exact (un_same hP) _
theorem uns_statement (hP : Steps E Q) : ∀ k, Uns E Q (statement E k)
  | 0 => fun s => by rw [statement]; exact un_wrong hP s
  | k + 1 => fun s => by
    rw [statement]
    by_cases hc : accepts E [97, 115, 115, 101, 114, 116] s = true
    · rw [if_pos hc]; exact un_of hP ((un_claim hP) _ _) (hP.rest s)
    rw [if_neg hc]
    clear hc
    by_cases hc : accepts E [97, 119, 97, 105, 116] s = true
    · rw [if_pos hc]; exact un_of hP ((un_claim hP) _ _) (hP.rest s)
    rw [if_neg hc]
    clear hc
    by_cases hc : accepts E [102, 101, 110, 99, 101] s = true
    · rw [if_pos hc]; exact un_of hP ((un_bare hP) _ _) (hP.rest s)
    rw [if_neg hc]
    clear hc
    by_cases hc : accepts E [115, 107, 105, 112] s = true
    · rw [if_pos hc]; exact un_of hP ((un_bare hP) _ _) (hP.rest s)
    rw [if_neg hc]
    clear hc
    by_cases hc : accepts E [97, 116, 111, 109, 105, 99] s = true
    · rw [if_pos hc]; exact un_of hP ((un_atomic hP) _) (hP.rest s)
    rw [if_neg hc]
    clear hc
    by_cases hc : accepts E [99, 97, 115] s = true
    · rw [if_pos hc]; exact un_of hP ((un_cas hP) _) (hP.rest s)
    rw [if_neg hc]
    clear hc
    by_cases hc : accepts E [97, 99, 113, 117, 105, 114, 101] s = true
    · rw [if_pos hc]; exact un_of hP ((un_named hP) _ _ (un_path hP) _) (hP.rest s)
    rw [if_neg hc]
    clear hc
    by_cases hc : accepts E [102, 114, 101, 101] s = true
    · rw [if_pos hc]; exact un_of hP ((un_named hP) _ _ (un_path hP) _) (hP.rest s)
    rw [if_neg hc]
    clear hc
    by_cases hc : accepts E [115, 112, 97, 119, 110] s = true
    · rw [if_pos hc]; exact un_of hP ((un_named hP) _ _ (un_name hP) _) (hP.rest s)
    rw [if_neg hc]
    clear hc
    by_cases hc : accepts E [106, 111, 105, 110] s = true
    · rw [if_pos hc]; exact un_of hP ((un_named hP) _ _ (un_name hP) _) (hP.rest s)
    rw [if_neg hc]
    clear hc
    by_cases hc : accepts E [105, 102] s = true
    · rw [if_pos hc]; exact un_of hP ((un_branch hP) ((uns_statement hP) k) _) (hP.rest s)
    rw [if_neg hc]
    clear hc
    by_cases hc : accepts E [119, 104, 105, 108, 101] s = true
    · rw [if_pos hc]; exact un_of hP ((un_loop hP) ((uns_statement hP) k) _) (hP.rest s)
    rw [if_neg hc]
    clear hc
    by_cases hc : accepts E [99, 97, 108, 108] s = true
    · rw [if_pos hc]; exact un_of hP ((un_call hP) _) (hP.rest s)
    rw [if_neg hc]
    clear hc
    by_cases hc : accepts E [103, 104, 111, 115, 116] s = true ∨ accepts E [108, 111, 99, 97, 108] s = true
    · rw [if_pos hc]; exact (un_plocal hP) s
    · rw [if_neg hc]; exact (un_assignment hP) s
theorem uns_stmt (hP : Steps E Q) : Uns E Q (stmt E) := fun s => uns_statement hP _ s
theorem un_record (hP : Steps E Q) (s : St) : Un E Q (record E s) (rest s) := by
  unfold record
  exact (un_bind hP) ((un_name hP) _) fun _ _ _ => (un_bind hP) ((un_list hP) (uns_field hP) _) fun _ _ _ => (un_same hP) _
theorem un_lock (hP : Steps E Q) (s : St) : Un E Q (lock E s) (rest s) := by
  unfold lock
  exact (un_bind hP) ((un_name hP) _) fun _ _ _ => (un_bind hP) ((un_expect hP) _ _) fun _ _ _ => (un_bind hP) ((un_expr hP) _) fun _ _ _ => (un_bind hP) ((un_expect hP) _ _) fun _ _ _ => (un_same hP) _
theorem un_frame (hP : Steps E Q) (s : St) : Un E Q (frame E s) (rest s) := by
  unfold frame
  exact (un_bind hP) ((un_separated hP) (un_pvar hP) _) fun _ _ _ => (un_bind hP) ((un_expect hP) _ _) fun _ _ _ => (un_same hP) _
theorem un_proc (hP : Steps E Q) (s : St) : Un E Q (proc E s) (rest s) := by
  unfold proc
  refine (un_bind hP) ((un_name hP) _) fun _ _ _ => (un_bind hP) ((un_tuple hP) (un_param hP) _) fun _ s2 _ => (un_bind hP) ?_ fun _ _ _ => (un_bind hP) ((un_block hP) (uns_stmt hP) _) fun _ _ _ => (un_same hP) _
  split
  · exact (un_of hP) ((un_name hP) _) ((un_rest hP) s2)
  · exact (un_same hP) _
theorem un_shared_tail (hP : Steps E Q) (s1 : St) (g : Bool) (o : Int) : Un E Q ((name E s1).bind fun x s2 =>
  (if accepts E [91] s2 then (length E (rest s2)).bind fun m s3 => (expect E [93] s3).bind fun _ s4 => .ok m s4 else .ok 0 s2).bind fun len s5 =>
  (expect E [58] s5).bind fun _ s6 =>
  (if kindOf E s6 = 2 then (number E s6).bind fun m s7 => .ok ([], m) s7 else (name E s6).bind fun y s7 => .ok (y, 0) s7).bind fun q s8 =>
  (if accepts E [61] s8 then number E (rest s8) else .ok 0 s8).bind fun i s9 =>
  (expect E [59] s9).bind fun _ s10 => .ok (T.mk 50 x q.1 q.2 len i g [] o) s10) s1 := by
  refine (un_bind hP) ((un_name hP) _) fun _ s2 _ => (un_bind hP) ?_ fun _ _ _ => (un_bind hP) ((un_expect hP) _ _) fun _ s6 _ => (un_bind hP) ?_ fun _ s8 _ => (un_bind hP) ?_ fun _ _ _ => (un_bind hP) ((un_expect hP) _ _) fun _ _ _ => (un_same hP) _
  · split
    · exact (un_of hP) ((un_bind hP) ((un_length hP) _) fun _ _ _ => (un_bind hP) ((un_expect hP) _ _) fun _ _ _ => (un_same hP) _) ((un_rest hP) s2)
    · exact (un_same hP) _
  · split
    · exact (un_bind hP) ((un_number hP) _) fun _ _ _ => (un_same hP) _
    · exact (un_bind hP) ((un_name hP) _) fun _ _ _ => (un_same hP) _
  · split
    · exact (un_of hP) ((un_number hP) _) ((un_rest hP) s8)
    · exact (un_same hP) _
theorem un_shared (hP : Steps E Q) (s : St) : Un E Q (shared E s) s := by
  unfold shared
  exact (un_of hP) ((un_bind hP) ((un_expect hP) _ _) fun _ s1 _ => (un_shared_tail hP) s1 _ _) (un_accepted hP _ s)
theorem uns_declaration (hP : Steps E Q) : Uns E Q (declaration E) := fun s => by
  unfold declaration
  split
  · rename_i hc; exact un_of hP ((un_record hP) _) (hP.rest s)
  split
  · rename_i hc; exact un_of hP ((un_lock hP) _) (hP.rest s)
  split
  · rename_i hc; exact un_of hP ((un_claim hP) _ _) (hP.rest s)
  split
  · rename_i hc; exact un_of hP ((un_claim hP) _ _) (hP.rest s)
  split
  · rename_i hc; exact un_of hP ((un_frame hP) _) (hP.rest s)
  split
  · rename_i hc; exact un_of hP ((un_proc hP) _) (hP.rest s)
  · exact un_shared hP s
theorem un_module (hP : Steps E Q) (s : St) : Un E Q (module E s) (rest s) := by
  unfold module
  exact (un_bind hP) ((un_name hP) _) fun _ _ _ => (un_bind hP) ((un_expect hP) _ _) fun _ _ _ => (un_bind hP) ((un_name hP) _) fun _ _ _ => (un_bind hP) ((un_list hP) (uns_declaration hP) _) fun _ _ _ => (un_same hP) _
theorem un_thread_tail (hP : Steps E Q) (s1 : St) (q o : Int) : Un E Q ((name E s1).bind fun x s2 => (expect E [61] s2).bind fun _ s3 =>
  (path E s3).bind fun p s4 => (tuple E (numeral E) s4).bind fun l s5 => (expect E [59] s5).bind fun _ s6 => .ok (T.mk 61 x p q 0 0 false l o) s6) s1 :=
  (un_bind hP) ((un_name hP) _) fun _ _ _ => (un_bind hP) ((un_expect hP) _ _) fun _ _ _ => (un_bind hP) ((un_path hP) _) fun _ _ _ => (un_bind hP) ((un_tuple hP) (un_numeral hP) _) fun _ _ _ => (un_bind hP) ((un_expect hP) _ _) fun _ _ _ => (un_same hP) _
theorem uns_unit (hP : Steps E Q) : Uns E Q (unit E) := fun s => by
  unfold unit
  split
  · rename_i hc; exact un_of hP ((un_module hP) _) (hP.rest s)
  · unfold thread
    exact (un_of hP) ((un_bind hP) ((un_expect hP) _ _) fun _ s1 _ => (un_thread_tail hP) s1 _ _) (un_accepted hP _ s)
theorem un_whole (hP : Steps E Q) (s : St) : Un E Q (whole E s) s := by
  unfold whole
  refine un_bind hP (un_expr hP _) fun _ s1 _ => ?_
  split
  · exact un_same hP _
  · exact un_wrong hP _
end Go.Proofs.YtbgpboiblggmiaaGreatDoor.Px

/-
  Two runs of the plain parser side by side: relations of trees, tokens, states and results; the small readers.
-/
namespace Go.Proofs.YtbgpboiblggmiaaGreatDoor.Px
open Lx (Tok)

mutual
/-- two trees that differ in their offsets, which are related -/
def RelT (ρ : Int → Int → Prop) : T → T → Prop
  | .mk k x y n l i g kids o, .mk k' x' y' n' l' i' g' kids' o' => k = k' ∧ x = x' ∧ y = y' ∧ n = n' ∧ l = l' ∧ i = i' ∧ g = g' ∧ ρ o o' ∧ RelL ρ kids kids'
def RelL (ρ : Int → Int → Prop) : List T → List T → Prop
  | [], [] => True
  | t :: r, t' :: r' => RelT ρ t t' ∧ RelL ρ r r'
  | _, _ => False
end
theorem relL_snoc {ρ : Int → Int → Prop} : ∀ (l l' : List T) {t t' : T}, RelL ρ l l' → RelT ρ t t' → RelL ρ (l ++ [t]) (l' ++ [t'])
  | [], [], t, t', _, h => by simp only [List.nil_append]; unfold RelL; exact ⟨h, by unfold RelL; trivial⟩
  | a :: l, a' :: l', t, t', h1, h => by
    unfold RelL at h1
    simp only [List.cons_append]
    unfold RelL
    exact ⟨h1.1, relL_snoc l l' h1.2 h⟩
  | [], a :: l, _, _, h1, _ => by unfold RelL at h1; exact h1.elim
  | a :: l, [], _, _, h1, _ => by unfold RelL at h1; exact h1.elim
theorem relL_nil (ρ : Int → Int → Prop) : RelL ρ [] [] := by unfold RelL; trivial
theorem relL_cons {ρ : Int → Int → Prop} {t t' : T} {r r' : List T} (h : RelT ρ t t') (h2 : RelL ρ r r') : RelL ρ (t :: r) (t' :: r') := by unfold RelL; exact ⟨h, h2⟩
theorem relT_mk {ρ : Int → Int → Prop} {k : Int} {x y : Str} {n l i : Int} {g : Bool} {kids kids' : List T} {o o' : Int} (h : ρ o o') (hk : RelL ρ kids kids') : RelT ρ (.mk k x y n l i g kids o) (.mk k x y n l i g kids' o') := by
  unfold RelT; exact ⟨rfl, rfl, rfl, rfl, rfl, rfl, rfl, h, hk⟩
theorem relT_off {ρ : Int → Int → Prop} {t t' : T} (h : RelT ρ t t') : ρ t.off t'.off := by
  cases t; cases t'; unfold RelT at h; exact h.2.2.2.2.2.2.2.1
theorem relT_name {ρ : Int → Int → Prop} {t t' : T} (h : RelT ρ t t') : t.name = t'.name := by
  cases t; cases t'; unfold RelT at h; exact h.2.1
theorem relL_tail {ρ : Int → Int → Prop} {l l' : List T} (h : RelL ρ l l') : RelL ρ l.tail l'.tail := by
  cases l <;> cases l' <;> unfold RelL at h
  · exact relL_nil ρ
  · exact h.elim
  · exact h.elim
  · exact h.2

def RTok (ρ : Int → Int → Prop) (t t' : Tok) : Prop := t.kind = t'.kind ∧ t.text = t'.text ∧ ρ (t.off : Int) (t'.off : Int)
def RelC (ρ : Int → Int → Prop) : List Tok → List Tok → Prop
  | [], [] => True
  | t :: r, t' :: r' => RTok ρ t t' ∧ RelC ρ r r'
  | _, _ => False

/-- two runs: their ends, the relations of offsets and diagnostics, what comes behind the common part -/
structure Par where
  E : Nat
  F : Nat
  ρ : Int → Int → Prop
  δ : List D → List D → Prop
  x : List Tok
  y : List Tok
structure Par.Ok (p : Par) : Prop where
  rep : ∀ l l' e o o', p.δ l l' → p.ρ o o' → p.δ (report ⟨e, o⟩ l) (report ⟨e, o'⟩ l')
def Par.same (p : Par) : Prop := p.x = [] ∧ p.y = [] ∧ p.ρ p.E p.F

def At (x : List Tok) (E : Nat) (d : D) : Prop := (∃ t ∈ x, d.off = (t.off : Int) ∧ (d.err = 2 ∨ d.err = 20)) ∨ d = ⟨21, E⟩
theorem At.mono {x y : List Tok} {E : Nat} {d : D} (h : At x E d) (hs : x <:+ y) : At y E d := by
  rcases h with ⟨t, ht, h⟩ | h
  · exact .inl ⟨t, hs.subset ht, h⟩
  · exact .inr h
theorem At.of {E : Nat} {d : D} {s : St} (h : BadAt E d s) : At s.toks E d := by
  obtain ⟨h1, h2, h3⟩ := h
  cases hs : s.toks with
  | nil =>
    right
    have h4 := h3.1 hs
    unfold offOf peek at h1
    rw [hs] at h1
    cases d
    simp only at h1 h4
    rw [h1, h4]
  | cons t r =>
    left
    refine ⟨t, by simp, ?_, ?_⟩
    · unfold offOf peek at h1; rw [hs] at h1; exact h1
    · rcases h2 with h2 | h2 | h2
      · exact .inl h2
      · exact .inr h2
      · rw [h3.2 h2] at hs; cases hs
theorem report_cases (d : D) (l : List D) : report d l = l ++ [d] ∨ report d l = l := by
  unfold report
  by_cases h : (decide (l.length < 20) && (match l.getLast? with | .none => true | .some e => decide (e.off ≠ d.off))) = true
  · exact .inl (if_pos h)
  · exact .inr (if_neg h)
/-- a run goes on: tokens are taken, errors at them are reported -/
def PX (E : Nat) (s s1 : St) : Prop := s1.toks <:+ s.toks ∧ ∃ ext, s1.diags = s.diags ++ ext ∧ ∀ d ∈ ext, At s.toks E d
theorem px (E : Nat) : Steps E (PX E) where
  refl s := ⟨List.suffix_refl _, [], by simp, by simp⟩
  trans h1 h2 := by
    obtain ⟨a1, e1, b1, c1⟩ := h1
    obtain ⟨a2, e2, b2, c2⟩ := h2
    refine ⟨a2.trans a1, e1 ++ e2, by rw [b2, b1, List.append_assoc], fun d hd => ?_⟩
    rcases List.mem_append.1 hd with h | h
    · exact c1 d h
    · exact (c2 d h).mono a1
  rest s := ⟨suf_rest s, [], by simp [rest], by simp⟩
  braces s b := ⟨List.suffix_refl _, [], by simp, by simp⟩
  skip d s q h := by
    refine ⟨skip_suf _ _ _, ?_⟩
    simp only
    rcases report_cases d s.diags with e | e
    · exact ⟨[d], e, fun d' h' => by rw [List.mem_singleton.1 h']; exact At.of h⟩
    · exact ⟨[], by rw [e]; simp, by simp⟩

section
variable {p : Par}

structure Sim (p : Par) (s s' : St) : Prop where
  toks : ∃ c c', RelC p.ρ c c' ∧ s.toks = c ++ p.x ∧ s'.toks = c' ++ p.y
  braces : s.braces = s'.braces
  diags : p.δ s.diags s'.diags
structure Dv (p : Par) (s s' : St) : Prop where
  ns : ¬ p.same
  t1 : s.toks <:+ p.x
  t2 : s'.toks <:+ p.y
  ds : ∃ l l' e e', p.δ l l' ∧ s.diags = l ++ e ∧ s'.diags = l' ++ e' ∧ (∀ d ∈ e, At p.x p.E d) ∧ (∀ d ∈ e', At p.y p.F d)
theorem Dv.step {s s' t t' : St} (h : Dv p s s') (h1 : PX p.E s t) (h2 : PX p.F s' t') : Dv p t t' := by
  obtain ⟨l, l', e, e', hd, q1, q2, q3, q4⟩ := h.ds
  obtain ⟨a1, e1, b1, c1⟩ := h1
  obtain ⟨a2, e2, b2, c2⟩ := h2
  refine ⟨h.ns, a1.trans h.t1, a2.trans h.t2, l, l', e ++ e1, e' ++ e2, hd, by rw [b1, q1, List.append_assoc], by rw [b2, q2, List.append_assoc], ?_, ?_⟩
  · intro d hd
    rcases List.mem_append.1 hd with h' | h'
    · exact q3 d h'
    · exact (c1 d h').mono h.t1
  · intro d hd
    rcases List.mem_append.1 hd with h' | h'
    · exact q4 d h'
    · exact (c2 d h').mono h.t2
/-- both runs see the same token, or the same end -/
structure Live (p : Par) (s s' : St) : Prop where
  sim : Sim p s s'
  text : text p.E s = text p.F s'
  kind : kindOf p.E s = kindOf p.F s'
  off : p.ρ (offOf p.E s) (offOf p.F s')
  next : Sim p (rest s) (rest s')
  nil : s.toks = [] ↔ s'.toks = []
theorem sim_cases {s s' : St} (h : Sim p s s') : Live p s s' ∨ Dv p s s' := by
  obtain ⟨c, c', hc, h1, h2⟩ := h.toks
  rcases c with _ | ⟨t, r⟩ <;> rcases c' with _ | ⟨t', r'⟩
  · by_cases hs : p.same
    · left
      have e1 : s.toks = [] := by rw [h1, hs.1]; rfl
      have e2 : s'.toks = [] := by rw [h2, hs.2.1]; rfl
      refine ⟨h, ?_, ?_, ?_, ?_, ?_⟩
      · unfold Px.text peek; rw [e1, e2]
      · unfold kindOf peek; rw [e1, e2]
      · unfold offOf peek; rw [e1, e2]; exact hs.2.2
      · refine ⟨⟨[], [], hc, ?_, ?_⟩, h.braces, h.diags⟩
        · unfold rest; rw [e1, hs.1]; rfl
        · unfold rest; rw [e2, hs.2.1]; rfl
      · rw [e1, e2]
    · right
      exact ⟨hs, by rw [h1]; exact List.suffix_refl _, by rw [h2]; exact List.suffix_refl _, _, _, [], [], h.diags, by simp, by simp, by simp, by simp⟩
  · unfold RelC at hc; exact hc.elim
  · unfold RelC at hc; exact hc.elim
  · unfold RelC at hc
    left
    refine ⟨h, ?_, ?_, ?_, ?_, ?_⟩
    · unfold Px.text peek; rw [h1, h2]; exact hc.1.2.1
    · unfold kindOf peek; rw [h1, h2]; exact hc.1.1
    · unfold offOf peek; rw [h1, h2]; exact hc.1.2.2
    · exact ⟨⟨r, r', hc.2, by unfold rest; rw [h1]; rfl, by unfold rest; rw [h2]; rfl⟩, h.braces, h.diags⟩
    · rw [h1, h2]; simp
theorem Live.acc {s s' : St} (h : Live p s s') (x : Str) : accepts p.F x s' = accepts p.E x s := by unfold accepts; rw [h.text]
theorem Sim.set {s s' : St} (h : Sim p s s') (b : Int) : Sim p { s with braces := b } { s' with braces := b } := ⟨h.toks, rfl, h.diags⟩

/-- the results of two runs -/
inductive Rel (p : Par) {α β : Type} (V : α → β → Prop) (r : Res α) (r' : Res β) : Prop where
  | ok (a : α) (a' : β) (s s' : St) (e : r = .ok a s) (e' : r' = .ok a' s') (v : V a a') (h : Sim p s s')
  | bad (d d' : D) (s s' : St) (e : r = .bad d s) (e' : r' = .bad d' s') (he : d.err = d'.err) (ho : p.ρ d.off d'.off) (h : Sim p s s')
  | dv (h : Dv p r.st r'.st) (u : ∀ d s, r = .bad d s → BadAt p.E d s) (u' : ∀ d s, r' = .bad d s → BadAt p.F d s)
theorem rel_dv {α β : Type} {V : α → β → Prop} {r : Res α} {r' : Res β} {s s' : St} (h : Dv p s s') (u : Un p.E (PX p.E) r s) (u' : Un p.F (PX p.F) r' s') : Rel p V r r' :=
  .dv (h.step u.1 u'.1) u.2 u'.2
theorem rel_bind {α β γ κ : Type} {V : α → β → Prop} {W : γ → κ → Prop} {r : Res α} {r' : Res β} {f : α → St → Res γ} {f' : β → St → Res κ} (h : Rel p V r r')
    (hf : ∀ a a' s s', r = .ok a s → r' = .ok a' s' → V a a' → Sim p s s' → Rel p W (f a s) (f' a' s'))
    (hu : ∀ a s, Un p.E (PX p.E) (f a s) s) (hu' : ∀ a s, Un p.F (PX p.F) (f' a s) s) : Rel p W (r.bind f) (r'.bind f') := by
  cases h with
  | ok a a' s s' e e' v h => have := hf a a' s s' e e' v h; rw [e, e']; exact this
  | bad d d' s s' e e' he ho h => rw [e, e']; exact .bad d d' s s' rfl rfl he ho h
  | dv h u u' =>
    have h1 : Un p.E (PX p.E) (r.bind f) r.st := by
      cases r with
      | ok a s => exact hu a s
      | bad d s => exact ⟨(px _).refl _, fun d' s' e => u d' s' (by cases e; rfl)⟩
    have h2 : Un p.F (PX p.F) (r'.bind f') r'.st := by
      cases r' with
      | ok a s => exact hu' a s
      | bad d s => exact ⟨(px _).refl _, fun d' s' e => u' d' s' (by cases e; rfl)⟩
    exact rel_dv h h1 h2
theorem rel_ok {α β : Type} {V : α → β → Prop} {a : α} {a' : β} {s s' : St} (v : V a a') (h : Sim p s s') : Rel p V (.ok a s) (.ok a' s') := .ok a a' s s' rfl rfl v h
theorem rel_wrong {α β : Type} {V : α → β → Prop} {s s' : St} (h : Live p s s') : Rel p V (wrong p.E s : Res α) (wrong p.F s' : Res β) := by
  refine .bad _ _ s s' rfl rfl ?_ h.off h.sim
  have := h.nil
  unfold wrongD
  cases hs : s.toks with
  | nil => rw [this.1 hs]
  | cons t r =>
    cases hs' : s'.toks with
    | nil => rw [this.2 hs'] at hs; cases hs
    | cons t' r' => rfl

theorem sim_expect (x : Str) {s s' : St} (h : Sim p s s') : Rel p (fun _ _ => True) (expect p.E x s) (expect p.F x s') := by
  rcases sim_cases h with L | hd
  · unfold expect
    rw [L.acc x]
    split
    · exact rel_ok trivial L.next
    · exact rel_wrong L
  · exact rel_dv hd (un_expect (px _) _ _) (un_expect (px _) _ _)
theorem sim_name {s s' : St} (h : Sim p s s') : Rel p Eq (name p.E s) (name p.F s') := by
  rcases sim_cases h with L | hd
  · unfold name
    rw [← L.kind, ← L.text]
    split
    · exact rel_ok rfl L.next
    · exact rel_wrong L
  · exact rel_dv hd (un_name (px _) _) (un_name (px _) _)
theorem sim_number {s s' : St} (h : Sim p s s') : Rel p Eq (number p.E s) (number p.F s') := by
  rcases sim_cases h with L | hd
  · unfold number
    rw [← L.kind, ← L.text]
    split
    · exact rel_ok rfl L.next
    · exact rel_wrong L
  · exact rel_dv hd (un_number (px _) _) (un_number (px _) _)
theorem sim_length {s s' : St} (h : Sim p s s') : Rel p Eq (length p.E s) (length p.F s') := by
  rcases sim_cases h with L | hd
  · unfold length
    rw [L.acc]
    split
    · exact .bad _ _ s s' rfl rfl rfl L.off L.sim
    · exact sim_number h
  · exact rel_dv hd (un_length (px _) _) (un_length (px _) _)
theorem sim_pathGo : ∀ (k : Nat) (q : Str) {s s' : St}, Sim p s s' → Rel p Eq (pathGo p.E k q s) (pathGo p.F k q s')
  | 0, q, s, s', h => by rw [pathGo, pathGo]; exact rel_ok rfl h
  | k + 1, q, s, s', h => by
    rcases sim_cases h with L | hd
    · rw [pathGo, pathGo, L.acc]
      split
      · exact rel_bind (sim_name L.next) (fun a a' s1 s1' _ _ v h1 => by rw [v]; exact sim_pathGo k _ h1) (fun _ _ => un_pathGo (px _) _ _ _) (fun _ _ => un_pathGo (px _) _ _ _)
      · exact rel_ok rfl h
    · exact rel_dv hd (un_pathGo (px _) _ _ _) (un_pathGo (px _) _ _ _)
theorem sim_path {s s' : St} (h : Sim p s s') : Rel p Eq (path p.E s) (path p.F s') := by
  unfold path
  exact rel_bind (sim_name h) (fun a a' s1 s1' _ _ v h1 => by rw [v]; exact sim_pathGo 2 _ h1) (fun _ _ => un_pathGo (px _) _ _ _) (fun _ _ => un_pathGo (px _) _ _ _)
theorem sim_numeral {s s' : St} (h : Sim p s s') : Rel p (RelT p.ρ) (numeral p.E s) (numeral p.F s') := by
  rcases sim_cases h with L | hd
  · unfold numeral
    exact rel_bind (sim_number h) (fun a a' s1 s1' _ _ v h1 => by rw [v]; exact rel_ok (relT_mk L.off (relL_nil _)) h1) (fun _ _ => un_same (px _) _) (fun _ _ => un_same (px _) _)
  · exact rel_dv hd (un_numeral (px _) _) (un_numeral (px _) _)
theorem sim_pvar {s s' : St} (h : Sim p s s') : Rel p (RelT p.ρ) (pvar p.E s) (pvar p.F s') := by
  rcases sim_cases h with L | hd
  · unfold pvar
    exact rel_bind (sim_path h) (fun a a' s1 s1' _ _ v h1 => by rw [v]; exact rel_ok (relT_mk L.off (relL_nil _)) h1) (fun _ _ => un_same (px _) _) (fun _ _ => un_same (px _) _)
  · exact rel_dv hd (un_pvar (px _) _) (un_pvar (px _) _)
end
end Go.Proofs.YtbgpboiblggmiaaGreatDoor.Px

/-
  Steps of any reader, in the form that a rewriting with conditions reads.
-/
namespace Go.Proofs.YtbgpboiblggmiaaGreatDoor.Px
variable {E : Nat}
theorem ux_refl (s : St) : PX E s s := (px _).refl s
theorem ux_rest (s : St) : PX E s (rest s) := (px _).rest s
theorem ux_braces (s : St) (b : Int) : PX E s { s with braces := b } := (px _).braces s b
theorem ux_restb (s : St) (b : Int) : PX E s (rest { s with braces := b }) := (px _).trans ((px _).braces s b) ((px _).rest _)
theorem ux_accepted (s : St) (x : Str) : PX E s (accepted E x s) := un_accepted (px _) x s
theorem ux_ok {α : Type} (a : α) {s s0 : St} (h : PX E s0 s) : Un E (PX E) (.ok a s) s0 := un_ok a h
theorem ux_bind {α β : Type} {r : Res α} {s : St} {f : α → St → Res β} (h : Un E (PX E) r s) (hf : ∀ a s1, Un E (PX E) (f a s1) s1) : Un E (PX E) (r.bind f) s := un_bind (px _) h fun a s1 _ => hf a s1
theorem ux_ite {α : Type} {c : Prop} [Decidable c] {a b : Res α} {s : St} (h : Un E (PX E) a s) (h2 : Un E (PX E) b s) : Un E (PX E) (if c then a else b) s := by
  split
  · exact h
  · exact h2
theorem ux_block {rd : St → Res T} (hr : Uns E (PX E) rd) {s s0 : St} (h : PX E s0 s) : Un E (PX E) (block E rd s) s0 := un_of (px _) (un_block (px _) hr _) h
theorem ux_list {rd : St → Res T} (hr : Uns E (PX E) rd) {s s0 : St} (h : PX E s0 s) : Un E (PX E) (list E rd s) s0 := un_of (px _) (un_list (px _) hr _) h
theorem ux_listGo {rd : St → Res T} (hr : Uns E (PX E) rd) (k : Nat) (l : List T) {s s0 : St} (h : PX E s0 s) : Un E (PX E) (listGo E rd k l s) s0 := un_of (px _) (un_listGo (px _) hr _ _ _) h
theorem ux_sepGo {part : St → Res T} (hr : ∀ s, Un E (PX E) (part s) s) (k : Nat) (l : List T) {s s0 : St} (h : PX E s0 s) : Un E (PX E) (sepGo E part k l s) s0 := un_of (px _) (un_sepGo (px _) hr _ _ _) h
theorem ux_sep {part : St → Res T} (hr : ∀ s, Un E (PX E) (part s) s) {s s0 : St} (h : PX E s0 s) : Un E (PX E) (separated E part s) s0 := un_of (px _) (un_separated (px _) hr _) h
theorem ux_part {part : St → Res T} (hr : ∀ s, Un E (PX E) (part s) s) {s s0 : St} (h : PX E s0 s) : Un E (PX E) (part s) s0 := un_of (px _) (hr _) h
theorem ux_expect (x : Str) {s s0 : St} (h : PX E s0 s) : Un E (PX E) (expect E x s) s0 := un_of (px _) (un_expect (px _) _ _) h
theorem ux_name  {s s0 : St} (h : PX E s0 s) : Un E (PX E) (name E s) s0 := un_of (px _) (un_name (px _) _) h
theorem ux_number  {s s0 : St} (h : PX E s0 s) : Un E (PX E) (number E s) s0 := un_of (px _) (un_number (px _) _) h
theorem ux_length  {s s0 : St} (h : PX E s0 s) : Un E (PX E) (length E s) s0 := un_of (px _) (un_length (px _) _) h
theorem ux_path  {s s0 : St} (h : PX E s0 s) : Un E (PX E) (path E s) s0 := un_of (px _) (un_path (px _) _) h
theorem ux_pathGo (k : Nat) (q : Str) {s s0 : St} (h : PX E s0 s) : Un E (PX E) (pathGo E k q s) s0 := un_of (px _) (un_pathGo (px _) _ _ _) h
theorem ux_pvar  {s s0 : St} (h : PX E s0 s) : Un E (PX E) (pvar E s) s0 := un_of (px _) (un_pvar (px _) _) h
theorem ux_numeral  {s s0 : St} (h : PX E s0 s) : Un E (PX E) (numeral E s) s0 := un_of (px _) (un_numeral (px _) _) h
theorem ux_run (k : Nat) (q : P) {s s0 : St} (h : PX E s0 s) : Un E (PX E) (run E k q s) s0 := un_of (px _) (un_run (px _) _ _ _) h
theorem ux_expr  {s s0 : St} (h : PX E s0 s) : Un E (PX E) (expr E s) s0 := un_of (px _) (un_expr (px _) _) h
theorem ux_refr  {s s0 : St} (h : PX E s0 s) : Un E (PX E) (refr E s) s0 := un_of (px _) (un_refr (px _) _) h
theorem ux_typed  {s s0 : St} (h : PX E s0 s) : Un E (PX E) (typed E s) s0 := un_of (px _) (un_typed (px _) _) h
theorem ux_param  {s s0 : St} (h : PX E s0 s) : Un E (PX E) (param E s) s0 := un_of (px _) (un_param (px _) _) h
theorem ux_field  {s s0 : St} (h : PX E s0 s) : Un E (PX E) (field E s) s0 := un_of (px _) (uns_field (px _) _) h
theorem ux_assign (l : List T) {s s0 : St} (h : PX E s0 s) : Un E (PX E) (assign E l s) s0 := un_of (px _) (un_assign (px _) _ _) h
theorem ux_assigns (l : List T) {s s0 : St} (h : PX E s0 s) : Un E (PX E) (assigns E l s) s0 := un_of (px _) (un_assigns (px _) _ _) h
theorem ux_assignsGo (k : Nat) (l : List T) {s s0 : St} (h : PX E s0 s) : Un E (PX E) (assignsGo E k l s) s0 := un_of (px _) (un_assignsGo (px _) _ _ _) h
theorem ux_withs (l : List T) {s s0 : St} (h : PX E s0 s) : Un E (PX E) (withs E l s) s0 := un_of (px _) (un_withs (px _) _ _) h
theorem ux_tupleE  {s s0 : St} (h : PX E s0 s) : Un E (PX E) (tuple E (expr E) s) s0 := un_of (px _) (un_tuple (px _) (un_expr (px _)) _) h
theorem ux_tupleP  {s s0 : St} (h : PX E s0 s) : Un E (PX E) (tuple E (param E) s) s0 := un_of (px _) (un_tuple (px _) (un_param (px _)) _) h
theorem ux_tupleN  {s s0 : St} (h : PX E s0 s) : Un E (PX E) (tuple E (numeral E) s) s0 := un_of (px _) (un_tuple (px _) (un_numeral (px _)) _) h
theorem ux_sepV  {s s0 : St} (h : PX E s0 s) : Un E (PX E) (separated E (pvar E) s) s0 := un_of (px _) (un_separated (px _) (un_pvar (px _)) _) h
theorem ux_listF  {s s0 : St} (h : PX E s0 s) : Un E (PX E) (list E (field E) s) s0 := un_of (px _) (un_list (px _) (uns_field (px _)) _) h
theorem ux_listD  {s s0 : St} (h : PX E s0 s) : Un E (PX E) (list E (declaration E) s) s0 := un_of (px _) (un_list (px _) (uns_declaration (px _)) _) h
theorem ux_blockS  {s s0 : St} (h : PX E s0 s) : Un E (PX E) (block E (stmt E) s) s0 := un_of (px _) (un_block (px _) (uns_stmt (px _)) _) h
theorem ux_wrong {α : Type} {s s0 : St} (h : PX E s0 s) : Un E (PX E) ((wrong E s : Res α)) s0 := un_of (px _) (un_wrong (px _) _) h
theorem un_au {α : Type} {r : Res α} {s : St} (h : Un E (PX E) r s := by (simp (maxDischargeDepth := 60) only [implies_true, ux_refl, ux_rest, ux_braces, ux_restb, ux_accepted, ux_ok, ux_bind, ux_ite, ux_block, ux_list, ux_listGo, ux_sepGo, ux_sep, ux_expect, ux_name, ux_number, ux_length, ux_path, ux_pathGo, ux_pvar, ux_numeral, ux_run, ux_expr, ux_refr, ux_typed, ux_param, ux_field, ux_assign, ux_assigns, ux_assignsGo, ux_withs, ux_tupleE, ux_tupleP, ux_tupleN, ux_sepV, ux_listF, ux_listD, ux_blockS, ux_wrong, *])) : Un E (PX E) r s := h
end Go.Proofs.YtbgpboiblggmiaaGreatDoor.Px

/-
  Two runs of the plain parser side by side: expressions.
-/
namespace Go.Proofs.YtbgpboiblggmiaaGreatDoor.Px
variable {p : Par}

inductive RelP (ρ : Int → Int → Prop) : P → P → Prop where
  | expr : RelP ρ .expr .expr
  | cond : RelP ρ .cond .cond
  | bin (l : Int) (hl : 1 ≤ l) : RelP ρ (.bin l) (.bin l)
  | loop (l m : Int) (n n' : T) (hl : 1 ≤ l) (h : RelT ρ n n') : RelP ρ (.loop l m n) (.loop l m n')
  | unary : RelP ρ .unary .unary
  | ref : RelP ρ .ref .ref
def rank : P → Nat
  | .expr => 5
  | .cond => 4
  | .bin _ => 3
  | .loop _ _ _ => 0
  | .unary => 2
  | .ref => 1
theorem level_pos {t : Str} (h : level t ≠ 0) : t ≠ [] := by
  rintro rfl
  exact h (by decide)
theorem lor_pos {n : Int} (h : 1 ≤ n) : 1 ≤ leastOnTheRight n := by unfold leastOnTheRight; split <;> omega
theorem text_left {E : Nat} {s : St} (h : text E s ≠ []) : left (rest s) + 1 = left s := by
  unfold text peek at h
  unfold left rest
  cases hs : s.toks with
  | nil => rw [hs] at h; exact absurd rfl h
  | cons t r => simp

set_option maxRecDepth 100000 in
set_option maxHeartbeats 1000000 in
theorem sim_run : ∀ (k k' : Nat) (q q' : P) {s s' : St}, 6 * left s + rank q < k → 6 * left s' + rank q' < k' → RelP p.ρ q q' → Sim p s s' →
    Rel p (RelT p.ρ) (run p.E k q s) (run p.F k' q' s')
  | 0, _, _, _, _, _, hk, _, _, _ => absurd hk (by omega)
  | _ + 1, 0, _, _, _, _, _, hk, _, _ => absurd hk (by omega)
  | k + 1, k' + 1, .expr, _, s, s', hk, hk', .expr, h => by
    simp only [rank] at hk hk'
    rcases sim_cases h with L | hd
    rotate_left
    · exact rel_dv hd (by (exact un_au)) (by (exact un_au))
    rw [run, run, L.acc, L.acc]
    by_cases hc : accepts p.E [97, 108, 108] s = true ∨ accepts p.E [115, 111, 109, 101] s = true
    · have l1 : left (rest s) + 1 = left s := by
        rcases hc with hc | hc
        · exact acc_left hc (by decide)
        · exact acc_left hc (by decide)
      have l2 : left (rest s') + 1 = left s' := by
        rcases hc with hc | hc
        · exact acc_left (E := p.F) ((L.acc _).trans hc) (by decide)
        · exact acc_left (E := p.F) ((L.acc _).trans hc) (by decide)
      rw [if_pos hc, if_pos hc]
      refine rel_bind (sim_name L.next) (fun a1 a1' s1 s1' e1 e1' v1 h1 => ?_) (fun _ _ => by (exact un_au)) (fun _ _ => by (exact un_au))
      refine rel_bind (sim_expect _ h1) (fun a2 a2' s2 s2' e2 e2' v2 h2 => ?_) (fun _ _ => by (exact un_au)) (fun _ _ => by (exact un_au))
      refine rel_bind (sim_number h2) (fun a3 a3' s3 s3' e3 e3' v3 h3 => ?_) (fun _ _ => by (exact un_au)) (fun _ _ => by (exact un_au))
      refine rel_bind (sim_expect _ h3) (fun a4 a4' s4 s4' e4 e4' v4 h4 => ?_) (fun _ _ => by (exact un_au)) (fun _ _ => by (exact un_au))
      have := name_left e1
      have := name_left e1'
      have := expect_left e2 (by decide)
      have := expect_left e2' (by decide)
      have := number_left e3
      have := number_left e3'
      have := expect_left e4 (by decide)
      have := expect_left e4' (by decide)
      refine rel_bind (sim_run k k' .expr .expr (by simp only [rank]; omega) (by simp only [rank]; omega) .expr h4) (fun a5 a5' s5 s5' e5 e5' v5 h5 => ?_) (fun _ _ => by (exact un_au)) (fun _ _ => by (exact un_au))
      rw [v1, v3]
      exact rel_ok (relT_mk L.off (relL_cons v5 (relL_nil _))) h5
    · rw [if_neg hc, if_neg hc]
      exact sim_run k k' .cond .cond (by simp only [rank]; omega) (by simp only [rank]; omega) .cond h
  | k + 1, k' + 1, .cond, _, s, s', hk, hk', .cond, h => by
    simp only [rank] at hk hk'
    rw [run, run]
    refine rel_bind (sim_run k k' (.bin 1) (.bin 1) (by simp only [rank]; omega) (by simp only [rank]; omega) (.bin 1 (by decide)) h) (fun a1 a1' s1 s1' e1 e1' v1 h1 => ?_) (fun _ _ => by (exact un_au)) (fun _ _ => by (exact un_au))
    have l1 := run_left _ _ e1
    have l1' := run_left _ _ e1'
    simp only [takes, if_true] at l1 l1'
    rcases sim_cases h1 with L | hd
    rotate_left
    · exact rel_dv hd (by (exact un_au)) (by (exact un_au))
    rw [L.acc]
    by_cases hc : accepts p.E [63] s1 = true
    · rw [if_pos hc, if_pos hc]
      have := acc_left hc (by decide)
      have := acc_left (E := p.F) ((L.acc _).trans hc) (by decide)
      refine rel_bind (sim_run k k' .cond .cond (by simp only [rank]; omega) (by simp only [rank]; omega) .cond L.next) (fun a2 a2' s2 s2' e2 e2' v2 h2 => ?_) (fun _ _ => by (exact un_au)) (fun _ _ => by (exact un_au))
      refine rel_bind (sim_expect _ h2) (fun a3 a3' s3 s3' e3 e3' v3 h3 => ?_) (fun _ _ => by (exact un_au)) (fun _ _ => by (exact un_au))
      have l2 := run_left _ _ e2
      have l2' := run_left _ _ e2'
      simp only [takes, if_true] at l2 l2'
      have := expect_left e3 (by decide)
      have := expect_left e3' (by decide)
      refine rel_bind (sim_run k k' .cond .cond (by simp only [rank]; omega) (by simp only [rank]; omega) .cond h3) (fun a4 a4' s4 s4' e4 e4' v4 h4 => ?_) (fun _ _ => by (exact un_au)) (fun _ _ => by (exact un_au))
      exact rel_ok (relT_mk L.off (relL_cons v1 (relL_cons v2 (relL_cons v4 (relL_nil _))))) h4
    · rw [if_neg hc, if_neg hc]
      exact rel_ok v1 h1
  | k + 1, k' + 1, .bin l, _, s, s', hk, hk', .bin _ hl, h => by
    simp only [rank] at hk hk'
    rw [run, run]
    refine rel_bind (sim_run k k' .unary .unary (by simp only [rank]; omega) (by simp only [rank]; omega) .unary h) (fun a1 a1' s1 s1' e1 e1' v1 h1 => ?_) (fun _ _ => by (exact un_au)) (fun _ _ => by (exact un_au))
    have l1 := run_left _ _ e1
    have l1' := run_left _ _ e1'
    simp only [takes, if_true] at l1 l1'
    exact sim_run k k' _ _ (by simp only [rank]; omega) (by simp only [rank]; omega) (.loop _ _ _ _ hl v1) h1
  | k + 1, k' + 1, .loop l m n, .loop _ _ n', s, s', hk, hk', .loop _ _ _ _ hl hn, h => by
    simp only [rank] at hk hk'
    rcases sim_cases h with L | hd
    rotate_left
    · exact rel_dv hd (by (exact un_au)) (by (exact un_au))
    rw [run, run]
    rw [← L.text]
    by_cases hc : level (text p.E s) < l ∨ m < level (text p.E s)
    · rw [if_pos hc, if_pos hc]
      exact rel_ok hn h
    · rw [if_neg hc, if_neg hc]
      have ht : text p.E s ≠ [] := level_pos (by omega)
      have := text_left ht
      have := text_left (E := p.F) (s := s') (by rw [← L.text]; exact ht)
      have hp : 1 ≤ leastOnTheRight (level (text p.E s)) := lor_pos (by omega)
      refine rel_bind (sim_run k k' (.bin _) (.bin _) (by simp only [rank]; omega) (by simp only [rank]; omega) (.bin _ hp) L.next) (fun a1 a1' s1 s1' e1 e1' v1 h1 => ?_) (fun _ _ => by (exact un_au)) (fun _ _ => by (exact un_au))
      have l1 := run_left _ _ e1
      have l1' := run_left _ _ e1'
      simp only [takes, if_true] at l1 l1'
      exact sim_run k k' _ _ (by simp only [rank]; omega) (by simp only [rank]; omega) (.loop _ _ _ _ hl (relT_mk L.off (relL_cons hn (relL_cons v1 (relL_nil _))))) h1
  | k + 1, k' + 1, .unary, _, s, s', hk, hk', .unary, h => by
    simp only [rank] at hk hk'
    rcases sim_cases h with L | hd
    rotate_left
    · exact rel_dv hd (by (exact un_au)) (by (exact un_au))
    rw [run, run, L.acc, L.acc, L.acc, ← L.kind]
    by_cases hc : accepts p.E [33] s = true
    · rw [if_pos hc, if_pos hc]
      have := acc_left hc (by decide)
      have := acc_left (E := p.F) ((L.acc _).trans hc) (by decide)
      refine rel_bind (sim_run k k' .unary .unary (by simp only [rank]; omega) (by simp only [rank]; omega) .unary L.next) (fun a1 a1' s1 s1' e1 e1' v1 h1 => ?_) (fun _ _ => by (exact un_au)) (fun _ _ => by (exact un_au))
      exact rel_ok (relT_mk L.off (relL_cons v1 (relL_nil _))) h1
    rw [if_neg hc, if_neg hc]
    clear hc
    by_cases hc : accepts p.E [111, 108, 100] s = true
    · rw [if_pos hc, if_pos hc]
      have := acc_left hc (by decide)
      have := acc_left (E := p.F) ((L.acc _).trans hc) (by decide)
      refine rel_bind (sim_expect _ L.next) (fun a1 a1' s1 s1' e1 e1' v1 h1 => ?_) (fun _ _ => by (exact un_au)) (fun _ _ => by (exact un_au))
      have := expect_left e1 (by decide)
      have := expect_left e1' (by decide)
      refine rel_bind (sim_run k k' .ref .ref (by simp only [rank]; omega) (by simp only [rank]; omega) .ref h1) (fun a2 a2' s2 s2' e2 e2' v2 h2 => ?_) (fun _ _ => by (exact un_au)) (fun _ _ => by (exact un_au))
      refine rel_bind (sim_expect _ h2) (fun a3 a3' s3 s3' e3 e3' v3 h3 => ?_) (fun _ _ => by (exact un_au)) (fun _ _ => by (exact un_au))
      exact rel_ok (relT_mk L.off (relL_cons v2 (relL_nil _))) h3
    rw [if_neg hc, if_neg hc]
    clear hc
    by_cases hc : accepts p.E [40] s = true
    · rw [if_pos hc, if_pos hc]
      have := acc_left hc (by decide)
      have := acc_left (E := p.F) ((L.acc _).trans hc) (by decide)
      refine rel_bind (sim_run k k' .expr .expr (by simp only [rank]; omega) (by simp only [rank]; omega) .expr L.next) (fun a1 a1' s1 s1' e1 e1' v1 h1 => ?_) (fun _ _ => by (exact un_au)) (fun _ _ => by (exact un_au))
      refine rel_bind (sim_expect _ h1) (fun a2 a2' s2 s2' e2 e2' v2 h2 => ?_) (fun _ _ => by (exact un_au)) (fun _ _ => by (exact un_au))
      exact rel_ok v1 h2
    rw [if_neg hc, if_neg hc]
    clear hc
    by_cases hc : kindOf p.E s = 2
    · rw [if_pos hc, if_pos hc]
      exact sim_numeral h
    · rw [if_neg hc, if_neg hc]
      exact sim_run k k' .ref .ref (by simp only [rank]; omega) (by simp only [rank]; omega) .ref h
  | k + 1, k' + 1, .ref, _, s, s', hk, hk', .ref, h => by
    simp only [rank] at hk hk'
    rw [run, run]
    refine rel_bind (sim_pvar h) (fun a1 a1' s1 s1' e1 e1' v1 h1 => ?_) (fun _ _ => by (exact un_au)) (fun _ _ => by (exact un_au))
    have := pvar_left e1
    have := pvar_left e1'
    rcases sim_cases h1 with L | hd
    rotate_left
    · exact rel_dv hd (by (exact un_au)) (by (exact un_au))
    rw [L.acc]
    by_cases hc : accepts p.E [91] s1 = true
    · rw [if_pos hc, if_pos hc]
      have := acc_left hc (by decide)
      have := acc_left (E := p.F) ((L.acc _).trans hc) (by decide)
      refine rel_bind (sim_run k k' .expr .expr (by simp only [rank]; omega) (by simp only [rank]; omega) .expr L.next) (fun a2 a2' s2 s2' e2 e2' v2 h2 => ?_) (fun _ _ => by (exact un_au)) (fun _ _ => by (exact un_au))
      refine rel_bind (sim_expect _ h2) (fun a3 a3' s3 s3' e3 e3' v3 h3 => ?_) (fun _ _ => by (exact un_au)) (fun _ _ => by (exact un_au))
      rw [relT_name v1]
      exact rel_ok (relT_mk (relT_off v1) (relL_cons v2 (relL_nil _))) h3
    · rw [if_neg hc, if_neg hc]
      exact rel_ok v1 h1
end Go.Proofs.YtbgpboiblggmiaaGreatDoor.Px

/-
  Two runs of the plain parser side by side: lists of parts, assignments, statements without blocks.
-/
namespace Go.Proofs.YtbgpboiblggmiaaGreatDoor.Px
variable {p : Par}

theorem sim_expr {s s' : St} (h : Sim p s s') : Rel p (RelT p.ρ) (expr p.E s) (expr p.F s') :=
  sim_run _ _ .expr .expr (by show 6 * s.toks.length + 5 < fuel s; unfold fuel; omega) (by show 6 * s'.toks.length + 5 < fuel s'; unfold fuel; omega) .expr h
theorem sim_refr {s s' : St} (h : Sim p s s') : Rel p (RelT p.ρ) (refr p.E s) (refr p.F s') :=
  sim_run _ _ .ref .ref (by show 6 * s.toks.length + 1 < fuel s; unfold fuel; omega) (by show 6 * s'.toks.length + 1 < fuel s'; unfold fuel; omega) .ref h
theorem sim_sepGo {part part' : St → Res T} (hu : ∀ s, Un p.E (PX p.E) (part s) s) (hu' : ∀ s, Un p.F (PX p.F) (part' s) s)
    (hp : ∀ {s s'}, Sim p s s' → Rel p (RelT p.ρ) (part s) (part' s')) : ∀ (k k' : Nat) (l l' : List T) {s s' : St}, left s + 1 ≤ k → left s' + 1 ≤ k' → RelL p.ρ l l' → Sim p s s' →
    Rel p (RelL p.ρ) (sepGo p.E part k l s) (sepGo p.F part' k' l' s')
  | 0, _, _, _, _, _, hk, _, _, _ => absurd hk (by omega)
  | _ + 1, 0, _, _, _, _, _, hk, _, _ => absurd hk (by omega)
  | k + 1, k' + 1, l, l', s, s', hk, hk', hl, h => by
    rcases sim_cases h with L | hd
    rotate_left
    · exact rel_dv hd (by (exact un_au)) (by (exact un_au))
    rw [sepGo, sepGo, L.acc]
    by_cases hc : accepts p.E [44] s = true
    · rw [if_pos hc, if_pos hc]
      have l1 := acc_left hc (by decide)
      have l1' := acc_left (E := p.F) ((L.acc _).trans hc) (by decide)
      refine rel_bind (hp L.next) (fun a1 a1' s1 s1' e1 e1' v1 h1 => ?_) (fun _ _ => by (exact un_au)) (fun _ _ => by (exact un_au))
      have l2 : left s1 ≤ left (rest s) := by have := (hu (rest s)).1.1; rw [e1] at this; exact this.length_le
      have l2' : left s1' ≤ left (rest s') := by have := (hu' (rest s')).1.1; rw [e1'] at this; exact this.length_le
      exact sim_sepGo hu hu' hp k k' _ _ (by omega) (by omega) (relL_snoc _ _ hl v1) h1
    · rw [if_neg hc, if_neg hc]
      exact rel_ok hl h
theorem sim_separated {part part' : St → Res T} (hu : ∀ s, Un p.E (PX p.E) (part s) s) (hu' : ∀ s, Un p.F (PX p.F) (part' s) s)
    (hp : ∀ {s s'}, Sim p s s' → Rel p (RelT p.ρ) (part s) (part' s')) {s s' : St} (h : Sim p s s') : Rel p (RelL p.ρ) (separated p.E part s) (separated p.F part' s') := by
  unfold separated
  refine rel_bind (hp h) (fun a1 a1' s1 s1' e1 e1' v1 h1 => ?_) (fun _ _ => by (exact un_au)) (fun _ _ => by (exact un_au))
  exact sim_sepGo hu hu' hp _ _ _ _ (Nat.le_refl _) (Nat.le_refl _) (relL_cons v1 (relL_nil _)) h1
theorem sim_tuple {part part' : St → Res T} (hu : ∀ s, Un p.E (PX p.E) (part s) s) (hu' : ∀ s, Un p.F (PX p.F) (part' s) s)
    (hp : ∀ {s s'}, Sim p s s' → Rel p (RelT p.ρ) (part s) (part' s')) {s s' : St} (h : Sim p s s') : Rel p (RelL p.ρ) (tuple p.E part s) (tuple p.F part' s') := by
  unfold tuple
  refine rel_bind (sim_expect _ h) (fun a1 a1' s1 s1' e1 e1' v1 h1 => ?_) (fun _ _ => by (exact un_au)) (fun _ _ => by (exact un_au))
  rcases sim_cases h1 with L | hd
  rotate_left
  · exact rel_dv hd (by (exact un_au)) (by (exact un_au))
  rw [L.acc]
  by_cases hc : accepts p.E [41] s1 = true
  · rw [if_pos hc, if_pos hc]
    exact rel_ok (relL_nil _) L.next
  · rw [if_neg hc, if_neg hc]
    refine rel_bind (sim_separated hu hu' hp h1) (fun a2 a2' s2 s2' e2 e2' v2 h2 => ?_) (fun _ _ => by (exact un_au)) (fun _ _ => by (exact un_au))
    refine rel_bind (sim_expect _ h2) (fun a3 a3' s3 s3' e3 e3' v3 h3 => ?_) (fun _ _ => by (exact un_au)) (fun _ _ => by (exact un_au))
    exact rel_ok v2 h3
theorem sim_assign {l l' : List T} (hl : RelL p.ρ l l') {s s' : St} (h : Sim p s s') : Rel p (RelL p.ρ) (assign p.E l s) (assign p.F l' s') := by
  unfold assign
  refine rel_bind (sim_refr h) (fun a1 a1' s1 s1' e1 e1' v1 h1 => ?_) (fun _ _ => by (exact un_au)) (fun _ _ => by (exact un_au))
  refine rel_bind (sim_expect _ h1) (fun a2 a2' s2 s2' e2 e2' v2 h2 => ?_) (fun _ _ => by (exact un_au)) (fun _ _ => by (exact un_au))
  refine rel_bind (sim_expr h2) (fun a3 a3' s3 s3' e3 e3' v3 h3 => ?_) (fun _ _ => by (exact un_au)) (fun _ _ => by (exact un_au))
  refine rel_ok ?_ h3
  rw [show l ++ [a1, a3] = (l ++ [a1]) ++ [a3] by simp, show l' ++ [a1', a3'] = (l' ++ [a1']) ++ [a3'] by simp]
  exact relL_snoc _ _ (relL_snoc _ _ hl v1) v3
theorem sim_assignsGo : ∀ (k k' : Nat) (l l' : List T) {s s' : St}, left s + 1 ≤ k → left s' + 1 ≤ k' → RelL p.ρ l l' → Sim p s s' → Rel p (RelL p.ρ) (assignsGo p.E k l s) (assignsGo p.F k' l' s')
  | 0, _, _, _, _, _, hk, _, _, _ => absurd hk (by omega)
  | _ + 1, 0, _, _, _, _, _, hk, _, _ => absurd hk (by omega)
  | k + 1, k' + 1, l, l', s, s', hk, hk', hl, h => by
    rcases sim_cases h with L | hd
    rotate_left
    · exact rel_dv hd (by (exact un_au)) (by (exact un_au))
    rw [assignsGo, assignsGo, L.acc]
    by_cases hc : accepts p.E [44] s = true
    · rw [if_pos hc, if_pos hc]
      have l1 := acc_left hc (by decide)
      have l1' := acc_left (E := p.F) ((L.acc _).trans hc) (by decide)
      refine rel_bind (sim_assign hl L.next) (fun a1 a1' s1 s1' e1 e1' v1 h1 => ?_) (fun _ _ => by (exact un_au)) (fun _ _ => by (exact un_au))
      have l2 := suf_left (suf_assign (E := p.E) l (rest s)) e1
      have l2' := suf_left (suf_assign (E := p.F) l' (rest s')) e1'
      exact sim_assignsGo k k' _ _ (by omega) (by omega) v1 h1
    · rw [if_neg hc, if_neg hc]
      exact rel_ok hl h
theorem sim_assigns {l l' : List T} (hl : RelL p.ρ l l') {s s' : St} (h : Sim p s s') : Rel p (RelL p.ρ) (assigns p.E l s) (assigns p.F l' s') := by
  unfold assigns
  refine rel_bind (sim_assign hl h) (fun a1 a1' s1 s1' e1 e1' v1 h1 => ?_) (fun _ _ => by (exact un_au)) (fun _ _ => by (exact un_au))
  exact sim_assignsGo _ _ _ _ (Nat.le_refl _) (Nat.le_refl _) v1 h1
theorem sim_withs {l l' : List T} (hl : RelL p.ρ l l') {s s' : St} (h : Sim p s s') : Rel p (RelL p.ρ) (withs p.E l s) (withs p.F l' s') := by
  rcases sim_cases h with L | hd
  rotate_left
  · exact rel_dv hd (by (exact un_au)) (by (exact un_au))
  unfold withs
  rw [L.acc]
  split
  · exact sim_assigns hl L.next
  · exact rel_ok hl h

theorem sim_claim (q : Int) {s s' : St} (L : Live p s s') : Rel p (RelT p.ρ) (claim p.E q s) (claim p.F q s') := by
  unfold claim
  refine rel_bind (sim_expr L.next) (fun a1 a1' s1 s1' e1 e1' v1 h1 => ?_) (fun _ _ => by (exact un_au)) (fun _ _ => by (exact un_au))
  refine rel_bind (sim_expect _ h1) (fun a2 a2' s2 s2' e2 e2' v2 h2 => ?_) (fun _ _ => by (exact un_au)) (fun _ _ => by (exact un_au))
  exact rel_ok (relT_mk L.off (relL_cons v1 (relL_nil _))) h2
theorem sim_bare (q : Int) {s s' : St} (L : Live p s s') : Rel p (RelT p.ρ) (bare p.E q s) (bare p.F q s') := by
  unfold bare
  refine rel_bind (sim_expect _ L.next) (fun a1 a1' s1 s1' e1 e1' v1 h1 => ?_) (fun _ _ => by (exact un_au)) (fun _ _ => by (exact un_au))
  exact rel_ok (relT_mk L.off (relL_nil _)) h1
theorem sim_named (q : Int) {m m' : St → Res Str} (hm : ∀ {s s'}, Sim p s s' → Rel p Eq (m s) (m' s')) {s s' : St} (L : Live p s s') : Rel p (RelT p.ρ) (named p.E q m s) (named p.F q m' s') := by
  unfold named
  refine rel_bind (hm L.next) (fun a1 a1' s1 s1' e1 e1' v1 h1 => ?_) (fun _ _ => by (exact un_au)) (fun _ _ => by (exact un_au))
  refine rel_bind (sim_expect _ h1) (fun a2 a2' s2 s2' e2 e2' v2 h2 => ?_) (fun _ _ => by (exact un_au)) (fun _ _ => by (exact un_au))
  rw [v1]
  exact rel_ok (relT_mk L.off (relL_nil _)) h2
theorem sim_accepted (x : Str) {s s' : St} (L : Live p s s') : Sim p (accepted p.E x s) (accepted p.F x s') := by
  unfold accepted
  rw [L.acc]
  split
  · exact L.next
  · exact L.sim
theorem sim_assignment {s s' : St} (L : Live p s s') : Rel p (RelT p.ρ) (assignment p.E s) (assignment p.F s') := by
  unfold assignment
  refine rel_bind (sim_assign (relL_nil _) (sim_accepted _ L)) (fun a1 a1' s1 s1' e1 e1' v1 h1 => ?_) (fun _ _ => by (exact un_au)) (fun _ _ => by (exact un_au))
  refine rel_bind (sim_withs v1 h1) (fun a2 a2' s2 s2' e2 e2' v2 h2 => ?_) (fun _ _ => by (exact un_au)) (fun _ _ => by (exact un_au))
  refine rel_bind (sim_expect _ h2) (fun a3 a3' s3 s3' e3 e3' v3 h3 => ?_) (fun _ _ => by (exact un_au)) (fun _ _ => by (exact un_au))
  rw [L.acc]
  exact rel_ok (relT_mk L.off v2) h3
theorem rel_none {s s' : St} (L : Live p s s') : RelT p.ρ (none (offOf p.E s)) (none (offOf p.F s')) := relT_mk L.off (relL_nil _)
theorem sim_cas {s s' : St} (L : Live p s s') : Rel p (RelT p.ρ) (cas p.E s) (cas p.F s') := by
  unfold cas
  refine rel_bind (sim_refr L.next) (fun a1 a1' s1 s1' e1 e1' v1 h1 => ?_) (fun _ _ => by (exact un_au)) (fun _ _ => by (exact un_au))
  refine rel_bind (sim_expect _ h1) (fun a2 a2' s2 s2' e2 e2' v2 h2 => ?_) (fun _ _ => by (exact un_au)) (fun _ _ => by (exact un_au))
  refine rel_bind (sim_expr h2) (fun a3 a3' s3 s3' e3 e3' v3 h3 => ?_) (fun _ _ => by (exact un_au)) (fun _ _ => by (exact un_au))
  refine rel_bind (sim_expect _ h3) (fun a4 a4' s4 s4' e4 e4' v4 h4 => ?_) (fun _ _ => by (exact un_au)) (fun _ _ => by (exact un_au))
  refine rel_bind (sim_expr h4) (fun a5 a5' s5 s5' e5 e5' v5 h5 => ?_) (fun _ _ => by (exact un_au)) (fun _ _ => by (exact un_au))
  refine rel_bind (sim_expect _ h5) (fun a6 a6' s6 s6' e6 e6' v6 h6 => ?_) (fun _ _ => by (exact un_au)) (fun _ _ => by (exact un_au))
  refine rel_bind (sim_refr h6) (fun a7 a7' s7 s7' e7 e7' v7 h7 => ?_) (fun _ _ => by (exact un_au)) (fun _ _ => by (exact un_au))
  have hl : RelL p.ρ [a1, a3, a5, a7] [a1', a3', a5', a7'] := relL_cons v1 (relL_cons v3 (relL_cons v5 (relL_cons v7 (relL_nil _))))
  refine rel_bind (sim_withs hl h7) (fun a8 a8' s8 s8' e8 e8' v8 h8 => ?_) (fun _ _ => by (exact un_au)) (fun _ _ => by (exact un_au))
  refine rel_bind (sim_expect _ h8) (fun a9 a9' s9 s9' e9 e9' v9 h9 => ?_) (fun _ _ => by (exact un_au)) (fun _ _ => by (exact un_au))
  exact rel_ok (relT_mk L.off v8) h9
theorem sim_call {s s' : St} (L : Live p s s') : Rel p (RelT p.ρ) (call p.E s) (call p.F s') := by
  unfold call
  refine rel_bind (sim_path L.next) (fun a1 a1' s1 s1' e1 e1' v1 h1 => ?_) (fun _ _ => by (exact un_au)) (fun _ _ => by (exact un_au))
  refine rel_bind (sim_tuple (un_expr (px _)) (un_expr (px _)) sim_expr h1) (fun a2 a2' s2 s2' e2 e2' v2 h2 => ?_) (fun _ _ => by (exact un_au)) (fun _ _ => by (exact un_au))
  refine rel_bind (sim_expect _ h2) (fun a3 a3' s3 s3' e3 e3' v3 h3 => ?_) (fun _ _ => by (exact un_au)) (fun _ _ => by (exact un_au))
  rw [v1]
  exact rel_ok (relT_mk L.off v2) h3
theorem sim_typed {s s' : St} (h : Sim p s s') : Rel p Eq (typed p.E s) (typed p.F s') := by
  unfold typed
  refine rel_bind (sim_name h) (fun a1 a1' s1 s1' e1 e1' v1 h1 => ?_) (fun _ _ => by (exact un_au)) (fun _ _ => by (exact un_au))
  refine rel_bind (sim_expect _ h1) (fun a2 a2' s2 s2' e2 e2' v2 h2 => ?_) (fun _ _ => by (exact un_au)) (fun _ _ => by (exact un_au))
  refine rel_bind (sim_number h2) (fun a3 a3' s3 s3' e3 e3' v3 h3 => ?_) (fun _ _ => by (exact un_au)) (fun _ _ => by (exact un_au))
  rw [v1, v3]
  exact rel_ok rfl h3
theorem sim_plocal {s s' : St} (L : Live p s s') : Rel p (RelT p.ρ) (plocal p.E s) (plocal p.F s') := by
  unfold plocal
  refine rel_bind (sim_expect _ (sim_accepted _ L)) (fun a1 a1' s1 s1' e1 e1' v1 h1 => ?_) (fun _ _ => by (exact un_au)) (fun _ _ => by (exact un_au))
  refine rel_bind (sim_typed h1) (fun a2 a2' s2 s2' e2 e2' v2 h2 => ?_) (fun _ _ => by (exact un_au)) (fun _ _ => by (exact un_au))
  refine rel_bind (sim_expect _ h2) (fun a3 a3' s3 s3' e3 e3' v3 h3 => ?_) (fun _ _ => by (exact un_au)) (fun _ _ => by (exact un_au))
  rw [v2, L.acc]
  exact rel_ok (relT_mk L.off (relL_nil _)) h3
theorem sim_field {s s' : St} (h : Sim p s s') : Rel p (RelT p.ρ) (field p.E s) (field p.F s') := by
  rcases sim_cases h with L | hd
  rotate_left
  · exact rel_dv hd (uns_field (px _) _) (uns_field (px _) _)
  unfold field
  refine rel_bind (sim_typed h) (fun a2 a2' s2 s2' e2 e2' v2 h2 => ?_) (fun _ _ => by (exact un_au)) (fun _ _ => by (exact un_au))
  refine rel_bind (sim_expect _ h2) (fun a3 a3' s3 s3' e3 e3' v3 h3 => ?_) (fun _ _ => by (exact un_au)) (fun _ _ => by (exact un_au))
  rw [v2]
  exact rel_ok (relT_mk L.off (relL_nil _)) h3
theorem sim_param {s s' : St} (h : Sim p s s') : Rel p (RelT p.ρ) (param p.E s) (param p.F s') := by
  rcases sim_cases h with L | hd
  rotate_left
  · exact rel_dv hd (by (exact un_au)) (by (exact un_au))
  unfold param
  refine rel_bind (sim_typed h) (fun a2 a2' s2 s2' e2 e2' v2 h2 => ?_) (fun _ _ => by (exact un_au)) (fun _ _ => by (exact un_au))
  rw [v2]
  exact rel_ok (relT_mk L.off (relL_nil _)) h2
theorem sim_atomic {s s' : St} (L : Live p s s') : Rel p (RelT p.ρ) (atomic p.E s) (atomic p.F s') := by
  unfold atomic
  refine rel_bind (sim_expect _ L.next) (fun a1 a1' s1 s1' e1 e1' v1 h1 => ?_) (fun _ _ => by (exact un_au)) (fun _ _ => by (exact un_au))
  refine rel_bind (V := RelL p.ρ) ?_ (fun a2 a2' s2 s2' e2 e2' v2 h2 => ?_) (fun _ _ => by (exact un_au)) (fun _ _ => by (exact un_au))
  · rcases sim_cases h1 with L1 | hd
    rotate_left
    · exact rel_dv hd (by (exact un_au)) (by (exact un_au))
    rw [L1.acc]
    split
    · exact rel_ok (relL_cons (rel_none L) (relL_nil _)) (h1.set 1)
    · exact sim_assigns (relL_cons (rel_none L) (relL_nil _)) (h1.set 1)
  refine rel_bind (sim_expect _ h2) (fun a3 a3' s3 s3' e3 e3' v3 h3 => ?_) (fun _ _ => by (exact un_au)) (fun _ _ => by (exact un_au))
  refine rel_bind (V := RelL p.ρ) ?_ (fun a4 a4' s4 s4' e4 e4' v4 h4 => ?_) (fun _ _ => by (exact un_au)) (fun _ _ => by (exact un_au))
  · rcases sim_cases h3 with L3 | hd
    rotate_left
    · exact rel_dv hd (by (exact un_au)) (by (exact un_au))
    rw [L3.acc]
    split
    · refine rel_bind (sim_expr (L3.next.set 0)) (fun a5 a5' s5 s5' e5 e5' v5 h5 => ?_) (fun _ _ => by (exact un_au)) (fun _ _ => by (exact un_au))
      exact rel_ok (relL_cons v5 (relL_tail v2)) h5
    · exact rel_ok v2 (h3.set 0)
  refine rel_bind (sim_expect _ h4) (fun a6 a6' s6 s6' e6 e6' v6 h6 => ?_) (fun _ _ => by (exact un_au)) (fun _ _ => by (exact un_au))
  exact rel_ok (relT_mk L.off v4) h6
end Go.Proofs.YtbgpboiblggmiaaGreatDoor.Px

/-
  Two runs of the plain parser side by side: recovery, lists, statements, declarations, units.
-/
namespace Go.Proofs.YtbgpboiblggmiaaGreatDoor.Px
open Lx (Tok)
variable {p : Par}

theorem skip_sim (q : Bool) : ∀ (c c' : List Tok) (b : Int), RelC p.ρ c c' →
    (∃ d d', RelC p.ρ d d' ∧ skipGo q (c ++ p.x) b = d ++ p.x ∧ skipGo q (c' ++ p.y) b = d' ++ p.y) ∨ (¬ p.same ∧ skipGo q (c ++ p.x) b <:+ p.x ∧ skipGo q (c' ++ p.y) b <:+ p.y)
  | [], [], b, h => by
    by_cases hs : p.same
    · left
      refine ⟨[], [], h, ?_, ?_⟩
      · rw [hs.1]; rfl
      · rw [hs.2.1]; rfl
    · exact .inr ⟨hs, skip_suf _ _ _, skip_suf _ _ _⟩
  | [], _ :: _, _, h => by unfold RelC at h; exact h.elim
  | _ :: _, [], _, h => by unfold RelC at h; exact h.elim
  | t :: r, t' :: r', b, h => by
    have h0 := h
    unfold RelC at h
    obtain ⟨⟨_, ht, _⟩, hr⟩ := h
    have ih := fun b => skip_sim q r r' b hr
    rw [List.cons_append, List.cons_append, skipGo.eq_def q (t :: _), skipGo.eq_def q (t' :: _)]
    simp only
    rw [← ht]
    by_cases h1 : (q && b == 0 && t.text == [125]) = true
    · rw [if_pos h1, if_pos h1]
      exact .inl ⟨t :: r, t' :: r', h0, rfl, rfl⟩
    rw [if_neg h1, if_neg h1]
    by_cases h2 : t.text = [123]
    · rw [if_pos h2, if_pos h2]
      exact ih _
    rw [if_neg h2, if_neg h2]
    by_cases h3 : t.text = [125]
    · rw [if_pos h3, if_pos h3]
      by_cases h4 : b - 1 < 0
      · rw [if_pos h4, if_pos h4]
        exact .inl ⟨r, r', hr, rfl, rfl⟩
      rw [if_neg h4, if_neg h4]
      by_cases h5 : b - 1 = 0
      · rw [if_pos h5, if_pos h5]
        cases r with
        | nil =>
          cases r' with
          | cons _ _ => unfold RelC at hr; exact hr.elim
          | nil =>
            by_cases hs : p.same
            · left
              refine ⟨[], [], hr, ?_, ?_⟩
              · rw [hs.1]; rfl
              · rw [hs.2.1]; rfl
            · refine .inr ⟨hs, ?_, ?_⟩
              · cases p.x with
                | nil => exact List.suffix_refl _
                | cons u q =>
                  show (if u.text = [59] then q else u :: q) <:+ u :: q
                  split
                  · exact List.suffix_cons _ _
                  · exact List.suffix_refl _
              · cases p.y with
                | nil => exact List.suffix_refl _
                | cons u q =>
                  show (if u.text = [59] then q else u :: q) <:+ u :: q
                  split
                  · exact List.suffix_cons _ _
                  · exact List.suffix_refl _
        | cons u r =>
          cases r' with
          | nil => unfold RelC at hr; exact hr.elim
          | cons u' r' =>
            have hr0 := hr
            unfold RelC at hr
            simp only [List.cons_append]
            rw [← hr.1.2.1]
            split
            · exact .inl ⟨r, r', hr.2, rfl, rfl⟩
            · exact .inl ⟨u :: r, u' :: r', hr0, rfl, rfl⟩
      rw [if_neg h5, if_neg h5]
      exact ih _
    rw [if_neg h3, if_neg h3]
    by_cases h4 : t.text = [59] ∧ b = 0
    · rw [if_pos h4, if_pos h4]
      exact .inl ⟨r, r', hr, rfl, rfl⟩
    rw [if_neg h4, if_neg h4]
    exact ih _

def RelO (ρ : Int → Int → Prop) : Option T → Option T → Prop
  | .none, .none => True
  | some t, some t' => RelT ρ t t'
  | _, _ => False
theorem relL_more {ρ : Int → Int → Prop} {l l' : List T} {o o' : Option T} (h : RelL ρ l l') (ho : RelO ρ o o') : RelL ρ (more l o) (more l' o') := by
  cases o <;> cases o' <;> unfold RelO at ho
  · exact h
  · exact ho.elim
  · exact ho.elim
  · exact relL_snoc _ _ h ho
theorem st_item {E : Nat} {rd : St → Res T} (q : Bool) {s : St} (u : ∀ d s1, rd s = .bad d s1 → BadAt E d s1) : PX E (rd s).st (item rd q s).2 := by
  unfold item
  cases h : rd s with
  | ok t s1 => exact (px E).refl s1
  | bad d s1 => exact (px E).skip d s1 q (u d s1 h)
theorem report_ne (d : D) (l : List D) : report d l ≠ [] := by
  rcases report_cases d l with e | e
  · rw [e]; simp
  · intro h
    rw [h] at e
    subst e
    rw [show report d [] = [d] from rfl] at h
    cases h
theorem bad_item (ok : p.Ok) {rd rd' : St → Res T} (q : Bool) {s s' : St} {d d' : D} {s1 s1' : St} (e : rd s = .bad d s1) (e' : rd' s' = .bad d' s1') (he : d.err = d'.err) (ho : p.ρ d.off d'.off) (h1 : Sim p s1 s1') :
    (item rd q s).1 = .none ∧ (item rd' q s').1 = .none ∧ (Sim p (item rd q s).2 (item rd' q s').2 ∨ Dv p (item rd q s).2 (item rd' q s').2) := by
  obtain ⟨c, c', hc, q1, q2⟩ := h1.toks
  have hd : p.δ (report d s1.diags) (report d' s1'.diags) := by
    obtain ⟨x1, x2⟩ := d
    obtain ⟨y1, y2⟩ := d'
    simp only at he ho
    subst he
    exact ok.rep _ _ _ _ _ h1.diags ho
  unfold item
  rw [e, e']
  refine ⟨rfl, rfl, ?_⟩
  rcases skip_sim (p := p) q c c' s1.braces hc with ⟨d1, d1', r1, r2, r3⟩ | ⟨h2, h3, h4⟩
  · exact .inl ⟨⟨d1, d1', r1, by simp only; rw [q1]; exact r2, by simp only; rw [q2, ← h1.braces]; exact r3⟩, rfl, hd⟩
  · refine .inr ⟨h2, by simp only; rw [q1]; exact h3, by simp only; rw [q2, ← h1.braces]; exact h4, _, _, [], [], hd, by simp, by simp, by simp, by simp⟩
theorem sim_item (ok : p.Ok) {rd rd' : St → Res T} (q : Bool) {s s' : St} (h : Rel p (RelT p.ρ) (rd s) (rd' s')) :
    (RelO p.ρ (item rd q s).1 (item rd' q s').1 ∧ Sim p (item rd q s).2 (item rd' q s').2) ∨ Dv p (item rd q s).2 (item rd' q s').2 := by
  cases h with
  | ok a a' s1 s1' e e' v h1 =>
    left
    unfold item
    rw [e, e']
    exact ⟨v, h1⟩
  | bad d d' s1 s1' e e' he ho h1 =>
    obtain ⟨n1, n2, h⟩ := bad_item ok q e e' he ho h1
    rcases h with h | h
    · left; rw [n1, n2]; exact ⟨by unfold RelO; trivial, h⟩
    · exact .inr h
  | dv h1 u u' => exact .inr (h1.step (st_item q u) (st_item q u'))

/-- two runs of a reader that is not through when the end comes -/
def IsBad {α : Type} (r : Res α) : Prop := ∃ d s, r = .bad d s
inductive RelI (p : Par) {α β : Type} (V : α → β → Prop) (r : Res α) (r' : Res β) : Prop where
  | ok (a : α) (a' : β) (s s' : St) (e : r = .ok a s) (e' : r' = .ok a' s') (v : V a a') (h : Sim p s s')
  | bad (d d' : D) (s s' : St) (e : r = .bad d s) (e' : r' = .bad d' s') (he : d.err = d'.err) (ho : p.ρ d.off d'.off) (h : Sim p s s')
  | dv (h : Dv p r.st r'.st) (u : ∀ d s, r = .bad d s → BadAt p.E d s) (u' : ∀ d s, r' = .bad d s → BadAt p.F d s) (n : p.x = [] → IsBad r) (n' : p.y = [] → IsBad r')
theorem RelI.rel {α β : Type} {V : α → β → Prop} {r : Res α} {r' : Res β} (h : RelI p V r r') : Rel p V r r' := by
  cases h with
  | ok a a' s s' e e' v h => exact .ok a a' s s' e e' v h
  | bad d d' s s' e e' he ho h => exact .bad d d' s s' e e' he ho h
  | dv h u u' n n' => exact .dv h u u'
theorem reli_dv {α β : Type} {V : α → β → Prop} {r : Res α} {r' : Res β} {s s' : St} (h : Dv p s s') (u : Un p.E (PX p.E) r s) (u' : Un p.F (PX p.F) r' s') (n : s.toks = [] → IsBad r) (n' : s'.toks = [] → IsBad r') : RelI p V r r' :=
  .dv (h.step u.1 u'.1) u.2 u'.2 (fun e => n (List.suffix_nil.1 (e ▸ h.t1))) (fun e => n' (List.suffix_nil.1 (e ▸ h.t2)))
theorem nd_bind {α β : Type} {r : Res α} {f : α → St → Res β} (h : IsBad r) : IsBad (r.bind f) := by
  obtain ⟨d, s, rfl⟩ := h
  exact ⟨d, s, rfl⟩
theorem nd_expect {E : Nat} {x : Str} (hx : x ≠ []) {s : St} (h : s.toks = []) : IsBad (expect E x s) := by
  unfold expect accepts text peek
  rw [h]
  simp only
  rw [if_neg (by simp; exact hx)]
  exact ⟨_, _, rfl⟩
theorem nd_name {E : Nat} {s : St} (h : s.toks = []) : IsBad (name E s) := by
  unfold name kindOf peek
  rw [h]
  simp only
  rw [if_neg (by simp)]
  exact ⟨_, _, rfl⟩
theorem nd_path {E : Nat} {s : St} (h : s.toks = []) : IsBad (path E s) := by unfold path; exact nd_bind (nd_name h)
theorem nd_tuple {E : Nat} {part : St → Res T} {s : St} (h : s.toks = []) : IsBad (tuple E part s) := by unfold tuple; exact nd_bind (nd_expect (by decide) h)
theorem nd_list {E : Nat} {rd : St → Res T} {s : St} (h : s.toks = []) : IsBad (list E rd s) := by unfold list; exact nd_bind (nd_expect (by decide) h)
theorem nd_listGo {E : Nat} {rd : St → Res T} (k : Nat) (l : List T) {s : St} (h : s.toks = []) : IsBad (listGo E rd k l s) := by
  cases k with
  | zero => rw [listGo]; exact ⟨_, _, rfl⟩
  | succ k =>
    rw [listGo]
    unfold accepts text peek
    rw [h]
    simp only
    rw [if_neg (by simp)]
    exact ⟨_, _, rfl⟩
theorem reli_bind_l {α β γ κ : Type} {V : α → β → Prop} {W : γ → κ → Prop} {r : Res α} {r' : Res β} {f : α → St → Res γ} {f' : β → St → Res κ} (h : Rel p V r r')
    (hf : ∀ a a' s s', r = .ok a s → r' = .ok a' s' → V a a' → Sim p s s' → RelI p W (f a s) (f' a' s'))
    (hu : ∀ a s, Un p.E (PX p.E) (f a s) s) (hu' : ∀ a s, Un p.F (PX p.F) (f' a s) s) (n : ∀ a s, s.toks = [] → IsBad (f a s)) (n' : ∀ a s, s.toks = [] → IsBad (f' a s)) : RelI p W (r.bind f) (r'.bind f') := by
  cases h with
  | ok a a' s s' e e' v h => have := hf a a' s s' e e' v h; rw [e, e']; exact this
  | bad d d' s s' e e' he ho h => rw [e, e']; exact .bad d d' s s' rfl rfl he ho h
  | dv h u u' =>
    cases r with
    | ok a s =>
      cases r' with
      | ok a' s' => exact reli_dv h (hu a s) (hu' a' s') (n a s) (n' a' s')
      | bad d' s' => exact reli_dv h (hu a s) ⟨(px _).refl _, fun d1 s1 e => by cases e; exact u' _ _ rfl⟩ (n a s) (fun _ => ⟨d', s', rfl⟩)
    | bad d s =>
      cases r' with
      | ok a' s' => exact reli_dv h ⟨(px _).refl _, fun d1 s1 e => by cases e; exact u _ _ rfl⟩ (hu' a' s') (fun _ => ⟨d, s, rfl⟩) (n' a' s')
      | bad d' s' => exact reli_dv h ⟨(px _).refl _, fun d1 s1 e => by cases e; exact u _ _ rfl⟩ ⟨(px _).refl _, fun d1 s1 e => by cases e; exact u' _ _ rfl⟩ (fun _ => ⟨d, s, rfl⟩) (fun _ => ⟨d', s', rfl⟩)
theorem reli_bind {α β γ κ : Type} {V : α → β → Prop} {W : γ → κ → Prop} {r : Res α} {r' : Res β} {f : α → St → Res γ} {f' : β → St → Res κ} (h : RelI p V r r')
    (hf : ∀ a a' s s', r = .ok a s → r' = .ok a' s' → V a a' → Sim p s s' → RelI p W (f a s) (f' a' s'))
    (hu : ∀ a s, Un p.E (PX p.E) (f a s) s) (hu' : ∀ a s, Un p.F (PX p.F) (f' a s) s) : RelI p W (r.bind f) (r'.bind f') := by
  cases h with
  | ok a a' s s' e e' v h => have := hf a a' s s' e e' v h; rw [e, e']; exact this
  | bad d d' s s' e e' he ho h => rw [e, e']; exact .bad d d' s s' rfl rfl he ho h
  | dv h u u' n n' =>
    have hb := rel_bind (W := W) (Rel.dv h u u' : Rel p V r r') (f := f) (f' := f') (fun a a' s s' e e' v h => (hf a a' s s' e e' v h).rel) hu hu'
    cases r with
    | ok a s =>
      cases r' with
      | ok a' s' =>
        have n0 : ¬ p.x = [] := fun e => by obtain ⟨d, s, e⟩ := n e; cases e
        have n0' : ¬ p.y = [] := fun e => by obtain ⟨d, s, e⟩ := n' e; cases e
        exact .dv (h.step (hu a s).1 (hu' a' s').1) (hu a s).2 (hu' a' s').2 (fun e => absurd e n0) (fun e => absurd e n0')
      | bad d' s' =>
        have n0 : ¬ p.x = [] := fun e => by obtain ⟨d, s, e⟩ := n e; cases e
        exact .dv (h.step (hu a s).1 ((px _).refl _)) (hu a s).2 (fun d1 s1 e => by cases e; exact u' _ _ rfl) (fun e => absurd e n0) (fun _ => ⟨d', s', rfl⟩)
    | bad d s =>
      cases r' with
      | ok a' s' =>
        have n0' : ¬ p.y = [] := fun e => by obtain ⟨d, s, e⟩ := n' e; cases e
        exact .dv (h.step ((px _).refl _) (hu' a' s').1) (fun d1 s1 e => by cases e; exact u _ _ rfl) (hu' a' s').2 (fun _ => ⟨d, s, rfl⟩) (fun e => absurd e n0')
      | bad d' s' => exact .dv h (fun d1 s1 e => by cases e; exact u _ _ rfl) (fun d1 s1 e => by cases e; exact u' _ _ rfl) (fun _ => ⟨d, s, rfl⟩) (fun _ => ⟨d', s', rfl⟩)
theorem reli_ok {α β : Type} {V : α → β → Prop} {a : α} {a' : β} {s s' : St} (v : V a a') (h : Sim p s s') : RelI p V (.ok a s) (.ok a' s') := .ok a a' s s' rfl rfl v h
theorem reli_wrong {α β : Type} {V : α → β → Prop} {s s' : St} (h : Live p s s') : RelI p V (wrong p.E s : Res α) (wrong p.F s' : Res β) := by
  have h1 := rel_wrong (V := V) h
  cases h1 with
  | ok a a' s s' e e' v h => cases e
  | bad d d' s s' e e' he ho h => exact .bad d d' s s' e e' he ho h
  | dv h u u' => exact .dv h u u' (fun _ => ⟨_, _, rfl⟩) (fun _ => ⟨_, _, rfl⟩)
theorem reli_expect (x : Str) (hx : x ≠ []) {s s' : St} (h : Sim p s s') : RelI p (fun _ _ => True) (expect p.E x s) (expect p.F x s') := by
  rcases sim_cases h with L | hd
  · unfold expect
    rw [L.acc x]
    split
    · exact reli_ok trivial L.next
    · exact reli_wrong L
  · exact reli_dv hd (un_expect (px _) _ _) (un_expect (px _) _ _) (nd_expect hx) (nd_expect hx)

theorem sim_item_i (ok : p.Ok) {rd rd' : St → Res T} (q : Bool) {s s' : St} (h : RelI p (RelT p.ρ) (rd s) (rd' s')) :
    (RelO p.ρ (item rd q s).1 (item rd' q s').1 ∧ Sim p (item rd q s).2 (item rd' q s').2) ∨
    (Dv p (item rd q s).2 (item rd' q s').2 ∧ (p.x = [] → (item rd q s).1 = .none) ∧ (p.y = [] → (item rd' q s').1 = .none)) := by
  cases h with
  | ok a a' s1 s1' e e' v h1 =>
    left
    unfold item
    rw [e, e']
    exact ⟨v, h1⟩
  | bad d d' s1 s1' e e' he ho h1 =>
    obtain ⟨n1, n2, h⟩ := bad_item ok q e e' he ho h1
    rcases h with h | h
    · left; rw [n1, n2]; exact ⟨by unfold RelO; trivial, h⟩
    · exact .inr ⟨h, fun _ => n1, fun _ => n2⟩
  | dv h1 u u' n n' =>
    refine .inr ⟨h1.step (st_item q u) (st_item q u'), fun e => ?_, fun e => ?_⟩
    · obtain ⟨d, s1, e⟩ := n e
      unfold item
      rw [e]
    · obtain ⟨d, s1, e⟩ := n' e
      unfold item
      rw [e]
theorem item_none {rd : St → Res T} {q : Bool} {s : St} (h : (item rd q s).1 = .none) : (item rd q s).2.diags ≠ [] := by
  unfold item at h ⊢
  cases hr : rd s with
  | ok t s1 => rw [hr] at h; cases h
  | bad d s1 => exact report_ne d s1.diags

theorem sim_listGo (ok : p.Ok) {rd rd' : St → Res T} (hu : Uns p.E (PX p.E) rd) (hu' : Uns p.F (PX p.F) rd') (ht : Takes rd) (ht' : Takes rd') (N N' : Nat)
    (hr : ∀ {s s'}, left s ≤ N → left s' ≤ N' → Sim p s s' → Rel p (RelT p.ρ) (rd s) (rd' s')) : ∀ (k k' : Nat) (l l' : List T) {s s' : St}, left s + 1 ≤ k → left s' + 1 ≤ k' → left s ≤ N → left s' ≤ N' → RelL p.ρ l l' → Sim p s s' →
    RelI p (RelL p.ρ) (listGo p.E rd k l s) (listGo p.F rd' k' l' s')
  | 0, _, _, _, _, _, hk, _, _, _, _, _ => absurd hk (by omega)
  | _ + 1, 0, _, _, _, _, _, hk, _, _, _, _ => absurd hk (by omega)
  | k + 1, k' + 1, l, l', s, s', hk, hk', hN, hN', hl, h => by
    rcases sim_cases h with L | hd
    rotate_left
    · exact reli_dv hd (un_listGo (px _) hu _ _ _) (un_listGo (px _) hu' _ _ _) (nd_listGo _ _) (nd_listGo _ _)
    rw [listGo, listGo, L.acc]
    by_cases hc : accepts p.E [125] s = true
    · rw [if_pos hc, if_pos hc]
      exact reli_ok hl L.next
    · rw [if_neg hc, if_neg hc]
      have hf : accepts p.E [125] s = false := by simpa using hc
      have hn := L.nil
      cases hs : s.toks with
      | nil => rw [hn.1 hs]; exact reli_wrong L
      | cons t r =>
        cases hs' : s'.toks with
        | nil => rw [hn.2 hs'] at hs; cases hs
        | cons t' r' =>
          simp only
          have l1 := item_left (E := p.E) ht (b := true) (s := s) (by rw [hs]; simp) (.inr hf)
          have l1' := item_left (E := p.F) ht' (b := true) (s := s') (by rw [hs']; simp) (.inr (by rw [L.acc]; exact hf))
          rcases sim_item ok true (hr hN hN' h) with ⟨ho, h1⟩ | h1
          · exact sim_listGo ok hu hu' ht ht' N N' hr k k' _ _ (by omega) (by omega) (by omega) (by omega) (relL_more hl ho) h1
          · exact reli_dv h1 (un_listGo (px _) hu _ _ _) (un_listGo (px _) hu' _ _ _) (nd_listGo _ _) (nd_listGo _ _)
theorem sim_list (ok : p.Ok) {rd rd' : St → Res T} (hu : Uns p.E (PX p.E) rd) (hu' : Uns p.F (PX p.F) rd') (ht : Takes rd) (ht' : Takes rd') (N N' : Nat)
    (hr : ∀ {s s'}, left s ≤ N → left s' ≤ N' → Sim p s s' → Rel p (RelT p.ρ) (rd s) (rd' s')) {s s' : St} (hN : left s ≤ N + 1) (hN' : left s' ≤ N' + 1) (h : Sim p s s') : RelI p (RelL p.ρ) (list p.E rd s) (list p.F rd' s') := by
  unfold list
  refine reli_bind_l (sim_expect _ h) (fun a a' s1 s1' e e' v h1 => ?_) (fun _ _ => un_listGo (px _) hu _ _ _) (fun _ _ => un_listGo (px _) hu' _ _ _) (fun _ _ => nd_listGo _ _) (fun _ _ => nd_listGo _ _)
  have := expect_left e (by decide)
  have := expect_left e' (by decide)
  exact sim_listGo ok hu hu' ht ht' N N' hr _ _ _ _ (Nat.le_refl _) (Nat.le_refl _) (by omega) (by omega) (relL_nil _) h1
theorem sim_block (ok : p.Ok) {rd rd' : St → Res T} (hu : Uns p.E (PX p.E) rd) (hu' : Uns p.F (PX p.F) rd') (ht : Takes rd) (ht' : Takes rd') (N N' : Nat)
    (hr : ∀ {s s'}, left s ≤ N → left s' ≤ N' → Sim p s s' → Rel p (RelT p.ρ) (rd s) (rd' s')) {s s' : St} (hN : left s ≤ N + 1) (hN' : left s' ≤ N' + 1) (h : Sim p s s') : RelI p (RelT p.ρ) (block p.E rd s) (block p.F rd' s') := by
  rcases sim_cases h with L | hd
  rotate_left
  · exact reli_dv hd (un_block (px _) hu _) (un_block (px _) hu' _) (fun e => by unfold block; exact nd_bind (nd_list e)) (fun e => by unfold block; exact nd_bind (nd_list e))
  unfold block
  exact reli_bind (sim_list ok hu hu' ht ht' N N' hr hN hN' h) (fun a a' s1 s1' e e' v h1 => reli_ok (relT_mk L.off v) h1) (fun _ _ => un_same (px _) _) (fun _ _ => un_same (px _) _)
end Go.Proofs.YtbgpboiblggmiaaGreatDoor.Px

/-
  Two runs of the plain parser side by side: statements, declarations, units.
-/
namespace Go.Proofs.YtbgpboiblggmiaaGreatDoor.Px
open Lx (Tok)
variable {p : Par}

theorem sim_branch (ok : p.Ok) {rd rd' : St → Res T} (hu : Uns p.E (PX p.E) rd) (hu' : Uns p.F (PX p.F) rd') (ht : Takes rd) (ht' : Takes rd') (N N' : Nat)
    (hr : ∀ {s s'}, left s ≤ N → left s' ≤ N' → Sim p s s' → Rel p (RelT p.ρ) (rd s) (rd' s')) {s s' : St} (hN : left s ≤ N + 2) (hN' : left s' ≤ N' + 2) (hc : left (rest s) + 1 = left s) (hc' : left (rest s') + 1 = left s') (L : Live p s s') :
    Rel p (RelT p.ρ) (branch p.E rd s) (branch p.F rd' s') := by
  unfold branch
  refine rel_bind (sim_expr L.next) (fun a1 a1' s1 s1' e1 e1' v1 h1 => ?_) (fun _ _ => by (exact un_au)) (fun _ _ => by (exact un_au))
  have l1 := suf_left (suf_expr (rest s)) e1
  have l1' := suf_left (suf_expr (rest s')) e1'
  refine rel_bind (sim_block ok hu hu' ht ht' N N' hr (by omega) (by omega) h1).rel (fun a2 a2' s2 s2' e2 e2' v2 h2 => ?_) (fun _ _ => by (exact un_au)) (fun _ _ => by (exact un_au))
  have l2 := suf_left (suf_block ht s1) e2
  have l2' := suf_left (suf_block ht' s1') e2'
  refine rel_bind (V := RelT p.ρ) ?_ (fun a3 a3' s3 s3' e3 e3' v3 h3 => ?_) (fun _ _ => by (exact un_au)) (fun _ _ => by (exact un_au))
  · rcases sim_cases h2 with L2 | hd
    rotate_left
    · exact rel_dv hd (by (exact un_au)) (by (exact un_au))
    rw [L2.acc]
    by_cases hc3 : accepts p.E [101, 108, 115, 101] s2 = true
    · rw [if_pos hc3, if_pos hc3]
      have := acc_left hc3 (by decide)
      have := acc_left (E := p.F) ((L2.acc _).trans hc3) (by decide)
      exact (sim_block ok hu hu' ht ht' N N' hr (by omega) (by omega) L2.next).rel
    · rw [if_neg hc3, if_neg hc3]
      exact rel_ok (relT_mk L.off (relL_nil _)) h2
  exact rel_ok (relT_mk L.off (relL_cons v1 (relL_cons v2 (relL_cons v3 (relL_nil _))))) h3
theorem sim_loop (ok : p.Ok) {rd rd' : St → Res T} (hu : Uns p.E (PX p.E) rd) (hu' : Uns p.F (PX p.F) rd') (ht : Takes rd) (ht' : Takes rd') (N N' : Nat)
    (hr : ∀ {s s'}, left s ≤ N → left s' ≤ N' → Sim p s s' → Rel p (RelT p.ρ) (rd s) (rd' s')) {s s' : St} (hN : left s ≤ N + 2) (hN' : left s' ≤ N' + 2) (hc : left (rest s) + 1 = left s) (hc' : left (rest s') + 1 = left s') (L : Live p s s') :
    Rel p (RelT p.ρ) (loop p.E rd s) (loop p.F rd' s') := by
  unfold loop
  refine rel_bind (sim_expr L.next) (fun a1 a1' s1 s1' e1 e1' v1 h1 => ?_) (fun _ _ => by (exact un_au)) (fun _ _ => by (exact un_au))
  have l1 := suf_left (suf_expr (rest s)) e1
  have l1' := suf_left (suf_expr (rest s')) e1'
  refine rel_bind (V := RelT p.ρ) ?_ (fun a2 a2' s2 s2' e2 e2' v2 h2 => ?_) (fun _ _ => by (exact un_au)) (fun _ _ => by (exact un_au))
  · rcases sim_cases h1 with L1 | hd
    rotate_left
    · exact rel_dv hd (by (exact un_au)) (by (exact un_au))
    rw [L1.acc]
    split
    · exact sim_expr L1.next
    · exact rel_ok (rel_none L) h1
  have l2 : left s2 ≤ left s1 := by
    split at e2
    · exact Nat.le_trans (suf_left (suf_expr (rest s1)) e2) (suf_rest s1).length_le
    · cases e2; exact Nat.le_refl _
  have l2' : left s2' ≤ left s1' := by
    split at e2'
    · exact Nat.le_trans (suf_left (suf_expr (rest s1')) e2') (suf_rest s1').length_le
    · cases e2'; exact Nat.le_refl _
  refine rel_bind (sim_block ok hu hu' ht ht' N N' hr (by omega) (by omega) h2).rel (fun a3 a3' s3 s3' e3 e3' v3 h3 => ?_) (fun _ _ => by (exact un_au)) (fun _ _ => by (exact un_au))
  exact rel_ok (relT_mk L.off (relL_cons v1 (relL_cons v2 (relL_cons v3 (relL_nil _))))) h3

set_option maxRecDepth 100000 in
set_option maxHeartbeats 1000000 in
theorem sim_statement (ok : p.Ok) : ∀ (k k' : Nat) {s s' : St}, left s + 1 ≤ k → left s' + 1 ≤ k' → Sim p s s' → Rel p (RelT p.ρ) (statement p.E k s) (statement p.F k' s')
  | 0, _, _, _, hk, _, _ => absurd hk (by omega)
  | _ + 1, 0, _, _, _, hk, _ => absurd hk (by omega)
  | k + 1, k' + 1, s, s', hk, hk', h => by
    rcases sim_cases h with L | hd
    rotate_left
    · exact rel_dv hd (uns_statement (px _) _ _) (uns_statement (px _) _ _)
    rw [statement, statement]
    simp only [L.acc]
    by_cases hc : accepts p.E [97, 115, 115, 101, 114, 116] s = true
    · rw [if_pos hc, if_pos hc]; exact sim_claim _ L
    rw [if_neg hc, if_neg hc]
    clear hc
    by_cases hc : accepts p.E [97, 119, 97, 105, 116] s = true
    · rw [if_pos hc, if_pos hc]; exact sim_claim _ L
    rw [if_neg hc, if_neg hc]
    clear hc
    by_cases hc : accepts p.E [102, 101, 110, 99, 101] s = true
    · rw [if_pos hc, if_pos hc]; exact sim_bare _ L
    rw [if_neg hc, if_neg hc]
    clear hc
    by_cases hc : accepts p.E [115, 107, 105, 112] s = true
    · rw [if_pos hc, if_pos hc]; exact sim_bare _ L
    rw [if_neg hc, if_neg hc]
    clear hc
    by_cases hc : accepts p.E [97, 116, 111, 109, 105, 99] s = true
    · rw [if_pos hc, if_pos hc]; exact sim_atomic L
    rw [if_neg hc, if_neg hc]
    clear hc
    by_cases hc : accepts p.E [99, 97, 115] s = true
    · rw [if_pos hc, if_pos hc]; exact sim_cas L
    rw [if_neg hc, if_neg hc]
    clear hc
    by_cases hc : accepts p.E [97, 99, 113, 117, 105, 114, 101] s = true
    · rw [if_pos hc, if_pos hc]; exact sim_named _ sim_path L
    rw [if_neg hc, if_neg hc]
    clear hc
    by_cases hc : accepts p.E [102, 114, 101, 101] s = true
    · rw [if_pos hc, if_pos hc]; exact sim_named _ sim_path L
    rw [if_neg hc, if_neg hc]
    clear hc
    by_cases hc : accepts p.E [115, 112, 97, 119, 110] s = true
    · rw [if_pos hc, if_pos hc]; exact sim_named _ sim_name L
    rw [if_neg hc, if_neg hc]
    clear hc
    by_cases hc : accepts p.E [106, 111, 105, 110] s = true
    · rw [if_pos hc, if_pos hc]; exact sim_named _ sim_name L
    rw [if_neg hc, if_neg hc]
    clear hc
    by_cases hc : accepts p.E [105, 102] s = true
    · rw [if_pos hc, if_pos hc]
      have l1 := acc_left hc (by decide)
      have l1' := acc_left (E := p.F) ((L.acc _).trans hc) (by decide)
      exact sim_branch ok (uns_statement (px _) k) (uns_statement (px _) k') (takes_statement k) (takes_statement k') (k - 1) (k' - 1) (fun h1 h2 h => sim_statement ok k k' (by omega) (by omega) h) (by omega) (by omega) l1 l1' L
    rw [if_neg hc, if_neg hc]
    clear hc
    by_cases hc : accepts p.E [119, 104, 105, 108, 101] s = true
    · rw [if_pos hc, if_pos hc]
      have l1 := acc_left hc (by decide)
      have l1' := acc_left (E := p.F) ((L.acc _).trans hc) (by decide)
      exact sim_loop ok (uns_statement (px _) k) (uns_statement (px _) k') (takes_statement k) (takes_statement k') (k - 1) (k' - 1) (fun h1 h2 h => sim_statement ok k k' (by omega) (by omega) h) (by omega) (by omega) l1 l1' L
    rw [if_neg hc, if_neg hc]
    clear hc
    by_cases hc : accepts p.E [99, 97, 108, 108] s = true
    · rw [if_pos hc, if_pos hc]; exact sim_call L
    rw [if_neg hc, if_neg hc]
    clear hc
    by_cases hc : accepts p.E [103, 104, 111, 115, 116] s = true ∨ accepts p.E [108, 111, 99, 97, 108] s = true
    · rw [if_pos hc, if_pos hc]; exact sim_plocal L
    · rw [if_neg hc, if_neg hc]; exact sim_assignment L
theorem sim_stmt (ok : p.Ok) {s s' : St} (h : Sim p s s') : Rel p (RelT p.ρ) (stmt p.E s) (stmt p.F s') := sim_statement ok _ _ (Nat.le_refl _) (Nat.le_refl _) h
theorem sim_record (ok : p.Ok) {s s' : St} (L : Live p s s') : Rel p (RelT p.ρ) (record p.E s) (record p.F s') := by
  unfold record
  refine rel_bind (sim_name L.next) (fun a1 a1' s1 s1' e1 e1' v1 h1 => ?_) (fun _ _ => by (exact un_au)) (fun _ _ => by (exact un_au))
  refine rel_bind (sim_list ok (uns_field (px _)) (uns_field (px _)) takes_field takes_field (left s1) (left s1') (fun _ _ h => sim_field h) (by omega) (by omega) h1).rel (fun a2 a2' s2 s2' e2 e2' v2 h2 => ?_) (fun _ _ => by (exact un_au)) (fun _ _ => by (exact un_au))
  rw [v1]
  exact rel_ok (relT_mk L.off v2) h2
theorem sim_lock {s s' : St} (L : Live p s s') : Rel p (RelT p.ρ) (lock p.E s) (lock p.F s') := by
  unfold lock
  refine rel_bind (sim_name L.next) (fun a1 a1' s1 s1' e1 e1' v1 h1 => ?_) (fun _ _ => by (exact un_au)) (fun _ _ => by (exact un_au))
  refine rel_bind (sim_expect _ h1) (fun a2 a2' s2 s2' e2 e2' v2 h2 => ?_) (fun _ _ => by (exact un_au)) (fun _ _ => by (exact un_au))
  refine rel_bind (sim_expr h2) (fun a3 a3' s3 s3' e3 e3' v3 h3 => ?_) (fun _ _ => by (exact un_au)) (fun _ _ => by (exact un_au))
  refine rel_bind (sim_expect _ h3) (fun a4 a4' s4 s4' e4 e4' v4 h4 => ?_) (fun _ _ => by (exact un_au)) (fun _ _ => by (exact un_au))
  rw [v1]
  exact rel_ok (relT_mk L.off (relL_cons v3 (relL_nil _))) h4
theorem sim_frame {s s' : St} (L : Live p s s') : Rel p (RelT p.ρ) (frame p.E s) (frame p.F s') := by
  unfold frame
  refine rel_bind (sim_separated (un_pvar (px _)) (un_pvar (px _)) sim_pvar L.next) (fun a1 a1' s1 s1' e1 e1' v1 h1 => ?_) (fun _ _ => by (exact un_au)) (fun _ _ => by (exact un_au))
  refine rel_bind (sim_expect _ h1) (fun a2 a2' s2 s2' e2 e2' v2 h2 => ?_) (fun _ _ => by (exact un_au)) (fun _ _ => by (exact un_au))
  exact rel_ok (relT_mk L.off v1) h2
theorem sim_proc (ok : p.Ok) {s s' : St} (L : Live p s s') : Rel p (RelT p.ρ) (proc p.E s) (proc p.F s') := by
  unfold proc
  refine rel_bind (sim_name L.next) (fun a1 a1' s1 s1' e1 e1' v1 h1 => ?_) (fun _ _ => by (exact un_au)) (fun _ _ => by (exact un_au))
  refine rel_bind (sim_tuple (un_param (px _)) (un_param (px _)) sim_param h1) (fun a2 a2' s2 s2' e2 e2' v2 h2 => ?_) (fun _ _ => by (exact un_au)) (fun _ _ => by (exact un_au))
  refine rel_bind (V := Eq) ?_ (fun a3 a3' s3 s3' e3 e3' v3 h3 => ?_) (fun _ _ => by (exact un_au)) (fun _ _ => by (exact un_au))
  · rcases sim_cases h2 with L2 | hd
    rotate_left
    · exact rel_dv hd (by (exact un_au)) (by (exact un_au))
    rw [L2.acc]
    split
    · exact sim_name L2.next
    · exact rel_ok rfl h2
  refine rel_bind (sim_block ok (uns_stmt (px _)) (uns_stmt (px _)) takes_stmt takes_stmt (left s3) (left s3') (fun _ _ h => sim_stmt ok h) (by omega) (by omega) h3).rel (fun a4 a4' s4 s4' e4 e4' v4 h4 => ?_) (fun _ _ => by (exact un_au)) (fun _ _ => by (exact un_au))
  rw [v1, v3]
  exact rel_ok (relT_mk L.off (relL_snoc _ _ v2 v4)) h4
theorem sim_shared {s s' : St} (L : Live p s s') : Rel p (RelT p.ρ) (shared p.E s) (shared p.F s') := by
  unfold shared
  refine rel_bind (sim_expect _ (sim_accepted _ L)) (fun a1 a1' s1 s1' e1 e1' v1 h1 => ?_) (fun _ _ => by (exact un_au)) (fun _ _ => by (exact un_au))
  refine rel_bind (sim_name h1) (fun a2 a2' s2 s2' e2 e2' v2 h2 => ?_) (fun _ _ => by (exact un_au)) (fun _ _ => by (exact un_au))
  refine rel_bind (V := Eq) ?_ (fun a3 a3' s3 s3' e3 e3' v3 h3 => ?_) (fun _ _ => by (exact un_au)) (fun _ _ => by (exact un_au))
  · rcases sim_cases h2 with L2 | hd
    rotate_left
    · exact rel_dv hd (by (exact un_au)) (by (exact un_au))
    rw [L2.acc]
    split
    · refine rel_bind (sim_length L2.next) (fun a4 a4' s4 s4' e4 e4' v4 h4 => ?_) (fun _ _ => by (exact un_au)) (fun _ _ => by (exact un_au))
      refine rel_bind (sim_expect _ h4) (fun a5 a5' s5 s5' e5 e5' v5 h5 => ?_) (fun _ _ => by (exact un_au)) (fun _ _ => by (exact un_au))
      exact rel_ok v4 h5
    · exact rel_ok rfl h2
  refine rel_bind (sim_expect _ h3) (fun a6 a6' s6 s6' e6 e6' v6 h6 => ?_) (fun _ _ => by (exact un_au)) (fun _ _ => by (exact un_au))
  refine rel_bind (V := Eq) ?_ (fun a7 a7' s7 s7' e7 e7' v7 h7 => ?_) (fun _ _ => by (exact un_au)) (fun _ _ => by (exact un_au))
  · rcases sim_cases h6 with L6 | hd
    rotate_left
    · exact rel_dv hd (by (exact un_au)) (by (exact un_au))
    rw [← L6.kind]
    split
    · refine rel_bind (sim_number h6) (fun a8 a8' s8 s8' e8 e8' v8 h8 => ?_) (fun _ _ => by (exact un_au)) (fun _ _ => by (exact un_au))
      rw [v8]
      exact rel_ok rfl h8
    · refine rel_bind (sim_name h6) (fun a8 a8' s8 s8' e8 e8' v8 h8 => ?_) (fun _ _ => by (exact un_au)) (fun _ _ => by (exact un_au))
      rw [v8]
      exact rel_ok rfl h8
  refine rel_bind (V := Eq) ?_ (fun a9 a9' s9 s9' e9 e9' v9 h9 => ?_) (fun _ _ => by (exact un_au)) (fun _ _ => by (exact un_au))
  · rcases sim_cases h7 with L7 | hd
    rotate_left
    · exact rel_dv hd (by (exact un_au)) (by (exact un_au))
    rw [L7.acc]
    split
    · exact sim_number L7.next
    · exact rel_ok rfl h7
  refine rel_bind (sim_expect _ h9) (fun a10 a10' s10 s10' e10 e10' v10 h10 => ?_) (fun _ _ => by (exact un_au)) (fun _ _ => by (exact un_au))
  rw [v2, v3, v7, v9, L.acc]
  exact rel_ok (relT_mk L.off (relL_nil _)) h10
theorem sim_declaration (ok : p.Ok) {s s' : St} (h : Sim p s s') : Rel p (RelT p.ρ) (declaration p.E s) (declaration p.F s') := by
  rcases sim_cases h with L | hd
  rotate_left
  · exact rel_dv hd (uns_declaration (px _) _) (uns_declaration (px _) _)
  unfold declaration
  simp only [L.acc]
  split
  · exact sim_record ok L
  split
  · exact sim_lock L
  split
  · exact sim_claim _ L
  split
  · exact sim_claim _ L
  split
  · exact sim_frame L
  split
  · exact sim_proc ok L
  · exact sim_shared L
theorem sim_module (ok : p.Ok) {s s' : St} (L : Live p s s') : RelI p (RelT p.ρ) (module p.E s) (module p.F s') := by
  unfold module
  refine reli_bind_l (sim_name L.next) (fun a1 a1' s1 s1' e1 e1' v1 h1 => ?_) (fun _ _ => by (exact un_au)) (fun _ _ => by (exact un_au)) (fun _ _ e => nd_bind (nd_expect (by decide) e)) (fun _ _ e => nd_bind (nd_expect (by decide) e))
  refine reli_bind_l (sim_expect _ h1) (fun a2 a2' s2 s2' e2 e2' v2 h2 => ?_) (fun _ _ => by (exact un_au)) (fun _ _ => by (exact un_au)) (fun _ _ e => nd_bind (nd_name e)) (fun _ _ e => nd_bind (nd_name e))
  refine reli_bind_l (sim_name h2) (fun a3 a3' s3 s3' e3 e3' v3 h3 => ?_) (fun _ _ => by (exact un_au)) (fun _ _ => by (exact un_au)) (fun _ _ e => nd_bind (nd_list e)) (fun _ _ e => nd_bind (nd_list e))
  refine reli_bind (sim_list ok (uns_declaration (px _)) (uns_declaration (px _)) takes_declaration takes_declaration (left s3) (left s3') (fun _ _ h => sim_declaration ok h) (by omega) (by omega) h3) (fun a4 a4' s4 s4' e4 e4' v4 h4 => ?_) (fun _ _ => by (exact un_au)) (fun _ _ => by (exact un_au))
  rw [v1, v3]
  exact reli_ok (relT_mk L.off v4) h4
theorem sim_thread {s s' : St} (L : Live p s s') : RelI p (RelT p.ρ) (thread p.E s) (thread p.F s') := by
  unfold thread
  refine reli_bind_l (sim_expect _ (sim_accepted _ L)) (fun a1 a1' s1 s1' e1 e1' v1 h1 => ?_) (fun _ _ => by (exact un_au)) (fun _ _ => by (exact un_au)) (fun _ _ e => nd_bind (nd_name e)) (fun _ _ e => nd_bind (nd_name e))
  refine reli_bind_l (sim_name h1) (fun a2 a2' s2 s2' e2 e2' v2 h2 => ?_) (fun _ _ => by (exact un_au)) (fun _ _ => by (exact un_au)) (fun _ _ e => nd_bind (nd_expect (by decide) e)) (fun _ _ e => nd_bind (nd_expect (by decide) e))
  refine reli_bind_l (sim_expect _ h2) (fun a3 a3' s3 s3' e3 e3' v3 h3 => ?_) (fun _ _ => by (exact un_au)) (fun _ _ => by (exact un_au)) (fun _ _ e => nd_bind (nd_path e)) (fun _ _ e => nd_bind (nd_path e))
  refine reli_bind_l (sim_path h3) (fun a4 a4' s4 s4' e4 e4' v4 h4 => ?_) (fun _ _ => by (exact un_au)) (fun _ _ => by (exact un_au)) (fun _ _ e => nd_bind (nd_tuple e)) (fun _ _ e => nd_bind (nd_tuple e))
  refine reli_bind_l (sim_tuple (un_numeral (px _)) (un_numeral (px _)) sim_numeral h4) (fun a5 a5' s5 s5' e5 e5' v5 h5 => ?_) (fun _ _ => by (exact un_au)) (fun _ _ => by (exact un_au)) (fun _ _ e => nd_bind (nd_expect (by decide) e)) (fun _ _ e => nd_bind (nd_expect (by decide) e))
  refine reli_bind (reli_expect _ (by decide) h5) (fun a6 a6' s6 s6' e6 e6' v6 h6 => ?_) (fun _ _ => by (exact un_au)) (fun _ _ => by (exact un_au))
  rw [v2, v4, L.acc]
  exact reli_ok (relT_mk L.off v5) h6
theorem sim_unit (ok : p.Ok) {s s' : St} (L : Live p s s') : RelI p (RelT p.ρ) (unit p.E s) (unit p.F s') := by
  unfold unit
  rw [L.acc]
  split
  · exact sim_module ok L
  · exact sim_thread L
end Go.Proofs.YtbgpboiblggmiaaGreatDoor.Px

/-
  Two runs of the plain parser side by side: all units; diagnostics have increasing offsets.
-/
namespace Go.Proofs.YtbgpboiblggmiaaGreatDoor.Px
open Lx (Tok)

theorem units_nil {rd : St → Res T} (k : Nat) (l : List T) {s : St} (h : s.toks = []) : unitsGo rd k l s = (l, s) := by
  cases k with
  | zero => rw [unitsGo]
  | succ k => rw [unitsGo, h]
theorem units_cons {rd : St → Res T} (k : Nat) (l : List T) {s : St} (h : s.toks ≠ []) : unitsGo rd (k + 1) l s = unitsGo rd k (more l (item rd false s).1) (item rd false s).2 := by
  rw [unitsGo]
  cases hs : s.toks with
  | nil => exact absurd hs h
  | cons t r => rfl
theorem units_front {rd : St → Res T} : ∀ (k : Nat) (l : List T) (s : St), ∃ m, (unitsGo rd k l s).1 = l ++ m
  | 0, l, s => ⟨[], by rw [unitsGo]; simp⟩
  | k + 1, l, s => by
    by_cases h : s.toks = []
    · exact ⟨[], by rw [units_nil _ _ h]; simp⟩
    · rw [units_cons _ _ h]
      obtain ⟨m, hm⟩ := units_front (rd := rd) k (more l (item rd false s).1) (item rd false s).2
      rw [hm]
      cases (item rd false s).1 with
      | none => exact ⟨m, rfl⟩
      | some t => exact ⟨t :: m, by simp [more]⟩

section
variable {p : Par}
/-- both runs stand behind the common part, between two units -/
structure Edge (p : Par) (k k' : Nat) (l l' : List T) (s s' : St) (j j' : Nat) (m m' : List T) (t t' : St) : Prop where
  e : unitsGo (unit p.E) k l s = unitsGo (unit p.E) j m t
  e' : unitsGo (unit p.F) k' l' s' = unitsGo (unit p.F) j' m' t'
  rel : RelL p.ρ m m'
  sim : Sim p t t'
  x : t.toks = p.x
  y : t'.toks = p.y
  hj : left t + 1 ≤ j
  hj' : left t' + 1 ≤ j'
/-- the runs part within a unit -/
structure Part (p : Par) (k k' : Nat) (l l' : List T) (s s' : St) (j j' : Nat) (m m' : List T) (o o' : Option T) (t t' : St) : Prop where
  e : unitsGo (unit p.E) k l s = unitsGo (unit p.E) j (more m o) t
  e' : unitsGo (unit p.F) k' l' s' = unitsGo (unit p.F) j' (more m' o') t'
  rel : RelL p.ρ m m'
  dv : Dv p t t'
  n : p.x = [] → o = .none ∧ t.diags ≠ []
  n' : p.y = [] → o' = .none ∧ t'.diags ≠ []
theorem sim_units (ok : p.Ok) : ∀ (k k' : Nat) (l l' : List T) (s s' : St), left s + 1 ≤ k → left s' + 1 ≤ k' → RelL p.ρ l l' → Sim p s s' →
    (∃ j j' m m' t t', Edge p k k' l l' s s' j j' m m' t t') ∨ (∃ j j' m m' o o' t t', Part p k k' l l' s s' j j' m m' o o' t t')
  | 0, _, _, _, _, _, hk, _, _, _ => absurd hk (by omega)
  | _ + 1, 0, _, _, _, _, _, hk, _, _ => absurd hk (by omega)
  | k + 1, k' + 1, l, l', s, s', hk, hk', hl, h => by
    obtain ⟨c, c', hc, h1, h2⟩ := h.toks
    rcases c with _ | ⟨t, r⟩ <;> rcases c' with _ | ⟨t', r'⟩
    · exact .inl ⟨_, _, _, _, _, _, rfl, rfl, hl, h, h1, h2, hk, hk'⟩
    · unfold RelC at hc; exact hc.elim
    · unfold RelC at hc; exact hc.elim
    have L : Live p s s' := by
      rcases sim_cases h with L | hd
      · exact L
      · have := hd.t1.length_le
        rw [h1] at this
        simp at this
        omega
    have hn : s.toks ≠ [] := by rw [h1]; simp
    have hn' : s'.toks ≠ [] := by rw [h2]; simp
    have l1 := item_left (E := p.E) (takes_unit (E := p.E)) (b := false) hn (.inl rfl)
    have l1' := item_left (E := p.F) (takes_unit (E := p.F)) (b := false) hn' (.inl rfl)
    rcases sim_item_i ok false (sim_unit ok L) with ⟨ho, hs⟩ | ⟨hd, n, n'⟩
    · rcases sim_units ok k k' _ _ _ _ (by omega) (by omega) (relL_more hl ho) hs with ⟨j, j', m, m', t, t', g⟩ | ⟨j, j', m, m', o, o', t, t', g⟩
      · exact .inl ⟨j, j', m, m', t, t', (units_cons k l hn).trans g.e, (units_cons k' l' hn').trans g.e', g.rel, g.sim, g.x, g.y, g.hj, g.hj'⟩
      · exact .inr ⟨j, j', m, m', o, o', t, t', (units_cons k l hn).trans g.e, (units_cons k' l' hn').trans g.e', g.rel, g.dv, g.n, g.n'⟩
    · exact .inr ⟨k, k', l, l', _, _, _, _, units_cons k l hn, units_cons k' l' hn', hl, hd, fun e => ⟨n e, item_none (n e)⟩, fun e => ⟨n' e, item_none (n' e)⟩⟩
end

/-- the tokens' offsets increase, and so do the diagnostics' -/
structure Good (E : Nat) (s : St) : Prop where
  toks : s.toks.Pairwise (fun a b => a.off < b.off)
  lt : ∀ t ∈ s.toks, t.off < E
  diags : s.diags.Pairwise (fun a b => a.off < b.off)
  le : ∀ d ∈ s.diags, 0 ≤ d.off ∧ d.off ≤ offOf E s
  num : s.diags.length ≤ 20
  err : ∀ d ∈ s.diags, d.err = 2 ∨ d.err = 20 ∨ d.err = 21
theorem off_suf {E : Nat} {s s1 : St} (h : Good E s) (hs : s1.toks <:+ s.toks) : offOf E s ≤ offOf E s1 := by
  obtain ⟨pre, hp⟩ := hs
  have h1 := h.toks
  have h2 := h.lt
  rw [← hp] at h1 h2
  unfold offOf peek
  rw [← hp]
  cases pre with
  | nil => simp
  | cons t r =>
    cases hr : s1.toks with
    | nil =>
      simp only [List.cons_append]
      have := h2 t (by simp)
      omega
    | cons u q =>
      simp only [List.cons_append]
      rw [List.cons_append, List.pairwise_cons] at h1
      have := h1.1 u (by rw [hr]; simp)
      omega
theorem off_le {E : Nat} {s : St} (h : Good E s) : 0 ≤ offOf E s ∧ offOf E s ≤ E := by
  unfold offOf peek
  cases hs : s.toks with
  | nil => simp
  | cons t r => have := h.lt t (by rw [hs]; simp); simp only; omega
theorem report_if (d : D) (l : List D) : (report d l = l ++ [d] ∧ l.length < 20 ∧ ∀ e, l.getLast? = some e → e.off ≠ d.off) ∨ report d l = l := by
  unfold report
  by_cases h : (decide (l.length < 20) && (match l.getLast? with | .none => true | .some e => decide (e.off ≠ d.off))) = true
  · left
    refine ⟨if_pos h, ?_, fun e he => ?_⟩
    · rw [Bool.and_eq_true] at h
      simpa using h.1
    · rw [he, Bool.and_eq_true] at h
      simpa using h.2
  · exact .inr (if_neg h)
def PInc (E : Nat) (s s1 : St) : Prop := Good E s → Good E s1
theorem pinc_suf {E : Nat} {s s1 : St} (hs : s1.toks <:+ s.toks) (hd : s1.diags = s.diags) : PInc E s s1 := fun h =>
  ⟨h.toks.sublist hs.sublist, fun t ht => h.lt t (hs.subset ht), by rw [hd]; exact h.diags, fun d h1 => by rw [hd] at h1; have := h.le d h1; have := off_suf h hs; omega, by rw [hd]; exact h.num, by rw [hd]; exact h.err⟩
theorem pinc (E : Nat) : Steps E (PInc E) where
  refl s := fun h => h
  trans h1 h2 := fun h => h2 (h1 h)
  rest s := pinc_suf (suf_rest s) rfl
  braces s b := pinc_suf (List.suffix_refl _) rfl
  skip d s q hb := fun h => by
    have hs := skip_suf q s.toks s.braces
    have ho := off_suf (s1 := ⟨skipGo q s.toks s.braces, 0, report d s.diags⟩) h hs
    have h0 := off_le h
    obtain ⟨b1, b2, b3⟩ := hb
    refine ⟨h.toks.sublist hs.sublist, fun t ht => h.lt t (hs.subset ht), ?_, ?_, ?_, ?_⟩
    · rcases report_if d s.diags with ⟨e, _, hc⟩ | e
      · simp only [e]
        rw [List.pairwise_append]
        refine ⟨h.diags, List.pairwise_singleton _ _, fun a ha b hb => ?_⟩
        rw [List.mem_singleton.1 hb, b1]
        have hne : s.diags ≠ [] := fun e => by rw [e] at ha; cases ha
        have hc := hc _ (List.getLast?_eq_some_getLast hne)
        have h1 := (h.le _ (List.getLast_mem hne)).2
        rw [b1] at hc
        by_cases he : a = s.diags.getLast hne
        · rw [he]; omega
        · have h3 := h.diags
          rw [← List.dropLast_concat_getLast hne, List.pairwise_append] at h3
          have ha' : a ∈ s.diags.dropLast := by
            rw [← List.dropLast_concat_getLast hne] at ha
            rcases List.mem_append.1 ha with h' | h'
            · exact h'
            · exact absurd (List.mem_singleton.1 h') he
          have := h3.2.2 a ha' (s.diags.getLast hne) (by simp)
          omega
      · simp only [e]
        exact h.diags
    · intro d' hd'
      rcases report_cases d s.diags with e | e
      · simp only [e] at hd'
        rcases List.mem_append.1 hd' with h' | h'
        · have := h.le d' h'; omega
        · rw [List.mem_singleton.1 h', b1]; omega
      · simp only [e] at hd'
        have := h.le d' hd'; omega
    · have := h.num
      rcases report_if d s.diags with ⟨e, h1, _⟩ | e
      · simp only [e]; simp; omega
      · simp only [e]; exact this
    · intro d' hd'
      rcases report_cases d s.diags with e | e
      · simp only [e] at hd'
        rcases List.mem_append.1 hd' with h' | h'
        · exact h.err d' h'
        · rw [List.mem_singleton.1 h']; exact b2
      · simp only [e] at hd'
        exact h.err d' hd'
end Go.Proofs.YtbgpboiblggmiaaGreatDoor.Px

/-
  The lexer on the beginning of a source, up to the end of a token; offsets of tokens increase.
-/
namespace Go.Proofs.YtbgpboiblggmiaaGreatDoor.Lx

theorem go_prefix (l : List UInt8) (f : Nat) : ∀ (k c p m f' : Nat) (ts : List Tok) (t : Tok), k ≤ l.length → go f (l.drop k) k c = (ts, 0, p) → ts[m]? = some t → l.length - k < f → t.off + t.text.length - k < f' →
    k ≤ t.off ∧ t.off + t.text.length ≤ l.length ∧ go f' ((l.take (t.off + t.text.length)).drop k) k c = (ts.take (m + 1), 0, 0) := by
  induction f with
  | zero => intro k c p m f' ts t _ _ _ h; omega
  | succ f ih =>
    intro k c p m f' ts t hk h hm hf hf'
    rcases Nat.lt_or_ge k l.length with hlt | hge
    · have hc : c ≠ 1500 := by
        intro hc; subst hc; rw [go_full l f k (by omega)] at h; simp at h
      cases ht : tok (l.drop k) with
      | none =>
        rw [go_stop l f k c (by omega) hc ht] at h
        simp only [Prod.mk.injEq] at h
        omega
      | some kn =>
        obtain ⟨kd, n⟩ := kn
        have hp := tok_pos _ _ _ ht
        rw [List.length_drop] at hp
        rw [go_step l f k c kd n (by omega) hc ht] at h
        have hn := next_le l k n (by omega)
        have hlen := tok_take_len l k n (by omega)
        have e1 := (Prod.mk.inj h).1
        have e2 := (Prod.mk.inj h).2
        obtain ⟨rs, hrs⟩ : ∃ rs, go f (l.drop (k + n + skip false (l.drop (k + n)))) (k + n + skip false (l.drop (k + n))) (c + 1) = (rs, 0, p) := ⟨_, Prod.ext rfl e2⟩
        rw [hrs] at e1
        subst e1
        cases m with
        | zero =>
          simp only [List.getElem?_cons_zero, Option.some.injEq] at hm
          subst hm
          simp only at hf' ⊢
          rw [hlen] at hf' ⊢
          obtain ⟨f', rfl⟩ : ∃ g, f' = g + 1 := ⟨f' - 1, by omega⟩
          have ht' : tok ((l.take (k + n)).drop k) = some (kd, n) := by
            rw [List.drop_take]; exact tok_take _ _ _ _ ht (by omega)
          have hl' : (l.take (k + n)).length = k + n := by rw [List.length_take]; omega
          refine ⟨Nat.le_refl _, by omega, ?_⟩
          rw [go_step (l.take (k + n)) f' k c kd n (by omega) hc ht', go_end (l.take (k + n)) f' _ (c + 1) (by omega)]
          rw [List.drop_take, show k + n - k = n by omega, List.take_take, Nat.min_self]
          rfl
        | succ m =>
          have hm : rs[m]? = some t := by simpa using hm
          have hb := (ih _ (c + 1) p m (t.off + t.text.length + 1) rs t hn hrs hm (by omega) (by omega))
          obtain ⟨f', rfl⟩ : ∃ g, f' = g + 1 := ⟨f' - 1, by omega⟩
          have hg := (ih _ (c + 1) p m f' rs t hn hrs hm (by omega) (by omega)).2.2
          have ht' : tok ((l.take (t.off + t.text.length)).drop k) = some (kd, n) := by
            rw [List.drop_take]; exact tok_take _ _ _ _ ht (by omega)
          have hs' : skip false ((l.take (t.off + t.text.length)).drop (k + n)) = skip false (l.drop (k + n)) := by
            rw [List.drop_take]; exact skip_take _ _ _ (by omega)
          have hl' : (l.take (t.off + t.text.length)).length = t.off + t.text.length := by rw [List.length_take]; omega
          refine ⟨by omega, hb.2.1, ?_⟩
          rw [go_step (l.take (t.off + t.text.length)) f' k c kd n (by omega) hc ht', hs', hg]
          rw [List.drop_take, List.take_take, Nat.min_eq_left (by omega), List.take_succ_cons]
    · rw [go_end l (f + 1) k c (by omega)] at h
      have := (Prod.mk.inj h).1
      subst this
      simp at hm

theorem lex_go {l : List UInt8} {ts : List Tok} {p : Nat} (h : lex l = (ts, 0, p)) : p = 0 ∧ l.length ≤ 4000 ∧ ∃ q, go (l.length + 1) (l.drop (skip false l)) (skip false l) 0 = (ts, 0, q) := by
  unfold lex at h
  split at h
  · simp at h
  · rename_i hl
    unfold fin at h
    split at h
    · rename_i he
      have h1 := congrArg Prod.fst h
      have h2 := congrArg (fun x => x.2.2) h
      exact ⟨h2.symm, by omega, (go (l.length + 1) (l.drop (skip false l)) (skip false l) 0).2.2, Prod.ext h1 (Prod.ext he rfl)⟩
    · rename_i he
      simp only [Prod.mk.injEq] at h
      exact absurd h.2.1 he
/-- the source up to the end of a token has the tokens up to this one -/
theorem lex_prefix {l : List UInt8} {ts : List Tok} {p : Nat} (h : lex l = (ts, 0, p)) {m : Nat} {t : Tok} (hm : ts[m]? = some t) :
    t.off + t.text.length ≤ l.length ∧ lex (l.take (t.off + t.text.length)) = (ts.take (m + 1), 0, 0) := by
  obtain ⟨_, hl, q, hg⟩ := lex_go h
  have hs := skip_le l false
  obtain ⟨h1, h2, h3⟩ := go_prefix l _ _ 0 q m (t.off + t.text.length + 1) ts t hs hg hm (by omega) (by omega)
  have hl' : (l.take (t.off + t.text.length)).length = t.off + t.text.length := by rw [List.length_take]; omega
  refine ⟨h2, ?_⟩
  unfold lex
  rw [if_neg (by omega), hl', skip_take l false (t.off + t.text.length) (by omega), h3]
  rfl

theorem chain_off (l : List UInt8) : ∀ (ts : List Tok) (e : Nat), Chain l e ts → ts.Pairwise (fun a b => a.off < b.off) ∧ ∀ t ∈ ts, e ≤ t.off ∧ t.off + t.text.length ≤ l.length ∧ 0 < t.text.length
  | [], e, _ => ⟨List.Pairwise.nil, by simp⟩
  | t :: r, e, h => by
    obtain ⟨h1, h2, h3, h4, h5⟩ := h
    obtain ⟨i1, i2⟩ := chain_off l r _ h5
    refine ⟨List.pairwise_cons.2 ⟨fun u hu => by have := i2 u hu; omega, i1⟩, fun u hu => ?_⟩
    rcases List.mem_cons.1 hu with rfl | hu
    · exact ⟨by omega, h3, h2⟩
    · have := i2 u hu; omega
theorem lex_off {l : List UInt8} {ts : List Tok} {p : Nat} (h : lex l = (ts, 0, p)) : ts.Pairwise (fun a b => a.off < b.off) ∧ ∀ t ∈ ts, t.off < l.length := by
  obtain ⟨h1, h2⟩ := chain_off l ts 0 (lex_chain h)
  exact ⟨h1, fun t ht => by have := h2 t ht; omega⟩
end Go.Proofs.YtbgpboiblggmiaaGreatDoor.Lx

/-
  Parse on a source and on a beginning of it.
-/
namespace Go.Proofs.YtbgpboiblggmiaaGreatDoor.Px
open Lx (Tok)

/-- all units of a source's tokens -/
def units (E : Nat) (ts : List Tok) : List T × St := unitsGo (unit E) (ts.length + 1) [] (start ts)
theorem parse_units {l : List UInt8} {ts : List Tok} {q : Nat} (h : Lx.lex l = (ts, 0, q)) :
    parse l = if (units l.length ts).2.diags = [] ∧ fits (source (units l.length ts).1) = false then (source [], [⟨2, 0⟩]) else (source (units l.length ts).1, (units l.length ts).2.diags) := by
  unfold parse units
  rw [h]
  simp only [ne_eq, not_true_eq_false, if_false]
theorem parse_diags {l : List UInt8} {ts : List Tok} {q : Nat} (h : Lx.lex l = (ts, 0, q)) (hne : (units l.length ts).2.diags ≠ []) : parse l = (source (units l.length ts).1, (units l.length ts).2.diags) := by
  rw [parse_units h, if_neg (fun h => hne h.1)]
theorem relC_refl : ∀ c : List Tok, RelC Eq c c
  | [] => by unfold RelC; trivial
  | t :: r => by unfold RelC; exact ⟨⟨rfl, rfl, rfl⟩, relC_refl r⟩
theorem units_px (E : Nat) (k : Nat) (l : List T) (s : St) : ∃ ext, (unitsGo (unit E) k l s).2.diags = s.diags ++ ext ∧ ∀ d ∈ ext, At s.toks E d := (un_unitsGo (px E) (uns_unit (px E)) k l s).2

def same2 (E F : Nat) (x y : List Tok) : Par := ⟨E, F, Eq, Eq, x, y⟩
theorem same2_ok (E F : Nat) (x y : List Tok) : (same2 E F x y).Ok := ⟨fun l l' e o o' h1 h2 => by
  have h1 : l = l' := h1
  have h2 : o = o' := h2
  subst h1 h2
  rfl⟩
/-- diagnostics of a source and of a beginning of it -/
theorem two_diags (E F : Nat) (c x y : List Tok) (k k' : Nat) (hk : (c ++ x).length + 1 ≤ k) (hk' : (c ++ y).length + 1 ≤ k') :
    ∃ l e e', (unitsGo (unit E) k [] (start (c ++ x))).2.diags = l ++ e ∧ (unitsGo (unit F) k' [] (start (c ++ y))).2.diags = l ++ e' ∧ (∀ d ∈ e, At x E d) ∧ (∀ d ∈ e', At y F d) := by
  have hs : Sim (same2 E F x y) (start (c ++ x)) (start (c ++ y)) := ⟨⟨c, c, relC_refl c, rfl, rfl⟩, rfl, rfl⟩
  rcases sim_units (same2_ok E F x y) k k' [] [] (start (c ++ x)) (start (c ++ y)) hk hk' (relL_nil _) hs with ⟨j, j', m, m', t, t', g⟩ | ⟨j, j', m, m', o, o', t, t', g⟩
  · have ge : unitsGo (unit E) k [] (start (c ++ x)) = unitsGo (unit E) j m t := g.e
    have ge' : unitsGo (unit F) k' [] (start (c ++ y)) = unitsGo (unit F) j' m' t' := g.e'
    obtain ⟨e, h1, h2⟩ := units_px E j m t
    obtain ⟨e', h1', h2'⟩ := units_px F j' m' t'
    have hd : t.diags = t'.diags := g.sim.diags
    have hx : t.toks = x := g.x
    have hy : t'.toks = y := g.y
    rw [hx] at h2
    rw [hy] at h2'
    exact ⟨t.diags, e, e', by rw [ge, h1], by rw [ge', h1', hd], h2, h2'⟩
  · have ge : unitsGo (unit E) k [] (start (c ++ x)) = unitsGo (unit E) j (more m o) t := g.e
    have ge' : unitsGo (unit F) k' [] (start (c ++ y)) = unitsGo (unit F) j' (more m' o') t' := g.e'
    obtain ⟨e, h1, h2⟩ := units_px E j (more m o) t
    obtain ⟨e', h1', h2'⟩ := units_px F j' (more m' o') t'
    obtain ⟨l, l', f, f', hd, q1, q2, q3, q4⟩ := g.dv.ds
    have hd : l = l' := hd
    subst hd
    refine ⟨l, f ++ e, f' ++ e', by rw [ge, h1, q1, List.append_assoc], by rw [ge', h1', q2, List.append_assoc], ?_, ?_⟩
    · intro d hd
      rcases List.mem_append.1 hd with h | h
      · exact q3 d h
      · exact (h2 d h).mono g.dv.t1
    · intro d hd
      rcases List.mem_append.1 hd with h | h
      · exact q4 d h
      · exact (h2' d h).mono g.dv.t2

theorem locality {src : List UInt8} {ts : List Tok} {q : Nat} (hl : Lx.lex src = (ts, 0, q)) {d0 : D} {r : List D} (hd : (parse src).2 = d0 :: r) (hw : ¬ (d0.err = 2 ∧ d0.off = 0)) :
    (∀ (m : Nat) (t : Tok), ts[m]? = some t → (t.off : Int) = d0.off → ∃ r', (parse (src.take (t.off + t.text.length))).2 = d0 :: r') ∧ ((∀ t ∈ ts, (t.off : Int) ≠ d0.off) → d0 = ⟨21, src.length⟩) := by
  have hne : (units src.length ts).2.diags ≠ [] := by
    intro h0
    rw [parse_units hl] at hd
    split at hd
    · cases hd; exact hw ⟨rfl, rfl⟩
    · rw [h0] at hd; cases hd
  have hu : (units src.length ts).2.diags = d0 :: r := by rw [parse_diags hl hne] at hd; exact hd
  constructor
  · intro m t hm ho
    obtain ⟨h1, h2⟩ := Lx.lex_prefix hl hm
    obtain ⟨s1, s2⟩ := Lx.lex_off hl
    have hc : ts = ts.take (m + 1) ++ ts.drop (m + 1) := (List.take_append_drop _ _).symm
    obtain ⟨l, e, e', q1, q2, q3, q4⟩ := two_diags src.length (src.take (t.off + t.text.length)).length (ts.take (m + 1)) (ts.drop (m + 1)) [] (ts.length + 1) ((ts.take (m + 1)).length + 1) (by rw [← hc]; exact Nat.le_refl _) (by simp)
    rw [← hc] at q1
    rw [List.append_nil] at q2
    have q1 : d0 :: r = l ++ e := hu.symm.trans q1
    have q2 : (units (src.take (t.off + t.text.length)).length (ts.take (m + 1))).2.diags = l ++ e' := q2
    cases l with
    | nil =>
      exfalso
      have hA := q3 d0 (by rw [← List.nil_append e, ← q1]; simp)
      have hml : m < ts.length := (List.getElem?_eq_some_iff.1 hm).1
      rcases hA with ⟨u, hu, h3, _⟩ | h3
      · rw [hc, List.pairwise_append] at s1
        have := s1.2.2 t (by
          obtain ⟨h4, h5⟩ := List.getElem?_eq_some_iff.1 hm
          rw [List.mem_take_iff_getElem]
          exact ⟨m, by omega, h5⟩) u hu
        omega
      · have := s2 t (List.mem_of_getElem? hm)
        rw [h3] at ho
        simp only at ho
        omega
    | cons d l =>
      have : d = d0 := (List.cons.inj q1).1.symm
      subst this
      rw [parse_diags h2 (by rw [q2]; simp), q2]
      exact ⟨l ++ e', rfl⟩
  · intro hno
    obtain ⟨e, h1, h2⟩ := units_px src.length (ts.length + 1) [] (start ts)
    have h1 : d0 :: r = [] ++ e := hu.symm.trans h1
    rcases h2 d0 (by rw [← List.nil_append e, ← h1]; simp) with ⟨u, hu, h3, _⟩ | h3
    · exact absurd h3.symm (hno u hu)
    · exact h3
end Go.Proofs.YtbgpboiblggmiaaGreatDoor.Px
