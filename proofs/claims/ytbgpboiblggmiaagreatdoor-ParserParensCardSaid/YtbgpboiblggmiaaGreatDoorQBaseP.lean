/-
  Merged texts of the base: LxSpec LxSpecb LxSpecc LxLen LxGaps LxMore LxConcat LxLay Px Pxa Pxb Pxc Una Sma Smx Smb Smc Smd Sme Smf Lca Lcb.
-/

set_option linter.unusedVariables false
set_option linter.unusedSimpArgs false
/-
  The plain functions of the lexer of chapter 1 (bytes as natural numbers) and their laws; no program is imported.
-/
namespace Go.Proofs.YtbgpboiblggmiaaGreatDoor.Lx

def white (c : Int) : Bool := c == 32 || c == 9 || c == 10 || c == 13
def letter (c : Int) : Bool := (decide (97 ≤ c) && decide (c ≤ 122)) || (decide (65 ≤ c) && decide (c ≤ 90))
def digit (c : Int) : Bool := decide (48 ≤ c) && decide (c ≤ 57)
def word (c : Int) : Bool := letter c || digit c || c == 95
def whiteU (c : UInt8) : Bool := white (c.toNat : Int)
def letterU (c : UInt8) : Bool := letter (c.toNat : Int)
def digitU (c : UInt8) : Bool := digit (c.toNat : Int)
def wordU (c : UInt8) : Bool := word (c.toNat : Int)
def begins (l t : List UInt8) (a : Nat) : Bool := (l.drop a).take t.length == t

/-- the length of the gap at the beginning of a text; 'note' says whether a comment is open -/
def skip (note : Bool) : List UInt8 → Nat
  | [] => 0
  | c :: r =>
    if note then (if c = 10 then 1 + skip false r else 1 + skip true r)
    else if whiteU c then 1 + skip false r
    else if c = 47 ∧ r.head? = some 47 then 1 + skip true r
    else 0

theorem skip_le (l : List UInt8) : ∀ note, skip note l ≤ l.length := by
  induction l with
  | nil => intro n; simp [skip]
  | cons c r ih =>
    intro n
    have h1 := ih true
    have h2 := ih false
    simp only [skip, List.length_cons]
    repeat' split
    all_goals omega

theorem drop_at (l : List UInt8) (k : Nat) (h : k < l.length) : l.drop k = l[k] :: l.drop (k + 1) := List.drop_eq_getElem_cons h

theorem begins2_iff (l : List UInt8) (k : Nat) (h : k < l.length) : begins l [47, 47] k = true ↔ l[k] = 47 ∧ (l.drop (k + 1)).head? = some 47 := by
  unfold begins
  rw [drop_at l k h]
  cases hr : l.drop (k + 1) with
  | nil => simp
  | cons c r => simp

theorem skip_end (l : List UInt8) (k : Nat) (b : Bool) (h : l.length ≤ k) : skip b (l.drop k) = 0 := by
  rw [List.drop_eq_nil_of_le h]; simp [skip]

theorem skip_white (l : List UInt8) (k : Nat) (h : k < l.length) (hw : whiteU l[k] = true) : skip false (l.drop k) = 1 + skip false (l.drop (k + 1)) := by
  rw [drop_at l k h]; simp [skip, hw]

theorem white47 : whiteU 47 = false := by decide

theorem skip_note (l : List UInt8) (k : Nat) (h : k < l.length) (hb : begins l [47, 47] k = true) : skip false (l.drop k) = skip true (l.drop k) := by
  obtain ⟨h1, h2⟩ := (begins2_iff l k h).1 hb
  rw [drop_at l k h]
  simp only [skip, h1, h2, white47]
  simp

theorem skip_none (l : List UInt8) (k : Nat) (h : k < l.length) (hb : begins l [47, 47] k = false) (hw : whiteU l[k] = false) : skip false (l.drop k) = 0 := by
  have := begins2_iff l k h
  rw [drop_at l k h]
  simp only [skip, hw]
  simp [hb] at this
  simp
  intro h1 h2
  exact absurd h2 (by simpa using this h1)

theorem skip_in (l : List UInt8) (k : Nat) (h : k < l.length) (hc : l[k] ≠ 10) : skip true (l.drop k) = 1 + skip true (l.drop (k + 1)) := by
  rw [drop_at l k h]; simp [skip, hc]

theorem skip_out (l : List UInt8) (k : Nat) (h : k < l.length) (hc : l[k] = 10) : skip true (l.drop k) = skip false (l.drop k) := by
  rw [drop_at l k h]; simp [skip, hc, show whiteU 10 = true from by decide]

/-- the number of bytes at the beginning of a text that have a property -/
def run (p : UInt8 → Bool) (l : List UInt8) : Nat := (l.takeWhile p).length

theorem run_le (p : UInt8 → Bool) (l : List UInt8) : run p l ≤ l.length := (List.takeWhile_prefix p).sublist.length_le
theorem run_end (p : UInt8 → Bool) (l : List UInt8) (k : Nat) (h : l.length ≤ k) : run p (l.drop k) = 0 := by
  rw [List.drop_eq_nil_of_le h]; rfl
theorem run_cons (p : UInt8 → Bool) (c : UInt8) (r : List UInt8) : run p (c :: r) = if p c then 1 + run p r else 0 := by
  unfold run
  rw [List.takeWhile_cons]
  split
  · rw [List.length_cons]; omega
  · rfl
theorem run_yes (p : UInt8 → Bool) (l : List UInt8) (k : Nat) (h : k < l.length) (hp : p l[k] = true) : run p (l.drop k) = 1 + run p (l.drop (k + 1)) := by
  rw [drop_at l k h, run_cons, if_pos hp]
theorem run_no (p : UInt8 → Bool) (l : List UInt8) (k : Nat) (h : k < l.length) (hp : p l[k] = false) : run p (l.drop k) = 0 := by
  rw [drop_at l k h, run_cons, if_neg (by rw [hp]; exact Bool.false_ne_true)]

theorem word_letter (c : UInt8) (h : letterU c = true) : wordU c = true := by
  unfold wordU word; unfold letterU at h; rw [h]; rfl
theorem word_digit (c : UInt8) (h : digitU c = true) : wordU c = true := by
  unfold wordU word; unfold digitU at h; rw [h]; simp
theorem word_under (c : UInt8) (h : ((c.toNat : Int) == 95) = true) : wordU c = true := by
  unfold wordU word; rw [h]; simp
theorem word_none (c : UInt8) (h1 : letterU c = false) (h2 : digitU c = false) (h3 : ((c.toNat : Int) == 95) = false) : wordU c = false := by
  unfold wordU word; unfold letterU at h1; unfold digitU at h2; rw [h1, h2, h3]; rfl

/-- does a letter or an underscore come first? -/
def lu : List UInt8 → Bool
  | [] => false
  | c :: _ => letterU c || ((c.toNat : Int) == 95)
/-- is the run of n digits at the beginning of a text a number? -/
def numOk (l : List UInt8) (n : Nat) : Bool := decide (n ≤ 9) && (!(l.head? == some 48) || n == 1) && !lu (l.drop n)

theorem lu_at (s : ByteArray) (k : Nat) (h : k < s.size) : lu (s.data.toList.drop k) = (letterU s.data.toList[k] || ((s[k].toNat : Int) == 95)) := by
  rw [drop_at s.data.toList k h]; rfl
theorem lu_end (s : ByteArray) (k : Nat) (h : ¬ k < s.size) : lu (s.data.toList.drop k) = false := by
  rw [List.drop_eq_nil_of_le (by show s.size ≤ k; omega)]; rfl
theorem numOk_eq (s : ByteArray) (a k n : Nat) (h : a < s.size) (e : a + n = k) :
    numOk (s.data.toList.drop a) n = (decide ((k : Int) - a ≤ 9) && (!((s[a].toNat : Int) == 48) || ((k : Int) == a + 1)) && !lu (s.data.toList.drop k)) := by
  subst e
  unfold numOk
  rw [List.drop_drop]
  congr 1
  congr 1
  · rw [decide_eq_decide]; omega
  · congr 1
    · rw [drop_at s.data.toList a h]
      congr 1
      rw [Bool.eq_iff_iff]
      simp only [List.head?_cons, beq_iff_eq, Option.some.injEq]
      constructor
      · intro h'
        show ((s.data.toList[a].toNat : Nat) : Int) = 48
        rw [h']; rfl
      · intro h'
        apply UInt8.toNat_inj.1
        show s[a].toNat = 48
        omega
    · rw [Bool.eq_iff_iff]
      simp only [beq_iff_eq]
      omega

theorem nf1 {K : Int} {X Y : Bool} (h : 9 < K) : false = (decide (K ≤ 9) && X && Y) := by
  rw [decide_eq_false (by omega)]; rfl
theorem nf2 {X Y : Bool} (h : Y = true) : false = (X && !Y) := by rw [h]; simp
theorem nt1 {K S : Int} {E Y : Bool} (h : K ≤ 9) (h2 : ¬ S = 48) (h3 : Y = false) : true = (decide (K ≤ 9) && (!(S == 48) || E) && !Y) := by
  rw [decide_eq_true h, h3, beq_eq_false_iff_ne.2 h2]; rfl
theorem ne1 {K S : Int} {E Y : Bool} (h : K ≤ 9) (h2 : S = 48) (h3 : Y = false) : E = (decide (K ≤ 9) && (!(S == 48) || E) && !Y) := by
  rw [decide_eq_true h, h3, h2]; simp
theorem lu_no (s : ByteArray) (k : Nat) (h : k < s.size) (hl : letterU s.data.toList[k] = false) : lu (s.data.toList.drop k) = ((s[k].toNat : Int) == 95) := by
  rw [lu_at s k h, hl]; rfl
theorem lu_yes (s : ByteArray) (k : Nat) (h : k < s.size) (hl : letterU s.data.toList[k] = true) : lu (s.data.toList.drop k) = true := by
  rw [lu_at s k h, hl]; rfl

/-- the symbols, in the order of the reference -/
def refSyms : List (List UInt8) := [[61, 61, 62], [58, 61], [61, 61], [33, 61], [60, 61], [38, 38], [124, 124], [123], [125], [40], [41], [91], [93], [59], [58], [44], [46], [63], [61], [33], [60], [38], [124], [94], [43], [45], [42]]
/-- the first symbol of the reference's table that begins a text -/
def sym (l : List UInt8) : Option (List UInt8) := refSyms.find? fun t => l.take t.length == t
/-- the kind and the length of the token that begins a text -/
def tok (l : List UInt8) : Option (Nat × Nat) :=
  match l with
  | [] => none
  | c :: _ =>
    if letterU c then (if run wordU l ≤ 16 then some (1, run wordU l) else none)
    else if digitU c then (if numOk l (run digitU l) then some (2, run digitU l) else none)
    else (sym l).map fun t => (3, t.length)

end Go.Proofs.YtbgpboiblggmiaaGreatDoor.Lx

/-
  More plain laws of the lexer: the tokens at a position, cases.
-/
namespace Go.Proofs.YtbgpboiblggmiaaGreatDoor.Lx

theorem tok_letter (l : List UInt8) (a : Nat) (h : a < l.length) (hl : letterU l[a] = true) :
    tok (l.drop a) = if run wordU (l.drop a) ≤ 16 then some (1, run wordU (l.drop a)) else none := by
  conv => lhs; rw [drop_at l a h]
  unfold tok
  simp only [hl, if_true]
  rw [← drop_at l a h]
theorem tok_digit (l : List UInt8) (a : Nat) (h : a < l.length) (hl : letterU l[a] = false) (hd : digitU l[a] = true) :
    tok (l.drop a) = if numOk (l.drop a) (run digitU (l.drop a)) then some (2, run digitU (l.drop a)) else none := by
  conv => lhs; rw [drop_at l a h]
  unfold tok
  simp only [hl, hd, if_true, Bool.false_eq_true, if_false]
  rw [← drop_at l a h]
theorem tok_sym (l : List UInt8) (a : Nat) (h : a < l.length) (hl : letterU l[a] = false) (hd : digitU l[a] = false) :
    tok (l.drop a) = (sym (l.drop a)).map fun t => (3, t.length) := by
  conv => lhs; rw [drop_at l a h]
  unfold tok
  simp only [hl, hd, Bool.false_eq_true, if_false]
  rw [← drop_at l a h]

/-- the first symbol that begins a text, from an index of the table on -/
def symFrom (l : List UInt8) (i : Nat) : Option (List UInt8) := (refSyms.drop i).find? fun t => l.take t.length == t
theorem symFrom_yes (l t : List UInt8) (a i : Nat) (h : refSyms[i]? = some t) (hb : begins l t a = true) : symFrom (l.drop a) i = some t := by
  obtain ⟨hi, ht⟩ := List.getElem?_eq_some_iff.1 h
  unfold symFrom
  rw [List.drop_eq_getElem_cons hi, ht]
  unfold begins at hb
  rw [List.find?_cons]
  simp only [hb]
theorem symFrom_no (l t : List UInt8) (a i : Nat) (h : refSyms[i]? = some t) (hb : begins l t a = false) : symFrom (l.drop a) i = symFrom (l.drop a) (i + 1) := by
  obtain ⟨hi, ht⟩ := List.getElem?_eq_some_iff.1 h
  unfold symFrom
  rw [List.drop_eq_getElem_cons hi, ht]
  unfold begins at hb
  rw [List.find?_cons]
  simp only [hb]
theorem symFrom_end (l : List UInt8) : symFrom l 27 = none := rfl
theorem refSyms_short : ∀ t ∈ refSyms, t.length ≤ 3 ∧ 0 < t.length := by decide
theorem sym_len (l t : List UInt8) (h : sym l = some t) : l.take t.length = t ∧ t.length ≤ 3 ∧ 0 < t.length := by
  have h1 := List.find?_some h
  have h2 := List.mem_of_find?_eq_some h
  exact ⟨by simpa using h1, refSyms_short t h2⟩

theorem run_pos (p : UInt8 → Bool) (c : UInt8) (r : List UInt8) (h : p c = true) : 0 < run p (c :: r) := by rw [run_cons, if_pos h]; omega
theorem tok_pos (l : List UInt8) (kd n : Nat) (h : tok l = some (kd, n)) : 0 < n ∧ n ≤ l.length := by
  cases l with
  | nil => simp [tok] at h
  | cons c r =>
    unfold tok at h
    simp only at h
    split at h
    · rename_i hl
      split at h
      · simp only [Option.some.injEq, Prod.mk.injEq] at h
        rw [← h.2]
        exact ⟨run_pos _ _ _ (word_letter c hl), run_le _ _⟩
      · cases h
    · split at h
      · rename_i hd
        split at h
        · simp only [Option.some.injEq, Prod.mk.injEq] at h
          rw [← h.2]
          exact ⟨run_pos _ _ _ hd, run_le _ _⟩
        · cases h
      · cases hs : sym (c :: r) with
        | none => rw [hs] at h; cases h
        | some t =>
          rw [hs] at h
          simp only [Option.map_some, Option.some.injEq, Prod.mk.injEq] at h
          rw [← h.2]
          obtain ⟨h1, _, h3⟩ := sym_len _ _ hs
          refine ⟨h3, ?_⟩
          have := congrArg List.length h1
          rw [List.length_take] at this
          omega

/-- a token: its kind, its text, its offset -/
structure Tok where
  kind : Nat
  text : List UInt8
  off : Nat
deriving DecidableEq

/-- the tokens from a position on, then the error's number and its position; c tokens were read before -/
def go : Nat → List UInt8 → Nat → Nat → List Tok × Nat × Nat
  | 0, _, _, _ => ([], 0, 0)
  | _ + 1, [], _, _ => ([], 0, 0)
  | f + 1, l@(_ :: _), a, c =>
    if c = 1500 then ([], 2, a)
    else match tok l with
      | none => ([], 10, a)
      | some (kd, n) =>
        let g := skip false (l.drop n)
        let r := go f ((l.drop n).drop g) (a + n + g) (c + 1)
        (⟨kd, l.take n, a⟩ :: r.1, r.2)

/-- with an error there are no tokens -/
def fin (r : List Tok × Nat × Nat) : List Tok × Nat × Nat := if r.2.1 = 0 then (r.1, 0, 0) else ([], r.2.1, r.2.2)
/-- what chapter 1 says of Lex -/
def lex (l : List UInt8) : List Tok × Nat × Nat :=
  if 4000 < l.length then ([], 2, 0) else fin (go (l.length + 1) (l.drop (skip false l)) (skip false l) 0)

/-- what is still to come, behind the tokens that were read -/
def rest (f : Nat) (l : List UInt8) (k : Nat) (acc : List Tok) : List Tok × Nat × Nat :=
  fin (acc ++ (go f (l.drop k) k acc.length).1, (go f (l.drop k) k acc.length).2)

theorem lex_big (l : List UInt8) (h : 4000 < l.length) : lex l = ([], 2, 0) := by unfold lex; rw [if_pos h]
theorem lex_rest (l : List UInt8) (h : l.length ≤ 4000) : lex l = rest (l.length + 1) l (skip false l) [] := by
  unfold lex
  rw [if_neg (by omega)]
  rfl
theorem rest_end (f : Nat) (l : List UInt8) (k : Nat) (acc : List Tok) (h : l.length ≤ k) : rest f l k acc = (acc, 0, 0) := by
  unfold rest
  rw [List.drop_eq_nil_of_le h]
  cases f <;> simp [go, fin]
theorem rest_full (f : Nat) (l : List UInt8) (k : Nat) (acc : List Tok) (h : k < l.length) (hf : 0 < f) (hc : acc.length = 1500) : rest f l k acc = ([], 2, k) := by
  obtain ⟨f, rfl⟩ : ∃ g, f = g + 1 := ⟨f - 1, by omega⟩
  unfold rest
  rw [drop_at l k h, hc]
  simp [go, fin]
theorem rest_none (f : Nat) (l : List UInt8) (k : Nat) (acc : List Tok) (h : k < l.length) (hf : 0 < f) (hc : acc.length ≠ 1500) (ht : tok (l.drop k) = none) : rest f l k acc = ([], 10, k) := by
  obtain ⟨f, rfl⟩ : ∃ g, f = g + 1 := ⟨f - 1, by omega⟩
  have e : go (f + 1) (l.drop k) k acc.length = ([], 10, k) := by
    rw [drop_at l k h] at ht ⊢
    simp only [go, hc, if_false, ht]
  unfold rest
  rw [e]
  simp [fin]
theorem rest_some (f : Nat) (l : List UInt8) (k : Nat) (acc : List Tok) (kd n : Nat) (h : k < l.length) (hf : l.length - k < f) (hc : acc.length ≠ 1500) (ht : tok (l.drop k) = some (kd, n)) :
    0 < n ∧ k + n ≤ l.length ∧ l.length - (k + n + skip false (l.drop (k + n))) < f - 1 ∧ rest f l k acc = rest (f - 1) l (k + n + skip false (l.drop (k + n))) (acc ++ [⟨kd, (l.drop k).take n, k⟩]) := by
  obtain ⟨f, rfl⟩ : ∃ g, f = g + 1 := ⟨f - 1, by omega⟩
  obtain ⟨h1, h2⟩ := tok_pos _ _ _ ht
  rw [List.length_drop] at h2
  refine ⟨h1, by omega, by omega, ?_⟩
  unfold rest
  have e : (go (f + 1) (l.drop k) k acc.length) = (⟨kd, (l.drop k).take n, k⟩ :: (go f (l.drop (k + n + skip false (l.drop (k + n)))) (k + n + skip false (l.drop (k + n))) (acc.length + 1)).1, (go f (l.drop (k + n + skip false (l.drop (k + n)))) (k + n + skip false (l.drop (k + n))) (acc.length + 1)).2) := by
    conv => lhs; rw [drop_at l k h]
    rw [drop_at l k h] at ht
    simp only [go, hc, if_false, ht]
    rw [← drop_at l k h]
    simp only [List.drop_drop, Nat.add_assoc]
  rw [e]
  simp only [Nat.add_sub_cancel, List.length_append, List.length_singleton, List.append_assoc, List.singleton_append]

end Go.Proofs.YtbgpboiblggmiaaGreatDoor.Lx

/-
  Plain laws of the classes of bytes that the program writes as ranges.
-/
namespace Go.Proofs.YtbgpboiblggmiaaGreatDoor.Lx

/-- does a byte lie in one of the ranges that a text lists? -/
def inCls : List UInt8 → Int → Bool
  | a :: b :: r, x => (decide ((a.toNat : Int) ≤ x) && decide (x ≤ (b.toNat : Int))) || inCls r x
  | _, _ => false

theorem inCls_at (l : List UInt8) (m : Nat) (x : Int) (h : m + 1 < l.length) : inCls (l.drop m) x = ((decide ((l[m].toNat : Int) ≤ x) && decide (x ≤ (l[m + 1].toNat : Int))) || inCls (l.drop (m + 2)) x) := by
  rw [drop_at l m (by omega), drop_at l (m + 1) h]
  rfl
theorem inCls_end (l : List UInt8) (m : Nat) (x : Int) (h : l.length ≤ m) : inCls (l.drop m) x = false := by
  rw [List.drop_eq_nil_of_le h]; rfl

theorem cls_white (x : Int) : inCls [9, 10, 13, 13, 32, 32] x = white x := by
  rw [Bool.eq_iff_iff]
  simp [inCls, white]
  omega
theorem cls_feed (x : Int) : inCls [10, 10] x = (x == 10) := by
  rw [Bool.eq_iff_iff]
  simp [inCls]
  omega
theorem cls_letter (x : Int) : inCls [65, 90, 97, 122] x = letter x := by
  rw [Bool.eq_iff_iff]
  simp [inCls, letter]
  omega
theorem cls_digit (x : Int) : inCls [48, 57] x = digit x := by
  rw [Bool.eq_iff_iff]
  simp [inCls, digit]
theorem cls_word (x : Int) : inCls [48, 57, 65, 90, 95, 95, 97, 122] x = word x := by
  rw [Bool.eq_iff_iff]
  simp [inCls, word, letter, digit]
  omega

/-- not a line feed -/
def other (c : UInt8) : Bool := !((c.toNat : Int) == 10)
theorem other_iff (c : UInt8) : other c = true ↔ c ≠ 10 := by
  unfold other
  constructor
  · intro h e; subst e; exact absurd h (by decide)
  · intro h
    simp only [Bool.not_eq_true', beq_eq_false_iff_ne, ne_eq]
    intro e
    exact h (UInt8.toNat_inj.1 (by show c.toNat = 10; omega))

theorem run_stop (p : UInt8 → Bool) (l : List UInt8) (h : run p l < l.length) : p (l[run p l]) = false := by
  induction l with
  | nil => simp at h
  | cons c r ih =>
    cases hp : p c
    · have e : run p (c :: r) = 0 := by rw [run_cons, hp]; rfl
      simp only [e, List.getElem_cons_zero]
      exact hp
    · have e : run p (c :: r) = run p r + 1 := by rw [run_cons, hp]; simp; omega
      simp only [e, List.getElem_cons_succ]
      exact ih (by rw [e] at h; simpa using h)
theorem run_stop_at (p : UInt8 → Bool) (l : List UInt8) (a k : Nat) (hk : k = a + run p (l.drop a)) (h : k < l.length) : p l[k] = false := by
  subst hk
  have h1 := run_stop p (l.drop a) (by rw [List.length_drop]; omega)
  simpa using h1

theorem skip_run_white (l : List UInt8) : skip false l = run whiteU l + skip false (l.drop (run whiteU l)) := by
  induction l with
  | nil => rfl
  | cons c r ih =>
    cases hw : whiteU c
    · have e : run whiteU (c :: r) = 0 := by rw [run_cons, hw]; rfl
      rw [e]
      simp
    · have e : run whiteU (c :: r) = run whiteU r + 1 := by rw [run_cons, hw]; simp; omega
      rw [e, List.drop_succ_cons]
      conv => lhs; unfold skip
      simp only [hw, Bool.false_eq_true, if_false, if_true]
      omega
theorem skip_run_other (l : List UInt8) : skip true l = run other l + skip false (l.drop (run other l)) := by
  induction l with
  | nil => rfl
  | cons c r ih =>
    cases hw : other c
    · have e : run other (c :: r) = 0 := by rw [run_cons, hw]; rfl
      have hc : c = 10 := by
        have := other_iff c
        rw [hw] at this
        simpa using this
      rw [e, hc]
      simp [skip, show whiteU 10 = true from by decide]
    · have e : run other (c :: r) = run other r + 1 := by rw [run_cons, hw]; simp; omega
      have hc := (other_iff c).1 hw
      rw [e, List.drop_succ_cons]
      conv => lhs; unfold skip
      simp only [hc, if_false, if_true]
      omega
/-- one step of the program's way through a gap -/
theorem gap_white (l : List UInt8) (a k : Nat) (hk : k = a + run whiteU (l.drop a)) : a + skip false (l.drop a) = k + skip false (l.drop k) := by
  rw [skip_run_white (l.drop a), List.drop_drop, ← hk]
  omega
theorem gap_other (l : List UInt8) (a k : Nat) (hk : k = a + run other (l.drop a)) : a + skip true (l.drop a) = k + skip false (l.drop k) := by
  rw [skip_run_other (l.drop a), List.drop_drop, ← hk]
  omega

theorem lu_run (l : List UInt8) (k m : Nat) (hm : m = k + run wordU (l.drop k)) (h : ∀ h : k < l.length, digitU l[k] = false) : lu (l.drop k) = decide (k < m) := by
  by_cases hlt : k < l.length
  · have hd := h hlt
    cases hw : wordU l[k]
    · rw [run_no _ _ _ hlt hw] at hm
      rw [decide_eq_false (by omega), drop_at l k hlt]
      unfold wordU word at hw
      simp only [Bool.or_eq_false_iff] at hw
      show (letterU l[k] || ((l[k].toNat : Int) == 95)) = false
      rw [show letterU l[k] = false from hw.1.1, hw.2]
      rfl
    · rw [run_yes _ _ _ hlt hw] at hm
      rw [decide_eq_true (by omega), drop_at l k hlt]
      unfold wordU word at hw
      unfold digitU at hd
      rw [hd, Bool.or_false] at hw
      exact hw
  · rw [List.drop_eq_nil_of_le (by omega)] at hm ⊢
    rw [decide_eq_false (by rw [hm]; show ¬ k < k + 0; omega)]
    rfl

end Go.Proofs.YtbgpboiblggmiaaGreatDoor.Lx

/-
  How many tokens there can be.
-/
namespace Go.Proofs.YtbgpboiblggmiaaGreatDoor.Lx

theorem go_len (f : Nat) : ∀ (l : List UInt8) (a c : Nat), c ≤ 1500 → (go f l a c).1.length + c ≤ 1500 := by
  induction f with
  | zero => intro l a c h; simp [go]; omega
  | succ f ih =>
    intro l a c h
    cases l with
    | nil => simp [go]; omega
    | cons x r =>
      unfold go
      split
      · simp; omega
      · rename_i hc
        cases tok (x :: r) with
        | none => simp; omega
        | some kn =>
          have := ih ((List.drop kn.2 (x :: r)).drop (skip false (List.drop kn.2 (x :: r)))) (a + kn.2 + skip false (List.drop kn.2 (x :: r))) (c + 1) (by omega)
          simp only [List.length_cons]
          omega
theorem lex_len (l : List UInt8) : (lex l).1.length ≤ 1500 := by
  unfold lex
  split
  · simp
  · unfold fin
    split
    · have := go_len (l.length + 1) (l.drop (skip false l)) (skip false l) 0 (by omega)
      simpa using this
    · simp
theorem lex_len_of {l : List UInt8} {ts : List Tok} {k p : Nat} (h : lex l = (ts, k, p)) : ts.length ≤ 1500 := by
  have := lex_len l
  rw [h] at this
  exact this

end Go.Proofs.YtbgpboiblggmiaaGreatDoor.Lx

/-
  Plain laws: tokens and gaps cover a source.
-/
namespace Go.Proofs.YtbgpboiblggmiaaGreatDoor.Lx

/-- does a text consist of gaps? -/
def blank (note : Bool) : List UInt8 → Bool
  | [] => true
  | c :: r =>
    if note then blank (other c) r
    else if c = 47 ∧ r.head? = some 47 then blank true r
    else if whiteU c then blank false r
    else false

theorem tok_take_len (l : List UInt8) (k n : Nat) (h : k + n ≤ l.length) : ((l.drop k).take n).length = n := by rw [List.length_take, List.length_drop]; omega

end Go.Proofs.YtbgpboiblggmiaaGreatDoor.Lx

/-
  Plain laws: what the lexer says of a part of a source.
-/
namespace Go.Proofs.YtbgpboiblggmiaaGreatDoor.Lx

theorem tok_cons (c : UInt8) (r : List UInt8) : tok (c :: r) = if letterU c then (if run wordU (c :: r) ≤ 16 then some (1, run wordU (c :: r)) else none) else if digitU c then (if numOk (c :: r) (run digitU (c :: r)) then some (2, run digitU (c :: r)) else none) else (sym (c :: r)).map fun t => (3, t.length) := rfl

/-- one step of the lexer -/
theorem go_step (l : List UInt8) (f k c kd n : Nat) (h : k < l.length) (hc : c ≠ 1500) (ht : tok (l.drop k) = some (kd, n)) :
    go (f + 1) (l.drop k) k c = (⟨kd, (l.drop k).take n, k⟩ :: (go f (l.drop (k + n + skip false (l.drop (k + n)))) (k + n + skip false (l.drop (k + n))) (c + 1)).1, (go f (l.drop (k + n + skip false (l.drop (k + n)))) (k + n + skip false (l.drop (k + n))) (c + 1)).2) := by
  conv => lhs; rw [drop_at l k h]
  rw [drop_at l k h] at ht
  simp only [go, hc, if_false, ht]
  rw [← drop_at l k h]
  simp only [List.drop_drop, Nat.add_assoc]
theorem go_stop (l : List UInt8) (f k c : Nat) (h : k < l.length) (hc : c ≠ 1500) (ht : tok (l.drop k) = none) : go (f + 1) (l.drop k) k c = ([], 10, k) := by
  rw [drop_at l k h] at ht ⊢
  simp only [go, hc, if_false, ht]
theorem go_full (l : List UInt8) (f k : Nat) (h : k < l.length) : go (f + 1) (l.drop k) k 1500 = ([], 2, k) := by
  rw [drop_at l k h]
  simp [go]
theorem go_end (l : List UInt8) (f k c : Nat) (h : l.length ≤ k) : go f (l.drop k) k c = ([], 0, 0) := by
  rw [List.drop_eq_nil_of_le h]
  cases f <;> rfl

theorem next_le (l : List UInt8) (k n : Nat) (h : k + n ≤ l.length) : k + n + skip false (l.drop (k + n)) ≤ l.length := by
  have h1 := skip_le (l.drop (k + n)) false
  rw [List.length_drop] at h1
  omega

/-- every token of a source is the one that begins at its offset -/
theorem go_toks (l : List UInt8) (f : Nat) : ∀ (k c : Nat), k ≤ l.length → ∀ t ∈ (go f (l.drop k) k c).1, tok (l.drop t.off) = some (t.kind, t.text.length) ∧ t.text = (l.drop t.off).take t.text.length := by
  induction f with
  | zero => intro k c _ t ht; simp [go] at ht
  | succ f ih =>
    intro k c hk t ht
    rcases Nat.lt_or_ge k l.length with hlt | hge
    · by_cases hc : c = 1500
      · subst hc; rw [go_full l f k hlt] at ht; simp at ht
      · cases htk : tok (l.drop k) with
        | none => rw [go_stop l f k c hlt hc htk] at ht; simp at ht
        | some kn =>
          obtain ⟨kd, n⟩ := kn
          have hp := tok_pos _ _ _ htk
          rw [List.length_drop] at hp
          rw [go_step l f k c kd n hlt hc htk] at ht
          rcases List.mem_cons.1 ht with rfl | ht
          · have hn := tok_take_len l k n (by omega)
            exact ⟨by rw [hn]; exact htk, by rw [hn]⟩
          · exact ih _ (c + 1) (next_le l k n (by omega)) t ht
    · rw [go_end l (f + 1) k c hge] at ht; simp at ht
theorem lex_toks {l : List UInt8} {ts : List Tok} {k p : Nat} (h : lex l = (ts, k, p)) : ∀ t ∈ ts, tok (l.drop t.off) = some (t.kind, t.text.length) ∧ t.text = (l.drop t.off).take t.text.length := by
  intro t ht
  unfold lex at h
  split at h
  · simp only [Prod.mk.injEq] at h; rw [← h.1] at ht; simp at ht
  · unfold fin at h
    split at h
    · simp only [Prod.mk.injEq] at h
      rw [← h.1] at ht
      exact go_toks l _ _ 0 (skip_le l false) t ht
    · simp only [Prod.mk.injEq] at h; rw [← h.1] at ht; simp at ht

end Go.Proofs.YtbgpboiblggmiaaGreatDoor.Lx

/-
  Plain laws: a source, a line feed and a second source.
-/
namespace Go.Proofs.YtbgpboiblggmiaaGreatDoor.Lx

theorem run_app (p : UInt8 → Bool) (c : UInt8) (hc : p c = false) (l b : List UInt8) : run p (l ++ c :: b) = run p l := by
  induction l with
  | nil => rw [List.nil_append, run_cons, if_neg (by rw [hc]; exact Bool.false_ne_true)]; rfl
  | cons x r ih => rw [List.cons_append, run_cons, run_cons, ih]

theorem lu_app (c : UInt8) (h1 : letterU c = false) (h2 : ((c.toNat : Int) == 95) = false) (l b : List UInt8) : lu (l ++ c :: b) = lu l := by
  cases l with
  | nil => show (letterU c || _) = false; rw [h1, h2]; rfl
  | cons x r => rfl

theorem numOk_app (c : UInt8) (h1 : letterU c = false) (h2 : ((c.toNat : Int) == 95) = false) (x : UInt8) (r b : List UInt8) (n : Nat) (hn : n ≤ (x :: r).length) : numOk ((x :: r) ++ c :: b) n = numOk (x :: r) n := by
  unfold numOk
  rw [List.drop_append_of_le_length hn, lu_app c h1 h2]
  rfl

theorem prefix_app (t l b : List UInt8) (c : UInt8) (hc : c ∉ t) : ((l ++ c :: b).take t.length == t) = (l.take t.length == t) := by
  rw [Bool.eq_iff_iff, beq_iff_eq, beq_iff_eq]
  rcases Nat.le_total t.length l.length with h | h
  · rw [List.take_append_of_le_length h]
  · constructor
    · intro he
      rcases Nat.lt_or_ge l.length t.length with h' | h'
      · exfalso
        apply hc
        have : (l ++ c :: b)[l.length]? = some c := by rw [List.getElem?_append_right (Nat.le_refl _)]; simp
        have h3 : ((l ++ c :: b).take t.length)[l.length]? = some c := by rw [List.getElem?_take, if_pos h', this]
        rw [he] at h3
        exact List.mem_of_getElem? h3
      · rw [List.take_append_of_le_length h'] at he; exact he
    · intro he
      have hl := congrArg List.length he
      rw [List.length_take] at hl
      rw [List.take_append_of_le_length (by omega)]
      exact he

/-- fuel beyond the length changes nothing -/
theorem go_fuel (f : Nat) : ∀ (f' : Nat) (l : List UInt8) (k c : Nat), l.length < f → l.length < f' → go f l k c = go f' l k c := by
  induction f with
  | zero => intro f' l k c h; omega
  | succ f ih =>
    intro f' l k c h h'
    obtain ⟨f', rfl⟩ : ∃ g, f' = g + 1 := ⟨f' - 1, by omega⟩
    cases l with
    | nil => rfl
    | cons x r =>
      unfold go
      split
      · rfl
      · cases ht : tok (x :: r) with
        | none => rfl
        | some kn =>
          have hp := tok_pos _ kn.1 kn.2 ht
          have hlen : ((List.drop kn.2 (x :: r)).drop (skip false (List.drop kn.2 (x :: r)))).length < (x :: r).length := by
            rw [List.length_drop, List.length_drop]
            simp only [List.length_cons] at hp ⊢
            omega
          simp only []
          rw [ih f' _ _ _ (by omega) (by omega)]

/-- the lexer from a token's beginning on, with enough fuel -/
def G (l : List UInt8) (k c : Nat) : List Tok × Nat × Nat := go (l.length + 1) l k c
theorem G_full (x : UInt8) (r : List UInt8) (k : Nat) : G (x :: r) k 1500 = ([], 2, k) := by unfold G; simp [go]
/-- what is left behind a token and its gap -/
def after (l : List UInt8) (n : Nat) : List UInt8 := (l.drop n).drop (skip false (l.drop n))
theorem after_len (l : List UInt8) (n : Nat) (h : 0 < n) (hl : 0 < l.length) : (after l n).length < l.length := by
  unfold after; rw [List.length_drop, List.length_drop]; omega
theorem G_some (x : UInt8) (r : List UInt8) (k c kd n : Nat) (hc : c ≠ 1500) (h : tok (x :: r) = some (kd, n)) :
    G (x :: r) k c = (⟨kd, (x :: r).take n, k⟩ :: (G (after (x :: r) n) (k + n + skip false ((x :: r).drop n)) (c + 1)).1, (G (after (x :: r) n) (k + n + skip false ((x :: r).drop n)) (c + 1)).2) := by
  have hp := tok_pos _ _ _ h
  have hl := after_len (x :: r) n hp.1 (by simp)
  unfold G
  conv => lhs; unfold go
  simp only [hc, if_false, h]
  have e := go_fuel (x :: r).length ((after (x :: r) n).length + 1) (after (x :: r) n) (k + n + skip false ((x :: r).drop n)) (c + 1) (by omega) (by omega)
  show (⟨kd, (x :: r).take n, k⟩ :: (go (x :: r).length (after (x :: r) n) (k + n + skip false ((x :: r).drop n)) (c + 1)).1, (go (x :: r).length (after (x :: r) n) (k + n + skip false ((x :: r).drop n)) (c + 1)).2) = _
  rw [e]

theorem lex_G (l : List UInt8) (h : l.length ≤ 4000) : lex l = fin (G (l.drop (skip false l)) (skip false l) 0) := by
  unfold lex G
  rw [if_neg (by omega), go_fuel (l.length + 1) ((l.drop (skip false l)).length + 1) _ _ _ (by rw [List.length_drop]; omega) (by omega)]

end Go.Proofs.YtbgpboiblggmiaaGreatDoor.Lx

/-
  Plain laws: the tokens of a source, separated by other gaps.
-/
namespace Go.Proofs.YtbgpboiblggmiaaGreatDoor.Lx

theorem sw (c : UInt8) (r : List UInt8) (h : whiteU c = true) : skip false (c :: r) = 1 + skip false r := by
  conv => lhs; unfold skip
  rw [if_neg Bool.false_ne_true, if_pos h]
/-- the tokens' texts, each followed by its gap -/
def lay (ga : Nat → List UInt8) : Nat → List Tok → List UInt8
  | _, [] => []
  | i, t :: r => t.text ++ (ga i ++ lay ga (i + 1) r)
theorem syms_first : ∀ t ∈ refSyms, ∃ c r, t = c :: r ∧ whiteU c = false ∧ c ≠ 47 := by
  intro t ht
  unfold refSyms at ht
  simp only [List.mem_cons, List.not_mem_nil, or_false] at ht
  rcases ht with rfl | rfl | rfl | rfl | rfl | rfl | rfl | rfl | rfl | rfl | rfl | rfl | rfl | rfl | rfl | rfl | rfl | rfl | rfl | rfl | rfl | rfl | rfl | rfl | rfl | rfl | rfl
  all_goals exact ⟨_, _, rfl, by decide, by decide⟩

theorem tok_first (c : UInt8) (r : List UInt8) (kd n : Nat) (h : tok (c :: r) = some (kd, n)) : whiteU c = false ∧ c ≠ 47 := by
  rw [tok_cons] at h
  split at h
  · rename_i hl
    unfold letterU letter at hl
    simp only [Bool.or_eq_true, Bool.and_eq_true, decide_eq_true_eq] at hl
    refine ⟨?_, ?_⟩
    · unfold whiteU white
      simp only [Bool.or_eq_false_iff, beq_eq_false_iff_ne]
      omega
    · rintro rfl
      have : (47 : UInt8).toNat = 47 := rfl
      omega
  · split at h
    · rename_i hd
      unfold digitU digit at hd
      simp only [Bool.and_eq_true, decide_eq_true_eq] at hd
      refine ⟨?_, ?_⟩
      · unfold whiteU white
        simp only [Bool.or_eq_false_iff, beq_eq_false_iff_ne]
        omega
      · rintro rfl
        have : (47 : UInt8).toNat = 47 := rfl
        omega
    · cases hs : sym (c :: r) with
      | none => rw [hs] at h; cases h
      | some t =>
        obtain ⟨h1, _, _⟩ := sym_len _ _ hs
        obtain ⟨c', r', rfl, h2, h3⟩ := syms_first t (List.mem_of_find?_eq_some hs)
        have := congrArg (fun x => x[0]?) h1
        simp at this
        rw [this]
        exact ⟨h2, h3⟩
theorem skip_first (c : UInt8) (r b : List UInt8) (kd n : Nat) (h : tok (c :: r) = some (kd, n)) : skip false (c :: (r ++ b)) = 0 := by
  obtain ⟨h1, h2⟩ := tok_first c r kd n h
  unfold skip
  rw [if_neg Bool.false_ne_true, if_neg (by rw [h1]; exact Bool.false_ne_true), if_neg (by rintro ⟨h, _⟩; exact h2 h)]
/-- kind and text of tokens -/
def keys (l : List Tok) : List (Nat × List UInt8) := l.map fun t => (t.kind, t.text)

end Go.Proofs.YtbgpboiblggmiaaGreatDoor.Lx

/-
  The plain functions of the parser of chapter 2 (trees, readers, items); no program is imported.
-/
namespace Go.Proofs.YtbgpboiblggmiaaGreatDoor.Px
open Lx (Tok)

abbrev Str := List UInt8

/-- a tree -/
inductive T where
  | mk (kind : Int) (name other : Str) (n len init : Int) (ghost : Bool) (kids : List T) (off : Int)

namespace T
def kind : T → Int | mk k _ _ _ _ _ _ _ _ => k
def name : T → Str | mk _ s _ _ _ _ _ _ _ => s
def other : T → Str | mk _ _ s _ _ _ _ _ _ => s
def n : T → Int | mk _ _ _ k _ _ _ _ _ => k
def len : T → Int | mk _ _ _ _ k _ _ _ _ => k
def init : T → Int | mk _ _ _ _ _ k _ _ _ => k
def ghost : T → Bool | mk _ _ _ _ _ _ b _ _ => b
def kids : T → List T | mk _ _ _ _ _ _ _ l _ => l
def off : T → Int | mk _ _ _ _ _ _ _ _ k => k
end T

/-- the zero tree -/
def T.zero : T := .mk 0 [] [] 0 0 0 false [] 0
/-- a tree of a kind at an offset, with kids -/
def T.of (kind : Int) (off : Int) (kids : List T) : T := .mk kind [] [] 0 0 0 false kids off
def T.named (kind : Int) (off : Int) (name : Str) (kids : List T) : T := .mk kind name [] 0 0 0 false kids off

/-- a diagnostic -/
structure D where
  err : Int
  off : Int
deriving DecidableEq

/-- what a reader holds -/
structure St where
  toks : List Tok
  braces : Int
  diags : List D

inductive Res (α : Type) where
  | ok (a : α) (s : St)
  | bad (d : D) (s : St)

def Res.bind {α β : Type} (r : Res α) (f : α → St → Res β) : Res β :=
  match r with
  | .ok a s => f a s
  | .bad d s => .bad d s

def keys : List Str := [[109, 111, 100, 117, 108, 101],
  [111, 119, 110, 101, 114],
  [114, 101, 99, 111, 114, 100],
  [115, 104, 97, 114, 101, 100],
  [103, 104, 111, 115, 116],
  [108, 111, 99, 107],
  [105, 110, 118, 97, 114, 105, 97, 110, 116],
  [114, 101, 108, 121],
  [103, 117, 97, 114, 97, 110, 116, 101, 101],
  [102, 114, 97, 109, 101],
  [112, 114, 111, 99],
  [108, 111, 99, 107, 101, 100],
  [108, 111, 99, 97, 108],
  [97, 115, 115, 101, 114, 116],
  [114, 101, 108, 101, 97, 115, 101],
  [119, 105, 116, 104],
  [97, 116, 111, 109, 105, 99],
  [119, 104, 101, 110],
  [99, 97, 115],
  [105, 110, 116, 111],
  [97, 99, 113, 117, 105, 114, 101],
  [102, 114, 101, 101],
  [102, 101, 110, 99, 101],
  [115, 112, 97, 119, 110],
  [106, 111, 105, 110],
  [97, 119, 97, 105, 116],
  [115, 107, 105, 112],
  [105, 102],
  [101, 108, 115, 101],
  [119, 104, 105, 108, 101],
  [118, 97, 114, 105, 97, 110, 116],
  [99, 97, 108, 108],
  [116, 104, 114, 101, 97, 100],
  [97, 115, 108, 101, 101, 112],
  [111, 108, 100],
  [97, 108, 108],
  [115, 111, 109, 101]]
def isKey (s : Str) : Bool := keys.contains s

section
variable (E : Nat)

/-- the next token, or one without a text at the end -/
def peek (s : St) : Tok := match s.toks with | [] => ⟨0, [], E⟩ | t :: _ => t
def text (s : St) : Str := (peek E s).text
def kindOf (s : St) : Nat := (peek E s).kind
def offOf (s : St) : Int := ((peek E s).off : Int)
def wrongD (s : St) : D := ⟨match s.toks with | [] => 21 | _ :: _ => 20, offOf E s⟩
def wrong {α : Type} (s : St) : Res α := .bad (wrongD E s) s
def rest (s : St) : St := { s with toks := s.toks.tail }
def accepts (x : Str) (s : St) : Bool := text E s == x
def accepted (x : Str) (s : St) : St := if accepts E x s then rest s else s
def expect (x : Str) (s : St) : Res Unit := if accepts E x s then .ok () (rest s) else wrong E s
def name (s : St) : Res Str := if kindOf E s = 1 ∧ isKey (text E s) = false then .ok (text E s) (rest s) else wrong E s
def pathGo : Nat → Str → St → Res Str
  | 0, p, s => .ok p s
  | k + 1, p, s => if accepts E [46] s then (name E (rest s)).bind fun q s => pathGo k (p ++ ([46] ++ q)) s else .ok p s
def path (s : St) : Res Str := (name E s).bind fun p s => pathGo E 2 p s
def numVal (l : Str) : Int := l.foldl (fun a c => 10 * a + ((c.toNat : Int) - 48)) 0
def number (s : St) : Res Int := if kindOf E s = 2 then .ok (numVal (text E s)) (rest s) else wrong E s
def length (s : St) : Res Int := if accepts E [48] s then .bad ⟨2, offOf E s⟩ s else number E s

/-- parts separated by commas -/
def sepGo (part : St → Res T) : Nat → List T → St → Res (List T)
  | 0, l, s => .ok l s
  | k + 1, l, s => if accepts E [44] s then (part (rest s)).bind fun t s => sepGo part k (l ++ [t]) s else .ok l s
def separated (part : St → Res T) (s : St) : Res (List T) := (part s).bind fun t s => sepGo E part (s.toks.length + 1) [t] s
def tuple (part : St → Res T) (s : St) : Res (List T) :=
  (expect E [40] s).bind fun _ s =>
  if accepts E [41] s then .ok [] (rest s) else
  (separated E part s).bind fun l s => (expect E [41] s).bind fun _ s => .ok l s

def level (x : Str) : Int :=
  if x = [61, 61, 62] then 1 else if x = [124, 124] then 2 else if x = [38, 38] then 3
  else if x = [61, 61] ∨ x = [33, 61] ∨ x = [60] ∨ x = [60, 61] then 4
  else if x = [124] then 5 else if x = [94] then 6 else if x = [38] then 7
  else if x = [43] ∨ x = [45] then 8 else if x = [42] then 9 else 0
def leastOnTheRight (now : Int) : Int := if now = 1 then now else now + 1
def mostAfter (now : Int) : Int := if now = 4 then now - 1 else now

def numeral (s : St) : Res T := (number E s).bind fun n s' => .ok (.mk 1 [] [] n 0 0 false [] (offOf E s)) s'
def pvar (s : St) : Res T := (path E s).bind fun p s' => .ok (T.named 2 (offOf E s) p []) s'

/-- the places of an expression -/
inductive P where
  | expr | cond | bin (least : Int) | loop (least most : Int) (n : T) | unary | ref

def run : Nat → P → St → Res T
  | 0, _, s => wrong E s
  | k + 1, .expr, s =>
    if accepts E [97, 108, 108] s ∨ accepts E [115, 111, 109, 101] s then
      (name E (rest s)).bind fun x s1 => (expect E [60] s1).bind fun _ s2 => (number E s2).bind fun m s3 => (expect E [58] s3).bind fun _ s4 =>
      (run k .expr s4).bind fun e s5 => .ok (.mk (if accepts E [97, 108, 108] s then 7 else 8) x [] m 0 0 false [e] (offOf E s)) s5
    else run k .cond s
  | k + 1, .cond, s =>
    (run k (.bin 1) s).bind fun n s1 =>
    if accepts E [63] s1 then
      (run k .cond (rest s1)).bind fun y s2 => (expect E [58] s2).bind fun _ s3 => (run k .cond s3).bind fun z s4 =>
      .ok (T.of 6 (offOf E s1) [n, y, z]) s4
    else .ok n s1
  | k + 1, .bin least, s => (run k .unary s).bind fun n s1 => run k (.loop least 9 n) s1
  | k + 1, .loop least most n, s =>
    let now := level (text E s)
    if now < least ∨ most < now then .ok n s else
    (run k (.bin (leastOnTheRight now)) (rest s)).bind fun m s1 =>
    run k (.loop least (mostAfter now) (T.named 5 (offOf E s) (text E s) [n, m])) s1
  | k + 1, .unary, s =>
    if accepts E [33] s then (run k .unary (rest s)).bind fun n s1 => .ok (T.of 4 (offOf E s) [n]) s1
    else if accepts E [111, 108, 100] s then
      (expect E [40] (rest s)).bind fun _ s1 => (run k .ref s1).bind fun n s2 => (expect E [41] s2).bind fun _ s3 => .ok (T.of 3 (offOf E s) [n]) s3
    else if accepts E [40] s then
      (run k .expr (rest s)).bind fun n s1 => (expect E [41] s1).bind fun _ s2 => .ok n s2
    else if kindOf E s = 2 then numeral E s
    else run k .ref s
  | k + 1, .ref, s =>
    (pvar E s).bind fun n s1 =>
    if accepts E [91] s1 then
      (run k .expr (rest s1)).bind fun e s2 => (expect E [93] s2).bind fun _ s3 => .ok (T.named 2 n.off n.name [e]) s3
    else .ok n s1

/-- enough rounds for what is left -/
def fuel (s : St) : Nat := 6 * s.toks.length + 6
def expr (s : St) : Res T := run E (fuel s) .expr s
def refr (s : St) : Res T := run E (fuel s) .ref s
def whole (s : St) : Res T := (expr E s).bind fun n s => match s.toks with | [] => .ok n s | _ :: _ => wrong E s

/-- the rest of a wrong item -/
def skipGo (inBraces : Bool) : List Tok → Int → List Tok
  | [], _ => []
  | t :: r, depth =>
    if inBraces && depth == 0 && t.text == [125] then t :: r
    else if t.text = [123] then skipGo inBraces r (depth + 1)
    else if t.text = [125] then
      (if depth - 1 < 0 then r
       else if depth - 1 = 0 then (match r with | [] => [] | u :: q => if u.text = [59] then q else u :: q)
       else skipGo inBraces r (depth - 1))
    else if t.text = [59] ∧ depth = 0 then r
    else skipGo inBraces r depth
def report (d : D) (l : List D) : List D :=
  if decide (l.length < 20) && (match l.getLast? with | .none => true | .some e => decide (e.off ≠ d.off)) then l ++ [d] else l

/-- an item: its tree, or none, and what is left -/
def item (rd : St → Res T) (inBraces : Bool) (s : St) : Option T × St :=
  match rd s with
  | .ok t s1 => (some t, s1)
  | .bad d s1 => (none, ⟨skipGo inBraces s1.toks s1.braces, 0, report d s1.diags⟩)
def more (l : List T) : Option T → List T
  | none => l
  | some t => l ++ [t]
def listGo (rd : St → Res T) : Nat → List T → St → Res (List T)
  | 0, _, s => wrong E s
  | k + 1, l, s =>
    if accepts E [125] s then .ok l (rest s) else
    match s.toks with
    | [] => wrong E s
    | _ :: _ => listGo rd k (more l (item rd true s).1) (item rd true s).2
def list (rd : St → Res T) (s : St) : Res (List T) := (expect E [123] s).bind fun _ s => listGo E rd (s.toks.length + 1) [] s
def unitsGo (rd : St → Res T) : Nat → List T → St → List T × St
  | 0, l, s => (l, s)
  | k + 1, l, s =>
    match s.toks with
    | [] => (l, s)
    | _ :: _ => unitsGo rd k (more l (item rd false s).1) (item rd false s).2

def assign (l : List T) (s : St) : Res (List T) :=
  (refr E s).bind fun r s => (expect E [58, 61] s).bind fun _ s => (expr E s).bind fun e s => .ok (l ++ [r, e]) s
def assignsGo : Nat → List T → St → Res (List T)
  | 0, l, s => .ok l s
  | k + 1, l, s => if accepts E [44] s then (assign E l (rest s)).bind fun l s => assignsGo k l s else .ok l s
def assigns (l : List T) (s : St) : Res (List T) := (assign E l s).bind fun l s => assignsGo E (s.toks.length + 1) l s
def withs (l : List T) (s : St) : Res (List T) := if accepts E [119, 105, 116, 104] s then assigns E l (rest s) else .ok l s

def claim (kind : Int) (s : St) : Res T :=
  (expr E (rest s)).bind fun e s1 => (expect E [59] s1).bind fun _ s2 => .ok (T.of kind (offOf E s) [e]) s2
def bare (kind : Int) (s : St) : Res T := (expect E [59] (rest s)).bind fun _ s1 => .ok (T.of kind (offOf E s) []) s1
def named (kind : Int) (nm : St → Res Str) (s : St) : Res T :=
  (nm (rest s)).bind fun x s1 => (expect E [59] s1).bind fun _ s2 => .ok (T.named kind (offOf E s) x []) s2
def assignment (s : St) : Res T :=
  (assign E [] (accepted E [114, 101, 108, 101, 97, 115, 101] s)).bind fun l s1 => (withs E l s1).bind fun l s2 => (expect E [59] s2).bind fun _ s3 =>
  .ok (.mk 21 [] [] (if accepts E [114, 101, 108, 101, 97, 115, 101] s then 1 else 0) 0 0 false l (offOf E s)) s3
def none (off : Int) : T := T.of 63 off []
def atomic (s : St) : Res T :=
  (expect E [123] (rest s)).bind fun _ s1 =>
  (if accepts E [125] s1 then .ok [none (offOf E s)] { s1 with braces := 1 } else assigns E [none (offOf E s)] { s1 with braces := 1 }).bind fun l s2 =>
  (expect E [125] s2).bind fun _ s3 =>
  (if accepts E [119, 104, 101, 110] s3 then (expr E (rest { s3 with braces := 0 })).bind fun g s4 => .ok (g :: l.tail) s4 else .ok l { s3 with braces := 0 }).bind fun l s5 =>
  (expect E [59] s5).bind fun _ s6 => .ok (T.of 22 (offOf E s) l) s6
def cas (s : St) : Res T :=
  (refr E (rest s)).bind fun a s1 => (expect E [44] s1).bind fun _ s2 => (expr E s2).bind fun b s3 => (expect E [44] s3).bind fun _ s4 =>
  (expr E s4).bind fun c s5 => (expect E [105, 110, 116, 111] s5).bind fun _ s6 => (refr E s6).bind fun d s7 => (withs E [a, b, c, d] s7).bind fun l s8 =>
  (expect E [59] s8).bind fun _ s9 => .ok (T.of 23 (offOf E s) l) s9
def call (s : St) : Res T :=
  (path E (rest s)).bind fun x s1 => (tuple E (expr E) s1).bind fun l s2 => (expect E [59] s2).bind fun _ s3 => .ok (T.named 33 (offOf E s) x l) s3
def typed (s : St) : Res (Str × Int) := (name E s).bind fun x s1 => (expect E [58] s1).bind fun _ s2 => (number E s2).bind fun m s3 => .ok (x, m) s3
def plocal (s : St) : Res T :=
  (expect E [108, 111, 99, 97, 108] (accepted E [103, 104, 111, 115, 116] s)).bind fun _ s1 => (typed E s1).bind fun p s2 => (expect E [59] s2).bind fun _ s3 =>
  .ok (.mk 35 p.1 [] p.2 0 0 (accepts E [103, 104, 111, 115, 116] s) [] (offOf E s)) s3

def block (rd : St → Res T) (s : St) : Res T := (list E rd s).bind fun l s1 => .ok (T.of 34 (offOf E s) l) s1
def branch (rd : St → Res T) (s : St) : Res T :=
  (expr E (rest s)).bind fun e s1 => (block E rd s1).bind fun y s2 =>
  (if accepts E [101, 108, 115, 101] s2 then block E rd (rest s2) else .ok (T.of 34 (offOf E s) []) s2).bind fun z s3 => .ok (T.of 31 (offOf E s) [e, y, z]) s3
def loop (rd : St → Res T) (s : St) : Res T :=
  (expr E (rest s)).bind fun e s1 =>
  (if accepts E [118, 97, 114, 105, 97, 110, 116] s1 then expr E (rest s1) else .ok (none (offOf E s)) s1).bind fun v s2 =>
  (block E rd s2).bind fun b s3 => .ok (T.of 32 (offOf E s) [e, v, b]) s3
def statement : Nat → St → Res T
  | 0, s => wrong E s
  | k + 1, s =>
    if accepts E [97, 115, 115, 101, 114, 116] s then claim E 20 s
    else if accepts E [97, 119, 97, 105, 116] s then claim E 29 s
    else if accepts E [102, 101, 110, 99, 101] s then bare E 26 s
    else if accepts E [115, 107, 105, 112] s then bare E 30 s
    else if accepts E [97, 116, 111, 109, 105, 99] s then atomic E s
    else if accepts E [99, 97, 115] s then cas E s
    else if accepts E [97, 99, 113, 117, 105, 114, 101] s then named E 24 (path E) s
    else if accepts E [102, 114, 101, 101] s then named E 25 (path E) s
    else if accepts E [115, 112, 97, 119, 110] s then named E 27 (name E) s
    else if accepts E [106, 111, 105, 110] s then named E 28 (name E) s
    else if accepts E [105, 102] s then branch E (statement k) s
    else if accepts E [119, 104, 105, 108, 101] s then loop E (statement k) s
    else if accepts E [99, 97, 108, 108] s then call E s
    else if accepts E [103, 104, 111, 115, 116] s ∨ accepts E [108, 111, 99, 97, 108] s then plocal E s
    else assignment E s
def stmt (s : St) : Res T := statement E (s.toks.length + 1) s

def field (s : St) : Res T := (typed E s).bind fun p s1 => (expect E [59] s1).bind fun _ s2 => .ok (.mk 52 p.1 [] p.2 0 0 false [] (offOf E s)) s2
def param (s : St) : Res T := (typed E s).bind fun p s1 => .ok (.mk 58 p.1 [] p.2 0 0 false [] (offOf E s)) s1
def record (s : St) : Res T := (name E (rest s)).bind fun x s1 => (list E (field E) s1).bind fun l s2 => .ok (T.named 51 (offOf E s) x l) s2
def shared (s : St) : Res T :=
  (expect E [115, 104, 97, 114, 101, 100] (accepted E [103, 104, 111, 115, 116] s)).bind fun _ s1 => (name E s1).bind fun x s2 =>
  (if accepts E [91] s2 then (length E (rest s2)).bind fun m s3 => (expect E [93] s3).bind fun _ s4 => .ok m s4 else .ok 0 s2).bind fun len s5 =>
  (expect E [58] s5).bind fun _ s6 =>
  (if kindOf E s6 = 2 then (number E s6).bind fun m s7 => .ok ([], m) s7 else (name E s6).bind fun y s7 => .ok (y, 0) s7).bind fun q s8 =>
  (if accepts E [61] s8 then number E (rest s8) else .ok 0 s8).bind fun i s9 =>
  (expect E [59] s9).bind fun _ s10 => .ok (.mk 50 x q.1 q.2 len i (accepts E [103, 104, 111, 115, 116] s) [] (offOf E s)) s10
def lock (s : St) : Res T :=
  (name E (rest s)).bind fun x s1 => (expect E [105, 110, 118, 97, 114, 105, 97, 110, 116] s1).bind fun _ s2 => (expr E s2).bind fun e s3 => (expect E [59] s3).bind fun _ s4 =>
  .ok (T.named 53 (offOf E s) x [e]) s4
def frame (s : St) : Res T := (separated E (pvar E) (rest s)).bind fun l s1 => (expect E [59] s1).bind fun _ s2 => .ok (T.of 56 (offOf E s) l) s2
def proc (s : St) : Res T :=
  (name E (rest s)).bind fun x s1 => (tuple E (param E) s1).bind fun l s2 =>
  (if accepts E [108, 111, 99, 107, 101, 100] s2 then name E (rest s2) else .ok [] s2).bind fun y s3 =>
  (block E (stmt E) s3).bind fun b s4 => .ok (.mk 57 x y 0 0 0 false (l ++ [b]) (offOf E s)) s4
def declaration (s : St) : Res T :=
  if accepts E [114, 101, 99, 111, 114, 100] s then record E s
  else if accepts E [108, 111, 99, 107] s then lock E s
  else if accepts E [114, 101, 108, 121] s then claim E 54 s
  else if accepts E [103, 117, 97, 114, 97, 110, 116, 101, 101] s then claim E 55 s
  else if accepts E [102, 114, 97, 109, 101] s then frame E s
  else if accepts E [112, 114, 111, 99] s then proc E s
  else shared E s
def module (s : St) : Res T :=
  (name E (rest s)).bind fun x s1 => (expect E [111, 119, 110, 101, 114] s1).bind fun _ s2 => (name E s2).bind fun y s3 =>
  (list E (declaration E) s3).bind fun l s4 => .ok (.mk 60 x y 0 0 0 false l (offOf E s)) s4
def thread (s : St) : Res T :=
  (expect E [116, 104, 114, 101, 97, 100] (accepted E [97, 115, 108, 101, 101, 112] s)).bind fun _ s1 => (name E s1).bind fun x s2 => (expect E [61] s2).bind fun _ s3 =>
  (path E s3).bind fun p s4 => (tuple E (numeral E) s4).bind fun l s5 => (expect E [59] s5).bind fun _ s6 =>
  .ok (.mk 61 x p (if accepts E [97, 115, 108, 101, 101, 112] s then 1 else 0) 0 0 false l (offOf E s)) s6
def unit (s : St) : Res T := if accepts E [109, 111, 100, 117, 108, 101] s then module E s else thread E s
end

mutual
/-- the number of nodes, and the depth -/
def size : T → Nat
  | .mk _ _ _ _ _ _ _ kids _ => 1 + sizes kids
def sizes : List T → Nat
  | [] => 0
  | t :: r => size t + sizes r
end
mutual
def depth : T → Nat
  | .mk _ _ _ _ _ _ _ kids _ => 1 + depths kids
def depths : List T → Nat
  | [] => 0
  | t :: r => Nat.max (depth t) (depths r)
end
def fits (t : T) : Bool := decide (size t ≤ 1500) && decide (depth t ≤ 40)

def start (ts : List Tok) : St := ⟨ts, 0, []⟩
def source (l : List T) : T := T.of 62 0 l
/-- chapter 2's Parse -/
def parse (l : List UInt8) : T × List D :=
  let r := Lx.lex l
  if r.2.1 ≠ 0 then (source [], [⟨r.2.1, r.2.2⟩]) else
  let u := unitsGo (unit l.length) (r.1.length + 1) [] (start r.1)
  if u.2.diags = [] ∧ fits (source u.1) = false then (source [], [⟨2, 0⟩]) else (source u.1, u.2.diags)
/-- chapter 2's ParseExpr -/
def parseExpr (l : List UInt8) : T × List D :=
  let r := Lx.lex l
  if r.2.1 ≠ 0 then (T.zero, [⟨r.2.1, r.2.2⟩]) else
  match item (whole l.length) false (start r.1) with
  | (.none, s) => (T.zero, s.diags)
  | (some t, _) => if fits t then (t, []) else (T.zero, [⟨2, 0⟩])
end Go.Proofs.YtbgpboiblggmiaaGreatDoor.Px

/-
  The plain parser takes tokens: how many are left.
-/
namespace Go.Proofs.YtbgpboiblggmiaaGreatDoor.Px
variable {E : Nat}

theorem bind_inv {α β : Type} {m : Res α} {f : α → St → Res β} {b : β} {s2 : St} (h : m.bind f = .ok b s2) : ∃ a s1, m = .ok a s1 ∧ f a s1 = .ok b s2 := by
  cases m with
  | ok a s => exact ⟨a, s, rfl, h⟩
  | bad d s => cases h

/-- tokens left -/
def left (s : St) : Nat := s.toks.length

theorem acc_left {x : Str} {s : St} (h : accepts E x s = true) (hx : x ≠ []) : left (rest s) + 1 = left s := by
  unfold accepts text peek at h
  unfold left rest
  cases hs : s.toks with
  | nil =>
    rw [hs] at h
    exact absurd (eq_of_beq h).symm hx
  | cons t r => simp
theorem kind_left {s : St} {k : Nat} (h : kindOf E s = k) (hk : k ≠ 0) : left (rest s) + 1 = left s := by
  unfold kindOf peek at h
  unfold left rest
  cases hs : s.toks with
  | nil => rw [hs] at h; exact absurd h.symm hk
  | cons t r => simp
theorem expect_inv {x : Str} {s s2 : St} {a : Unit} (h : expect E x s = .ok a s2) : accepts E x s = true ∧ s2 = rest s := by
  unfold expect wrong at h
  split at h
  · rename_i hc; cases h; exact ⟨hc, rfl⟩
  · cases h
theorem expect_left {x : Str} {s s2 : St} {a : Unit} (h : expect E x s = .ok a s2) (hx : x ≠ []) : left s2 + 1 = left s := by
  obtain ⟨h1, rfl⟩ := expect_inv h
  exact acc_left h1 hx
theorem name_left {s s2 : St} {a : Str} (h : name E s = .ok a s2) : left s2 + 1 = left s := by
  unfold name wrong at h
  split at h
  · rename_i hc; cases h; exact kind_left hc.1 (by decide)
  · cases h
theorem number_left {s s2 : St} {a : Int} (h : number E s = .ok a s2) : left s2 + 1 = left s := by
  unfold number wrong at h
  split at h
  · rename_i hc; cases h; exact kind_left hc (by decide)
  · cases h
theorem pathGo_left : ∀ (k : Nat) (p : Str) {s s2 : St} {a : Str}, pathGo E k p s = .ok a s2 → left s2 ≤ left s
  | 0, p, s, s2, a, h => by rw [pathGo] at h; cases h; exact Nat.le_refl _
  | k + 1, p, s, s2, a, h => by
    rw [pathGo] at h
    split at h
    · rename_i hc
      obtain ⟨q, s1, h1, h2⟩ := bind_inv h
      have := pathGo_left k _ h2
      have := name_left h1
      have := acc_left hc (by decide)
      omega
    · cases h; exact Nat.le_refl _
theorem path_left {s s2 : St} {a : Str} (h : path E s = .ok a s2) : left s2 < left s := by
  unfold path at h
  obtain ⟨q, s1, h1, h2⟩ := bind_inv h
  have := pathGo_left 2 _ h2
  have := name_left h1
  omega
theorem numeral_left {s s2 : St} {a : T} (h : numeral E s = .ok a s2) : left s2 + 1 = left s := by
  unfold numeral at h
  obtain ⟨q, s1, h1, h2⟩ := bind_inv h
  cases h2
  exact number_left h1
theorem pvar_left {s s2 : St} {a : T} (h : pvar E s = .ok a s2) : left s2 < left s := by
  unfold pvar at h
  obtain ⟨q, s1, h1, h2⟩ := bind_inv h
  cases h2
  exact path_left h1

/-- is the place one that takes a token at least? -/
def takes : P → Bool
  | .loop _ _ _ => false
  | _ => true

theorem run_left : ∀ (k : Nat) (p : P) {s s2 : St} {a : T}, run E k p s = .ok a s2 → left s2 + (if takes p then 1 else 0) ≤ left s
  | 0, p, s, s2, a, h => by rw [run] at h; cases h
  | k + 1, .expr, s, s2, a, h => by
    rw [run] at h
    split at h
    · rename_i hc
      have h0 : left (rest s) + 1 = left s := by
        rcases hc with hc | hc
        · exact acc_left hc (by decide)
        · exact acc_left hc (by decide)
      obtain ⟨x1, s1, e1, h⟩ := bind_inv h
      obtain ⟨x2, s2, e2, h⟩ := bind_inv h
      obtain ⟨x3, s3, e3, h⟩ := bind_inv h
      obtain ⟨x4, s4, e4, h⟩ := bind_inv h
      obtain ⟨x5, s5, e5, h⟩ := bind_inv h
      cases h
      have := name_left e1
      have := expect_left e2 (by decide)
      have := number_left e3
      have := expect_left e4 (by decide)
      have := run_left k _ e5
      try simp only [takes] at *
      omega
    · have := run_left k _ h
      simpa [takes] using this
  | k + 1, .cond, s, s2, a, h => by
    rw [run] at h
    obtain ⟨x1, s1, e1, h⟩ := bind_inv h
    have h1 := run_left k _ e1
    split at h
    · rename_i hc
      have h0 := acc_left hc (by decide)
      obtain ⟨x2, s2, e2, h⟩ := bind_inv h
      obtain ⟨x3, s3, e3, h⟩ := bind_inv h
      obtain ⟨x4, s4, e4, h⟩ := bind_inv h
      cases h
      have := run_left k _ e2
      have := expect_left e3 (by decide)
      have := run_left k _ e4
      try simp only [takes] at *
      omega
    · cases h
      simpa [takes] using h1
  | k + 1, .bin least, s, s2, a, h => by
    rw [run] at h
    obtain ⟨x1, s1, e1, h⟩ := bind_inv h
    have h1 := run_left k _ e1
    have h2 := run_left k _ h
    try simp only [takes] at *
    try simp at *
    omega
  | k + 1, .loop least most n, s, s2, a, h => by
    rw [run] at h
    try simp only at h
    split at h
    · cases h; simp [takes]
    · obtain ⟨x1, s1, e1, h⟩ := bind_inv h
      have h1 := run_left k _ e1
      have h2 := run_left k _ h
      have h3 : left (rest s) ≤ left s := by unfold left rest; simp
      try simp only [takes] at *
      try simp at *
      omega
  | k + 1, .unary, s, s2, a, h => by
    rw [run] at h
    split at h
    · rename_i hc
      have h0 := acc_left hc (by decide)
      obtain ⟨x1, s1, e1, h⟩ := bind_inv h
      cases h
      have h1 := run_left k _ e1
      try simp only [takes] at *
      try simp at *
      omega
    · split at h
      · rename_i hc
        have h0 := acc_left hc (by decide)
        obtain ⟨x1, s1, e1, h⟩ := bind_inv h
        obtain ⟨x2, s2, e2, h⟩ := bind_inv h
        obtain ⟨x3, s3, e3, h⟩ := bind_inv h
        cases h
        have := expect_left e1 (by decide)
        have := run_left k _ e2
        have := expect_left e3 (by decide)
        try simp only [takes] at *
        try simp at *
        omega
      · split at h
        · rename_i hc
          have h0 := acc_left hc (by decide)
          obtain ⟨x1, s1, e1, h⟩ := bind_inv h
          obtain ⟨x2, s2, e2, h⟩ := bind_inv h
          cases h
          have := run_left k _ e1
          have := expect_left e2 (by decide)
          try simp only [takes] at *
          try simp at *
          omega
        · split at h
          · have := numeral_left h
            simp only [takes]
            simp
            omega
          · have := run_left k _ h
            simpa [takes] using this
  | k + 1, .ref, s, s2, a, h => by
    rw [run] at h
    obtain ⟨x1, s1, e1, h⟩ := bind_inv h
    have h1 := pvar_left e1
    split at h
    · rename_i hc
      have h0 := acc_left hc (by decide)
      obtain ⟨x2, s2, e2, h⟩ := bind_inv h
      obtain ⟨x3, s3, e3, h⟩ := bind_inv h
      cases h
      have := run_left k _ e2
      have := expect_left e3 (by decide)
      try simp only [takes] at *
      try simp at *
      omega
    · cases h
      simp [takes]
      omega
end Go.Proofs.YtbgpboiblggmiaaGreatDoor.Px

/-
  The plain parser leaves an end of the tokens, whatever it answers.
-/
namespace Go.Proofs.YtbgpboiblggmiaaGreatDoor.Px
variable {E : Nat}

def Res.st {α : Type} : Res α → St
  | .ok _ s => s
  | .bad _ s => s
/-- what is left is an end of what was there -/
def Suf {α : Type} (r : Res α) (s : St) : Prop := r.st.toks <:+ s.toks

theorem suf_bind {α β : Type} {r : Res α} {s : St} {f : α → St → Res β} (h : Suf r s) (hf : ∀ a s1, r = .ok a s1 → Suf (f a s1) s1) : Suf (r.bind f) s := by
  cases r with
  | ok a s1 => exact List.IsSuffix.trans (hf a s1 rfl) h
  | bad d s1 => exact h
theorem suf_rest (s : St) : (rest s).toks <:+ s.toks := List.tail_suffix _
theorem suf_of {α : Type} {r : Res α} {s s1 : St} (h : Suf r s1) (h1 : s1.toks <:+ s.toks) : Suf r s := List.IsSuffix.trans h h1
theorem suf_same {α : Type} {s : St} (a : α) : Suf (.ok a s) s := List.suffix_refl _
theorem suf_wrong {α : Type} (s : St) : Suf (wrong E s : Res α) s := List.suffix_refl _
theorem suf_expect (x : Str) (s : St) : Suf (expect E x s) s := by
  unfold expect
  split
  · exact suf_rest s
  · exact suf_wrong s
theorem suf_name (s : St) : Suf (name E s) s := by
  unfold name
  split
  · exact suf_rest s
  · exact suf_wrong s
theorem suf_number (s : St) : Suf (number E s) s := by
  unfold number
  split
  · exact suf_rest s
  · exact suf_wrong s
theorem suf_length (s : St) : Suf (length E s) s := by
  unfold length
  split
  · exact List.suffix_refl _
  · exact suf_number s
theorem suf_pathGo : ∀ (k : Nat) (p : Str) (s : St), Suf (pathGo E k p s) s
  | 0, p, s => by rw [pathGo]; exact suf_same _
  | k + 1, p, s => by
    rw [pathGo]
    split
    · exact suf_of (suf_bind (suf_name _) (fun a s1 _ => suf_pathGo k _ s1)) (suf_rest s)
    · exact suf_same _
theorem suf_path (s : St) : Suf (path E s) s := by
  unfold path
  exact suf_bind (suf_name s) (fun a s1 _ => suf_pathGo 2 _ s1)
theorem suf_numeral (s : St) : Suf (numeral E s) s := by
  unfold numeral
  exact suf_bind (suf_number s) (fun a s1 _ => suf_same _)
theorem suf_pvar (s : St) : Suf (pvar E s) s := by
  unfold pvar
  exact suf_bind (suf_path s) (fun a s1 _ => suf_same _)
theorem suf_run : ∀ (k : Nat) (p : P) (s : St), Suf (run E k p s) s
  | 0, p, s => by rw [run]; exact suf_wrong s
  | k + 1, .expr, s => by
    rw [run]
    split
    · exact suf_of (suf_bind (suf_name _) fun _ _ _ => suf_bind (suf_expect _ _) fun _ _ _ => suf_bind (suf_number _) fun _ _ _ => suf_bind (suf_expect _ _) fun _ _ _ => suf_bind (suf_run k _ _) fun _ _ _ => suf_same _) (suf_rest s)
    · exact suf_run k _ s
  | k + 1, .cond, s => by
    rw [run]
    refine suf_bind (suf_run k _ _) fun _ s1 _ => ?_
    split
    · exact suf_of (suf_bind (suf_run k _ _) fun _ _ _ => suf_bind (suf_expect _ _) fun _ _ _ => suf_bind (suf_run k _ _) fun _ _ _ => suf_same _) (suf_rest s1)
    · exact suf_same _
  | k + 1, .bin least, s => by
    rw [run]
    exact suf_bind (suf_run k _ _) fun _ s1 _ => suf_run k _ s1
  | k + 1, .loop least most n, s => by
    rw [run]
    try simp only
    split
    · exact suf_same _
    · exact suf_of (suf_bind (suf_run k _ _) fun _ _ _ => suf_run k _ _) (suf_rest s)
  | k + 1, .unary, s => by
    rw [run]
    split
    · exact suf_of (suf_bind (suf_run k _ _) fun _ _ _ => suf_same _) (suf_rest s)
    · split
      · exact suf_of (suf_bind (suf_expect _ _) fun _ _ _ => suf_bind (suf_run k _ _) fun _ _ _ => suf_bind (suf_expect _ _) fun _ _ _ => suf_same _) (suf_rest s)
      · split
        · exact suf_of (suf_bind (suf_run k _ _) fun _ _ _ => suf_bind (suf_expect _ _) fun _ _ _ => suf_same _) (suf_rest s)
        · split
          · exact suf_numeral s
          · exact suf_run k _ s
  | k + 1, .ref, s => by
    rw [run]
    refine suf_bind (suf_pvar _) fun _ s1 _ => ?_
    split
    · exact suf_of (suf_bind (suf_run k _ _) fun _ _ _ => suf_bind (suf_expect _ _) fun _ _ _ => suf_same _) (suf_rest s1)
    · exact suf_same _
theorem suf_expr (s : St) : Suf (expr E s) s := suf_run _ _ s
theorem suf_refr (s : St) : Suf (refr E s) s := suf_run _ _ s
theorem suf_sepGo {part : St → Res T} (hp : ∀ s, Suf (part s) s) : ∀ (k : Nat) (l : List T) (s : St), Suf (sepGo E part k l s) s
  | 0, l, s => by rw [sepGo]; exact suf_same _
  | k + 1, l, s => by
    rw [sepGo]
    split
    · exact suf_of (suf_bind (hp _) fun _ s1 _ => suf_sepGo hp k _ s1) (suf_rest s)
    · exact suf_same _
theorem suf_separated {part : St → Res T} (hp : ∀ s, Suf (part s) s) (s : St) : Suf (separated E part s) s := by
  unfold separated
  exact suf_bind (hp s) fun _ s1 _ => suf_sepGo hp _ _ s1
theorem suf_tuple {part : St → Res T} (hp : ∀ s, Suf (part s) s) (s : St) : Suf (tuple E part s) s := by
  unfold tuple
  refine suf_bind (suf_expect _ _) fun _ s1 _ => ?_
  split
  · exact suf_rest s1
  · exact suf_bind (suf_separated hp _) fun _ _ _ => suf_bind (suf_expect _ _) fun _ _ _ => suf_same _

theorem skip_suf (b : Bool) : ∀ (l : List Lx.Tok) (d : Int), skipGo b l d <:+ l
  | [], d => by rw [skipGo]; exact List.suffix_refl _
  | t :: r, d => by
    rw [skipGo.eq_def]
    simp only
    split
    · exact List.suffix_refl _
    · split
      · exact (skip_suf b r _).trans (List.suffix_cons _ _)
      · split
        · split
          · exact List.suffix_cons _ _
          · split
            · cases r with
              | nil => exact List.nil_suffix
              | cons u q =>
                simp only
                split
                · exact (List.suffix_cons _ _).trans (List.suffix_cons _ _)
                · exact List.suffix_cons _ _
            · exact (skip_suf b r _).trans (List.suffix_cons _ _)
        · split
          · exact List.suffix_cons _ _
          · exact (skip_suf b r _).trans (List.suffix_cons _ _)
/-- if the first token does not stop it, skipping takes it -/
theorem skip_lt (b : Bool) (t : Lx.Tok) (r : List Lx.Tok) (d : Int) (h : b = false ∨ t.text ≠ [125]) : (skipGo b (t :: r) d).length < (t :: r).length := by
  have hs : ∀ q, q <:+ r → q.length < (t :: r).length := fun q hq => by have := hq.length_le; simp; omega
  rw [skipGo.eq_def]
  simp only
  split
  · rename_i hc
    rcases h with h | h
    · subst h; simp at hc
    · simp at hc; exact absurd hc.2 h
  · split
    · exact hs _ (skip_suf b r _)
    · split
      · split
        · exact hs _ (List.suffix_refl _)
        · split
          · cases r with
            | nil => exact hs _ (List.suffix_refl _)
            | cons u q =>
              simp only
              split
              · exact hs _ (List.suffix_cons _ _)
              · exact hs _ (List.suffix_refl _)
          · exact hs _ (skip_suf b r _)
      · split
        · exact hs _ (List.suffix_refl _)
        · exact hs _ (skip_suf b r _)

/-- an item's reader: it takes a token, or leaves an end -/
structure Takes (rd : St → Res T) : Prop where
  suf : ∀ s, Suf (rd s) s
  lt : ∀ s t s1, rd s = .ok t s1 → left s1 < left s
theorem item_left {rd : St → Res T} (h : Takes rd) {b : Bool} {s : St} (hne : s.toks ≠ []) (hb : b = false ∨ accepts E [125] s = false) : left (item rd b s).2 < left s := by
  unfold item
  have h1 := h.suf s
  have h2 := h.lt s
  cases hr : rd s with
  | ok t s1 => exact h2 t s1 hr
  | bad d s1 =>
    rw [hr] at h1
    have h3 : s1.toks <:+ s.toks := h1
    unfold left
    simp only
    by_cases he : s1.toks.length = s.toks.length
    · have h4 : s1.toks = s.toks := h3.eq_of_length he
      rw [h4]
      cases hs : s.toks with
      | nil => exact absurd hs hne
      | cons t r =>
        refine skip_lt b t r _ ?_
        rcases hb with hb | hb
        · exact .inl hb
        · right
          intro e
          unfold accepts text peek at hb
          rw [hs] at hb
          simp [e] at hb
    · have := h3.length_le
      have := (skip_suf b s1.toks s1.braces).length_le
      omega
end Go.Proofs.YtbgpboiblggmiaaGreatDoor.Px

/-
  The plain parser's items take a token at least, and leave an end.
-/
namespace Go.Proofs.YtbgpboiblggmiaaGreatDoor.Px
variable {E : Nat}

/-- it takes a token, if it is right -/
def Lt {α : Type} (r : Res α) (s : St) : Prop := ∀ a s1, r = .ok a s1 → left s1 < left s
theorem suf_left {α : Type} {r : Res α} {s s1 : St} {a : α} (h : Suf r s) (hr : r = .ok a s1) : left s1 ≤ left s := by
  rw [hr] at h
  exact List.IsSuffix.length_le h
theorem lt_bind {α β : Type} {r : Res α} {s : St} {f : α → St → Res β} (h : Lt r s) (hf : ∀ a s1, Suf (f a s1) s1) : Lt (r.bind f) s := by
  intro b s2 hb
  obtain ⟨a, s1, h1, h2⟩ := bind_inv hb
  have := h a s1 h1
  have := suf_left (hf a s1) h2
  omega
theorem lt_rest {α : Type} {r : Res α} {s : St} {x : Str} (ha : accepts E x s = true) (hx : x ≠ []) (h : Suf r (rest s)) : Lt r s := by
  intro a s1 hr
  have := suf_left h hr
  have := acc_left ha hx
  omega
theorem lt_name (s : St) : Lt (name E s) s := fun _ _ h => by have := name_left h; omega
theorem lt_expect {x : Str} (hx : x ≠ []) (s : St) : Lt (expect E x s) s := fun _ _ h => by have := expect_left h hx; omega
theorem lt_refr (s : St) : Lt (refr E s) s := fun _ _ h => by have := run_left _ _ h; simp [takes] at this; omega
theorem accepted_suf (x : Str) (s : St) : (accepted E x s).toks <:+ s.toks := by
  unfold accepted
  split
  · exact suf_rest s
  · exact List.suffix_refl _

theorem suf_typed (s : St) : Suf (typed E s) s := by
  unfold typed
  exact suf_bind (suf_name _) fun _ _ _ => suf_bind (suf_expect _ _) fun _ _ _ => suf_bind (suf_number _) fun _ _ _ => suf_same _
theorem lt_typed (s : St) : Lt (typed E s) s := by
  unfold typed
  exact lt_bind (lt_name _) fun _ _ => suf_bind (suf_expect _ _) fun _ _ _ => suf_bind (suf_number _) fun _ _ _ => suf_same _
theorem takes_field : Takes (field E) := ⟨fun s => by
  unfold field
  exact suf_bind (suf_typed _) fun _ _ _ => suf_bind (suf_expect _ _) fun _ _ _ => suf_same _, fun s => by
  unfold field
  exact lt_bind (lt_typed _) fun _ _ => suf_bind (suf_expect _ _) fun _ _ _ => suf_same _⟩
theorem suf_param (s : St) : Suf (param E s) s := by
  unfold param
  exact suf_bind (suf_typed _) fun _ _ _ => suf_same _
theorem suf_listGo {rd : St → Res T} (h : Takes rd) : ∀ (k : Nat) (l : List T) (s : St), Suf (listGo E rd k l s) s
  | 0, l, s => by rw [listGo]; exact suf_wrong s
  | k + 1, l, s => by
    rw [listGo]
    split
    · exact suf_rest s
    · cases hs : s.toks with
      | nil => exact suf_wrong s
      | cons t r =>
        simp only
        refine suf_of (suf_listGo h k _ _) ?_
        unfold item
        have h1 := h.suf s
        cases hr : rd s with
        | ok t s1 => rw [hr] at h1; exact h1
        | bad d s1 =>
          rw [hr] at h1
          exact (skip_suf _ _ _).trans h1
theorem suf_list {rd : St → Res T} (h : Takes rd) (s : St) : Suf (list E rd s) s := by
  unfold list
  exact suf_bind (suf_expect _ _) fun _ _ _ => suf_listGo h _ _ _
theorem suf_block {rd : St → Res T} (h : Takes rd) (s : St) : Suf (block E rd s) s := by
  unfold block
  exact suf_bind (suf_list h _) fun _ _ _ => suf_same _
theorem suf_assign (l : List T) (s : St) : Suf (assign E l s) s := by
  unfold assign
  exact suf_bind (suf_refr _) fun _ _ _ => suf_bind (suf_expect _ _) fun _ _ _ => suf_bind (suf_expr _) fun _ _ _ => suf_same _
theorem lt_assign (l : List T) (s : St) : Lt (assign E l s) s := by
  unfold assign
  exact lt_bind (lt_refr _) fun _ _ => suf_bind (suf_expect _ _) fun _ _ _ => suf_bind (suf_expr _) fun _ _ _ => suf_same _
theorem suf_assignsGo : ∀ (k : Nat) (l : List T) (s : St), Suf (assignsGo E k l s) s
  | 0, l, s => by rw [assignsGo]; exact suf_same _
  | k + 1, l, s => by
    rw [assignsGo]
    split
    · exact suf_of (suf_bind (suf_assign _ _) fun _ _ _ => suf_assignsGo k _ _) (suf_rest s)
    · exact suf_same _
theorem suf_assigns (l : List T) (s : St) : Suf (assigns E l s) s := by
  unfold assigns
  exact suf_bind (suf_assign _ _) fun _ _ _ => suf_assignsGo _ _ _
theorem suf_withs (l : List T) (s : St) : Suf (withs E l s) s := by
  unfold withs
  split
  · exact suf_of (suf_assigns _ _) (suf_rest s)
  · exact suf_same _
theorem suf_claim (q : Int) (s : St) : Suf (claim E q s) (rest s) := by
  unfold claim
  exact suf_bind (suf_expr _) fun _ _ _ => suf_bind (suf_expect _ _) fun _ _ _ => suf_same _
theorem suf_bare (q : Int) (s : St) : Suf (bare E q s) (rest s) := by
  unfold bare
  exact suf_bind (suf_expect _ _) fun _ _ _ => suf_same _
theorem suf_named (q : Int) (m : St → Res Str) (hm : ∀ s, Suf (m s) s) (s : St) : Suf (named E q m s) (rest s) := by
  unfold named
  exact suf_bind (hm _) fun _ _ _ => suf_bind (suf_expect _ _) fun _ _ _ => suf_same _
theorem suf_call (s : St) : Suf (call E s) (rest s) := by
  unfold call
  exact suf_bind (suf_path _) fun _ _ _ => suf_bind (suf_tuple suf_expr _) fun _ _ _ => suf_bind (suf_expect _ _) fun _ _ _ => suf_same _
theorem suf_cas (s : St) : Suf (cas E s) (rest s) := by
  unfold cas
  exact suf_bind (suf_refr _) fun _ _ _ => suf_bind (suf_expect _ _) fun _ _ _ => suf_bind (suf_expr _) fun _ _ _ => suf_bind (suf_expect _ _) fun _ _ _ => suf_bind (suf_expr _) fun _ _ _ => suf_bind (suf_expect _ _) fun _ _ _ =>
    suf_bind (suf_refr _) fun _ _ _ => suf_bind (suf_withs _ _) fun _ _ _ => suf_bind (suf_expect _ _) fun _ _ _ => suf_same _
theorem suf_atomic (s : St) : Suf (atomic E s) (rest s) := by
  unfold atomic
  refine suf_bind (suf_expect _ _) fun _ s1 _ => suf_bind ?_ fun _ s2 _ => suf_bind (suf_expect _ _) fun _ s3 _ => suf_bind ?_ fun _ _ _ => suf_bind (suf_expect _ _) fun _ _ _ => suf_same _
  · split
    · exact List.suffix_refl _
    · exact suf_assigns _ _
  · split
    · exact suf_of (suf_bind (suf_expr _) fun _ _ _ => suf_same _) (suf_rest { s3 with braces := 0 })
    · exact List.suffix_refl _
theorem suf_plocal (s : St) : Suf (plocal E s) s := by
  unfold plocal
  exact suf_of (suf_bind (suf_expect _ _) fun _ _ _ => suf_bind (suf_typed _) fun _ _ _ => suf_bind (suf_expect _ _) fun _ _ _ => suf_same _) (accepted_suf _ s)
theorem lt_plocal (s : St) : Lt (plocal E s) s := by
  unfold plocal
  intro a s1 h
  have h1 := lt_bind (lt_expect (by decide) _) (fun _ _ => suf_bind (suf_typed _) fun _ _ _ => suf_bind (suf_expect _ _) fun _ _ _ => suf_same _) a s1 h
  have := List.IsSuffix.length_le (accepted_suf (E := E) [103, 104, 111, 115, 116] s)
  unfold left at *
  omega
theorem suf_assignment (s : St) : Suf (assignment E s) s := by
  unfold assignment
  exact suf_of (suf_bind (suf_assign _ _) fun _ _ _ => suf_bind (suf_withs _ _) fun _ _ _ => suf_bind (suf_expect _ _) fun _ _ _ => suf_same _) (accepted_suf _ s)
theorem lt_assignment (s : St) : Lt (assignment E s) s := by
  unfold assignment
  intro a s1 h
  have h1 := lt_bind (lt_assign _ _) (fun _ _ => suf_bind (suf_withs _ _) fun _ _ _ => suf_bind (suf_expect _ _) fun _ _ _ => suf_same _) a s1 h
  have := List.IsSuffix.length_le (accepted_suf (E := E) [114, 101, 108, 101, 97, 115, 101] s)
  unfold left at *
  omega
theorem suf_branch {rd : St → Res T} (h : Takes rd) (s : St) : Suf (branch E rd s) (rest s) := by
  unfold branch
  refine suf_bind (suf_expr _) fun _ _ _ => suf_bind (suf_block h _) fun _ s2 _ => suf_bind ?_ fun _ _ _ => suf_same _
  split
  · exact suf_of (suf_block h _) (suf_rest s2)
  · exact suf_same _
theorem suf_loop {rd : St → Res T} (h : Takes rd) (s : St) : Suf (loop E rd s) (rest s) := by
  unfold loop
  refine suf_bind (suf_expr _) fun _ s1 _ => suf_bind ?_ fun _ _ _ => suf_bind (suf_block h _) fun _ _ _ => suf_same _
  split
  · exact suf_of (suf_expr _) (suf_rest s1)
  · exact suf_same _
theorem takes_of {rd : St → Res T} (h : ∀ s, Suf (rd s) s ∧ Lt (rd s) s) : Takes rd := ⟨fun s => (h s).1, fun s => (h s).2⟩
theorem both_rest {α : Type} {r : Res α} {s : St} {x : Str} (ha : accepts E x s = true) (hx : x ≠ []) (h : Suf r (rest s)) : Suf r s ∧ Lt r s := ⟨suf_of h (suf_rest s), lt_rest ha hx h⟩
theorem takes_statement : ∀ k, Takes (statement E k)
  | 0 => takes_of fun s => by rw [statement]; exact ⟨suf_wrong s, fun _ _ h => by cases h⟩
  | k + 1 => takes_of fun s => by
    rw [statement]
    by_cases hc : accepts E [97, 115, 115, 101, 114, 116] s = true
    · rw [if_pos hc]; exact both_rest hc (by decide) (suf_claim _ _)
    rw [if_neg hc]
    clear hc
    by_cases hc : accepts E [97, 119, 97, 105, 116] s = true
    · rw [if_pos hc]; exact both_rest hc (by decide) (suf_claim _ _)
    rw [if_neg hc]
    clear hc
    by_cases hc : accepts E [102, 101, 110, 99, 101] s = true
    · rw [if_pos hc]; exact both_rest hc (by decide) (suf_bare _ _)
    rw [if_neg hc]
    clear hc
    by_cases hc : accepts E [115, 107, 105, 112] s = true
    · rw [if_pos hc]; exact both_rest hc (by decide) (suf_bare _ _)
    rw [if_neg hc]
    clear hc
    by_cases hc : accepts E [97, 116, 111, 109, 105, 99] s = true
    · rw [if_pos hc]; exact both_rest hc (by decide) (suf_atomic _)
    rw [if_neg hc]
    clear hc
    by_cases hc : accepts E [99, 97, 115] s = true
    · rw [if_pos hc]; exact both_rest hc (by decide) (suf_cas _)
    rw [if_neg hc]
    clear hc
    by_cases hc : accepts E [97, 99, 113, 117, 105, 114, 101] s = true
    · rw [if_pos hc]; exact both_rest hc (by decide) (suf_named _ _ suf_path _)
    rw [if_neg hc]
    clear hc
    by_cases hc : accepts E [102, 114, 101, 101] s = true
    · rw [if_pos hc]; exact both_rest hc (by decide) (suf_named _ _ suf_path _)
    rw [if_neg hc]
    clear hc
    by_cases hc : accepts E [115, 112, 97, 119, 110] s = true
    · rw [if_pos hc]; exact both_rest hc (by decide) (suf_named _ _ suf_name _)
    rw [if_neg hc]
    clear hc
    by_cases hc : accepts E [106, 111, 105, 110] s = true
    · rw [if_pos hc]; exact both_rest hc (by decide) (suf_named _ _ suf_name _)
    rw [if_neg hc]
    clear hc
    by_cases hc : accepts E [105, 102] s = true
    · rw [if_pos hc]; exact both_rest hc (by decide) (suf_branch (takes_statement k) _)
    rw [if_neg hc]
    clear hc
    by_cases hc : accepts E [119, 104, 105, 108, 101] s = true
    · rw [if_pos hc]; exact both_rest hc (by decide) (suf_loop (takes_statement k) _)
    rw [if_neg hc]
    clear hc
    by_cases hc : accepts E [99, 97, 108, 108] s = true
    · rw [if_pos hc]; exact both_rest hc (by decide) (suf_call _)
    rw [if_neg hc]
    clear hc
    by_cases hc : accepts E [103, 104, 111, 115, 116] s = true ∨ accepts E [108, 111, 99, 97, 108] s = true
    · rw [if_pos hc]; exact ⟨suf_plocal s, lt_plocal s⟩
    · rw [if_neg hc]; exact ⟨suf_assignment s, lt_assignment s⟩
theorem takes_stmt : Takes (stmt E) := takes_of fun s => ⟨(takes_statement _).suf s, (takes_statement _).lt s⟩
theorem suf_record (s : St) : Suf (record E s) (rest s) := by
  unfold record
  exact suf_bind (suf_name _) fun _ _ _ => suf_bind (suf_list takes_field _) fun _ _ _ => suf_same _
theorem suf_lock (s : St) : Suf (lock E s) (rest s) := by
  unfold lock
  exact suf_bind (suf_name _) fun _ _ _ => suf_bind (suf_expect _ _) fun _ _ _ => suf_bind (suf_expr _) fun _ _ _ => suf_bind (suf_expect _ _) fun _ _ _ => suf_same _
theorem suf_frame (s : St) : Suf (frame E s) (rest s) := by
  unfold frame
  exact suf_bind (suf_separated suf_pvar _) fun _ _ _ => suf_bind (suf_expect _ _) fun _ _ _ => suf_same _
theorem suf_proc (s : St) : Suf (proc E s) (rest s) := by
  unfold proc
  refine suf_bind (suf_name _) fun _ _ _ => suf_bind (suf_tuple suf_param _) fun _ s2 _ => suf_bind ?_ fun _ _ _ => suf_bind (suf_block takes_stmt _) fun _ _ _ => suf_same _
  split
  · exact suf_of (suf_name _) (suf_rest s2)
  · exact suf_same _
theorem suf_shared_tail (s1 : St) (g : Bool) (o : Int) : Suf ((name E s1).bind fun x s2 =>
  (if accepts E [91] s2 then (length E (rest s2)).bind fun m s3 => (expect E [93] s3).bind fun _ s4 => .ok m s4 else .ok 0 s2).bind fun len s5 =>
  (expect E [58] s5).bind fun _ s6 =>
  (if kindOf E s6 = 2 then (number E s6).bind fun m s7 => .ok ([], m) s7 else (name E s6).bind fun y s7 => .ok (y, 0) s7).bind fun q s8 =>
  (if accepts E [61] s8 then number E (rest s8) else .ok 0 s8).bind fun i s9 =>
  (expect E [59] s9).bind fun _ s10 => .ok (T.mk 50 x q.1 q.2 len i g [] o) s10) s1 := by
  refine suf_bind (suf_name _) fun _ s2 _ => suf_bind ?_ fun _ _ _ => suf_bind (suf_expect _ _) fun _ s6 _ => suf_bind ?_ fun _ s8 _ => suf_bind ?_ fun _ _ _ => suf_bind (suf_expect _ _) fun _ _ _ => suf_same _
  · split
    · exact suf_of (suf_bind (suf_length _) fun _ _ _ => suf_bind (suf_expect _ _) fun _ _ _ => suf_same _) (suf_rest s2)
    · exact suf_same _
  · split
    · exact suf_bind (suf_number _) fun _ _ _ => suf_same _
    · exact suf_bind (suf_name _) fun _ _ _ => suf_same _
  · split
    · exact suf_of (suf_number _) (suf_rest s8)
    · exact suf_same _
theorem both_shared (s : St) : Suf (shared E s) s ∧ Lt (shared E s) s := by
  unfold shared
  refine ⟨suf_of (suf_bind (suf_expect _ _) fun _ s1 _ => suf_shared_tail s1 _ _) (accepted_suf _ s), ?_⟩
  intro a s1 h
  have h1 := lt_bind (lt_expect (by decide) _) (fun _ s1 => suf_shared_tail s1 _ _) a s1 h
  have := List.IsSuffix.length_le (accepted_suf (E := E) [103, 104, 111, 115, 116] s)
  unfold left at *
  omega
theorem takes_declaration : Takes (declaration E) := takes_of fun s => by
  unfold declaration
  split
  · rename_i hc; exact both_rest hc (by decide) (suf_record _)
  split
  · rename_i hc; exact both_rest hc (by decide) (suf_lock _)
  split
  · rename_i hc; exact both_rest hc (by decide) (suf_claim _ _)
  split
  · rename_i hc; exact both_rest hc (by decide) (suf_claim _ _)
  split
  · rename_i hc; exact both_rest hc (by decide) (suf_frame _)
  split
  · rename_i hc; exact both_rest hc (by decide) (suf_proc _)
  · exact both_shared s
theorem suf_module (s : St) : Suf (module E s) (rest s) := by
  unfold module
  exact suf_bind (suf_name _) fun _ _ _ => suf_bind (suf_expect _ _) fun _ _ _ => suf_bind (suf_name _) fun _ _ _ => suf_bind (suf_list takes_declaration _) fun _ _ _ => suf_same _
theorem suf_thread_tail (s1 : St) (q o : Int) : Suf ((name E s1).bind fun x s2 => (expect E [61] s2).bind fun _ s3 =>
  (path E s3).bind fun p s4 => (tuple E (numeral E) s4).bind fun l s5 => (expect E [59] s5).bind fun _ s6 => .ok (T.mk 61 x p q 0 0 false l o) s6) s1 :=
  suf_bind (suf_name _) fun _ _ _ => suf_bind (suf_expect _ _) fun _ _ _ => suf_bind (suf_path _) fun _ _ _ => suf_bind (suf_tuple suf_numeral _) fun _ _ _ => suf_bind (suf_expect _ _) fun _ _ _ => suf_same _
theorem takes_unit : Takes (unit E) := takes_of fun s => by
  unfold unit
  split
  · rename_i hc; exact both_rest hc (by decide) (suf_module _)
  · unfold thread
    refine ⟨suf_of (suf_bind (suf_expect _ _) fun _ s1 _ => suf_thread_tail s1 _ _) (accepted_suf _ s), ?_⟩
    intro a s1 h
    have h1 := lt_bind (lt_expect (by decide) _) (fun _ s1 => suf_thread_tail s1 _ _) a s1 h
    have := List.IsSuffix.length_le (accepted_suf (E := E) [97, 115, 108, 101, 101, 112] s)
    unfold left at *
    omega
end Go.Proofs.YtbgpboiblggmiaaGreatDoor.Px

/-
  What any reader of the plain parser does to the state: a relation that single steps keep, and where an error is found.
-/
namespace Go.Proofs.YtbgpboiblggmiaaGreatDoor.Px
variable {E : Nat} {Q : St → St → Prop}

/-- an error's place: the next token, or the end -/
def BadAt (E : Nat) (d : D) (s : St) : Prop := d.off = offOf E s ∧ (d.err = 2 ∨ d.err = 20 ∨ d.err = 21) ∧ (s.toks = [] ↔ d.err = 21)
structure Steps (E : Nat) (Q : St → St → Prop) : Prop where
  refl : ∀ s, Q s s
  trans : ∀ {a b c}, Q a b → Q b c → Q a c
  rest : ∀ s, Q s (rest s)
  braces : ∀ s b, Q s { s with braces := b }
  skip : ∀ d s q, BadAt E d s → Q s ⟨skipGo q s.toks s.braces, 0, report d s.diags⟩
end Go.Proofs.YtbgpboiblggmiaaGreatDoor.Px

/-
  Two runs of the plain parser side by side: relations of trees, tokens, states and results; the small readers.
-/
namespace Go.Proofs.YtbgpboiblggmiaaGreatDoor.Px
open Lx (Tok)

mutual
/-- two trees that differ in their offsets, which are related -/
def RelT (ρ : Int → Int → Prop) : T → T → Prop
  | .mk k x y n l i g kids o, .mk k' x' y' n' l' i' g' kids' o' => k = k' ∧ x = x' ∧ y = y' ∧ n = n' ∧ l = l' ∧ i = i' ∧ g = g' ∧ ρ o o' ∧ RelL ρ kids kids'
def RelL (ρ : Int → Int → Prop) : List T → List T → Prop
  | [], [] => True
  | t :: r, t' :: r' => RelT ρ t t' ∧ RelL ρ r r'
  | _, _ => False
end
def RTok (ρ : Int → Int → Prop) (t t' : Tok) : Prop := t.kind = t'.kind ∧ t.text = t'.text ∧ ρ (t.off : Int) (t'.off : Int)
def RelC (ρ : Int → Int → Prop) : List Tok → List Tok → Prop
  | [], [] => True
  | t :: r, t' :: r' => RTok ρ t t' ∧ RelC ρ r r'
  | _, _ => False

/-- two runs: their ends, the relations of offsets and diagnostics, what comes behind the common part -/
structure Par where
  E : Nat
  F : Nat
  ρ : Int → Int → Prop
  δ : List D → List D → Prop
  x : List Tok
  y : List Tok
def Par.same (p : Par) : Prop := p.x = [] ∧ p.y = [] ∧ p.ρ p.E p.F

def At (x : List Tok) (E : Nat) (d : D) : Prop := (∃ t ∈ x, d.off = (t.off : Int) ∧ (d.err = 2 ∨ d.err = 20)) ∨ d = ⟨21, E⟩
theorem At.mono {x y : List Tok} {E : Nat} {d : D} (h : At x E d) (hs : x <:+ y) : At y E d := by
  rcases h with ⟨t, ht, h⟩ | h
  · exact .inl ⟨t, hs.subset ht, h⟩
  · exact .inr h
theorem At.of {E : Nat} {d : D} {s : St} (h : BadAt E d s) : At s.toks E d := by
  obtain ⟨h1, h2, h3⟩ := h
  cases hs : s.toks with
  | nil =>
    right
    have h4 := h3.1 hs
    unfold offOf peek at h1
    rw [hs] at h1
    cases d
    simp only at h1 h4
    rw [h1, h4]
  | cons t r =>
    left
    refine ⟨t, by simp, ?_, ?_⟩
    · unfold offOf peek at h1; rw [hs] at h1; exact h1
    · rcases h2 with h2 | h2 | h2
      · exact .inl h2
      · exact .inr h2
      · rw [h3.2 h2] at hs; cases hs
/-- a run goes on: tokens are taken, errors at them are reported -/
def PX (E : Nat) (s s1 : St) : Prop := s1.toks <:+ s.toks ∧ ∃ ext, s1.diags = s.diags ++ ext ∧ ∀ d ∈ ext, At s.toks E d
section
variable {p : Par}

structure Sim (p : Par) (s s' : St) : Prop where
  toks : ∃ c c', RelC p.ρ c c' ∧ s.toks = c ++ p.x ∧ s'.toks = c' ++ p.y
  braces : s.braces = s'.braces
  diags : p.δ s.diags s'.diags
structure Dv (p : Par) (s s' : St) : Prop where
  ns : ¬ p.same
  t1 : s.toks <:+ p.x
  t2 : s'.toks <:+ p.y
  ds : ∃ l l' e e', p.δ l l' ∧ s.diags = l ++ e ∧ s'.diags = l' ++ e' ∧ (∀ d ∈ e, At p.x p.E d) ∧ (∀ d ∈ e', At p.y p.F d)
theorem Dv.step {s s' t t' : St} (h : Dv p s s') (h1 : PX p.E s t) (h2 : PX p.F s' t') : Dv p t t' := by
  obtain ⟨l, l', e, e', hd, q1, q2, q3, q4⟩ := h.ds
  obtain ⟨a1, e1, b1, c1⟩ := h1
  obtain ⟨a2, e2, b2, c2⟩ := h2
  refine ⟨h.ns, a1.trans h.t1, a2.trans h.t2, l, l', e ++ e1, e' ++ e2, hd, by rw [b1, q1, List.append_assoc], by rw [b2, q2, List.append_assoc], ?_, ?_⟩
  · intro d hd
    rcases List.mem_append.1 hd with h' | h'
    · exact q3 d h'
    · exact (c1 d h').mono h.t1
  · intro d hd
    rcases List.mem_append.1 hd with h' | h'
    · exact q4 d h'
    · exact (c2 d h').mono h.t2
/-- both runs see the same token, or the same end -/
structure Live (p : Par) (s s' : St) : Prop where
  sim : Sim p s s'
  text : text p.E s = text p.F s'
  kind : kindOf p.E s = kindOf p.F s'
  off : p.ρ (offOf p.E s) (offOf p.F s')
  next : Sim p (rest s) (rest s')
  nil : s.toks = [] ↔ s'.toks = []
theorem Live.acc {s s' : St} (h : Live p s s') (x : Str) : accepts p.F x s' = accepts p.E x s := by unfold accepts; rw [h.text]
theorem Sim.set {s s' : St} (h : Sim p s s') (b : Int) : Sim p { s with braces := b } { s' with braces := b } := ⟨h.toks, rfl, h.diags⟩

/-- the results of two runs -/
inductive Rel (p : Par) {α β : Type} (V : α → β → Prop) (r : Res α) (r' : Res β) : Prop where
  | ok (a : α) (a' : β) (s s' : St) (e : r = .ok a s) (e' : r' = .ok a' s') (v : V a a') (h : Sim p s s')
  | bad (d d' : D) (s s' : St) (e : r = .bad d s) (e' : r' = .bad d' s') (he : d.err = d'.err) (ho : p.ρ d.off d'.off) (h : Sim p s s')
  | dv (h : Dv p r.st r'.st) (u : ∀ d s, r = .bad d s → BadAt p.E d s) (u' : ∀ d s, r' = .bad d s → BadAt p.F d s)
end
end Go.Proofs.YtbgpboiblggmiaaGreatDoor.Px

/-
  Steps of any reader, in the form that a rewriting with conditions reads.
-/
namespace Go.Proofs.YtbgpboiblggmiaaGreatDoor.Px
variable {E : Nat}
end Go.Proofs.YtbgpboiblggmiaaGreatDoor.Px

/-
  Two runs of the plain parser side by side: expressions.
-/
namespace Go.Proofs.YtbgpboiblggmiaaGreatDoor.Px
variable {p : Par}

theorem level_pos {t : Str} (h : level t ≠ 0) : t ≠ [] := by
  rintro rfl
  exact h (by decide)
end Go.Proofs.YtbgpboiblggmiaaGreatDoor.Px

/-
  Two runs of the plain parser side by side: lists of parts, assignments, statements without blocks.
-/
namespace Go.Proofs.YtbgpboiblggmiaaGreatDoor.Px
variable {p : Par}

end Go.Proofs.YtbgpboiblggmiaaGreatDoor.Px

/-
  Two runs of the plain parser side by side: recovery, lists, statements, declarations, units.
-/
namespace Go.Proofs.YtbgpboiblggmiaaGreatDoor.Px
open Lx (Tok)
variable {p : Par}

/-- two runs of a reader that is not through when the end comes -/
def IsBad {α : Type} (r : Res α) : Prop := ∃ d s, r = .bad d s
inductive RelI (p : Par) {α β : Type} (V : α → β → Prop) (r : Res α) (r' : Res β) : Prop where
  | ok (a : α) (a' : β) (s s' : St) (e : r = .ok a s) (e' : r' = .ok a' s') (v : V a a') (h : Sim p s s')
  | bad (d d' : D) (s s' : St) (e : r = .bad d s) (e' : r' = .bad d' s') (he : d.err = d'.err) (ho : p.ρ d.off d'.off) (h : Sim p s s')
  | dv (h : Dv p r.st r'.st) (u : ∀ d s, r = .bad d s → BadAt p.E d s) (u' : ∀ d s, r' = .bad d s → BadAt p.F d s) (n : p.x = [] → IsBad r) (n' : p.y = [] → IsBad r')
theorem RelI.rel {α β : Type} {V : α → β → Prop} {r : Res α} {r' : Res β} (h : RelI p V r r') : Rel p V r r' := by
  cases h with
  | ok a a' s s' e e' v h => exact .ok a a' s s' e e' v h
  | bad d d' s s' e e' he ho h => exact .bad d d' s s' e e' he ho h
  | dv h u u' n n' => exact .dv h u u'
end Go.Proofs.YtbgpboiblggmiaaGreatDoor.Px

/-
  Two runs of the plain parser side by side: statements, declarations, units.
-/
namespace Go.Proofs.YtbgpboiblggmiaaGreatDoor.Px
open Lx (Tok)
variable {p : Par}

end Go.Proofs.YtbgpboiblggmiaaGreatDoor.Px

/-
  Two runs of the plain parser side by side: all units; diagnostics have increasing offsets.
-/
namespace Go.Proofs.YtbgpboiblggmiaaGreatDoor.Px
open Lx (Tok)

section
variable {p : Par}
/-- both runs stand behind the common part, between two units -/
structure Edge (p : Par) (k k' : Nat) (l l' : List T) (s s' : St) (j j' : Nat) (m m' : List T) (t t' : St) : Prop where
  e : unitsGo (unit p.E) k l s = unitsGo (unit p.E) j m t
  e' : unitsGo (unit p.F) k' l' s' = unitsGo (unit p.F) j' m' t'
  rel : RelL p.ρ m m'
  sim : Sim p t t'
  x : t.toks = p.x
  y : t'.toks = p.y
  hj : left t + 1 ≤ j
  hj' : left t' + 1 ≤ j'
end

end Go.Proofs.YtbgpboiblggmiaaGreatDoor.Px

/-
  The lexer on the beginning of a source, up to the end of a token; offsets of tokens increase.
-/
namespace Go.Proofs.YtbgpboiblggmiaaGreatDoor.Lx

theorem lex_go {l : List UInt8} {ts : List Tok} {p : Nat} (h : lex l = (ts, 0, p)) : p = 0 ∧ l.length ≤ 4000 ∧ ∃ q, go (l.length + 1) (l.drop (skip false l)) (skip false l) 0 = (ts, 0, q) := by
  unfold lex at h
  split at h
  · simp at h
  · rename_i hl
    unfold fin at h
    split at h
    · rename_i he
      have h1 := congrArg Prod.fst h
      have h2 := congrArg (fun x => x.2.2) h
      exact ⟨h2.symm, by omega, (go (l.length + 1) (l.drop (skip false l)) (skip false l) 0).2.2, Prod.ext h1 (Prod.ext he rfl)⟩
    · rename_i he
      simp only [Prod.mk.injEq] at h
      exact absurd h.2.1 he
end Go.Proofs.YtbgpboiblggmiaaGreatDoor.Lx

/-
  Parse on a source and on a beginning of it.
-/
namespace Go.Proofs.YtbgpboiblggmiaaGreatDoor.Px
open Lx (Tok)

/-- all units of a source's tokens -/
def units (E : Nat) (ts : List Tok) : List T × St := unitsGo (unit E) (ts.length + 1) [] (start ts)
end Go.Proofs.YtbgpboiblggmiaaGreatDoor.Px

