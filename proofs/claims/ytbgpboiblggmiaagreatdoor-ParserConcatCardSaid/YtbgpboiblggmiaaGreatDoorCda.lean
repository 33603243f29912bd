/-
  ParserConcat: the offsets of a parsed tree are small; what the walk needs of the plain parts.
-/
import Derived.Test.YtbgpboiblggmiaaGreatDoorShf
import Derived.Test.YtbgpboiblggmiaaGreatDoorFwa
set_option linter.unusedVariables false
set_option linter.unusedSimpArgs false
namespace Go.Proofs.YtbgpboiblggmiaaGreatDoor
open Go.RowKit
open Px (St T D Res)

mutual
theorem relT_in {ρ : Int → Int → Prop} (hρ : ∀ a b, ρ a b → 0 ≤ a ∧ a ≤ 100000) : ∀ (t t' : T), Px.RelT ρ t t' → InT t
  | .mk _ _ _ _ _ _ _ kids o, .mk _ _ _ _ _ _ _ kids' o', h => by
    unfold Px.RelT at h
    obtain ⟨_, _, _, _, _, _, _, h8, h9⟩ := h
    rw [InT]
    exact ⟨(hρ _ _ h8).1, (hρ _ _ h8).2, relL_in hρ kids kids' h9⟩
theorem relL_in {ρ : Int → Int → Prop} (hρ : ∀ a b, ρ a b → 0 ≤ a ∧ a ≤ 100000) : ∀ (l l' : List T), Px.RelL ρ l l' → InL l
  | [], _, _ => by rw [InL]; trivial
  | t :: r, t' :: r', h => by
    unfold Px.RelL at h
    rw [InL]
    exact ⟨relT_in hρ t t' h.1, relL_in hρ r r' h.2⟩
  | _ :: _, [], h => by unfold Px.RelL at h; exact h.elim
end
/-- the offsets of what Parse returns -/
theorem parse_in {l : List UInt8} {ts : List Lx.Tok} {p : Nat} (h : Lx.lex l = (ts, 0, p)) {Y : T} {e : List D} (hY : Px.parse l = (Y, e)) : InL Y.kids := by
  obtain ⟨xs, xs', d, d', p1, p2, p3, _⟩ := Px.layout h h rfl (fun m t u ht hu => by rw [ht] at hu; cases hu; exact ⟨rfl, rfl⟩)
  obtain ⟨_, hl, _⟩ := Lx.lex_go h
  obtain ⟨_, a2⟩ := Lx.lex_off h
  rw [hY] at p1
  have e1 : Y = Px.source xs := (Prod.mk.inj p1).1
  have e2 : Y.kids = xs := by rw [e1]; rfl
  rw [e2]
  refine relL_in (fun a b hab => ?_) xs xs' p3
  rcases hab with ⟨m, t, u, h1, h2, h3, h4⟩ | ⟨h1, h2⟩
  · have := a2 t (List.mem_of_getElem? h1)
    omega
  · omega
/-- a parsed source: its kids and nothing else -/
theorem parse_source {l : List UInt8} {Y : T} {e : List D} (hY : Px.parse l = (Y, e)) : Y = Px.source Y.kids := by
  obtain ⟨⟨ts, k, p⟩, hlex⟩ : ∃ r, Lx.lex l = r := ⟨_, rfl⟩
  unfold Px.parse at hY
  rw [hlex] at hY
  dsimp only at hY
  split at hY
  · cases hY; rfl
  · split at hY
    · cases hY; rfl
    · cases hY; rfl
theorem shK_source (b : Int) (ys : List T) : shK 0 b (Px.source ys) = Px.source (Px.shL b ys) := rfl
/-- sizes are those of the tree that is moved -/
theorem shL_sizes (b : Int) : ∀ l : List T, (∀ t ∈ l, Px.size (Px.shT b t) = Px.size t) → Px.sizes (Px.shL b l) = Px.sizes l
  | [], _ => by rw [Px.shL]
  | t :: r, h => by rw [Px.shL, Px.sizes, Px.sizes, h t (by simp), shL_sizes b r (fun u hu => h u (by simp [hu]))]
theorem shT_size (b : Int) : ∀ (n : Nat) (t : T), Px.size t ≤ n → Px.size (Px.shT b t) = Px.size t
  | 0, t, h => by cases t; rw [Px.size] at h; omega
  | n + 1, .mk _ _ _ _ _ _ _ kids _, h => by
    rw [Px.shT, Px.size, Px.size]
    rw [Px.size] at h
    rw [shL_sizes b kids (fun t ht => shT_size b n t (by
      have : Px.size t ≤ Px.sizes kids := by
        clear h
        induction kids with
        | nil => cases ht
        | cons x r ih =>
          rw [Px.sizes]
          rcases List.mem_cons.1 ht with rfl | h'
          · omega
          · have := ih h'; omega
      omega))]
theorem parse_openC {l : List UInt8} {X : T} (h : Px.parse l = (X, [])) : ∃ ts q xs, Lx.lex l = (ts, 0, q) ∧ X = Px.source xs := by
  obtain ⟨⟨ts, k, p⟩, hlex⟩ : ∃ r, Lx.lex l = r := ⟨_, rfl⟩
  cases k with
  | succ k =>
    unfold Px.parse at h
    rw [hlex] at h
    have h2 : (Px.source [], [(⟨((k + 1 : Nat) : Int), p⟩ : D)]) = (X, []) := (if_pos (by intro h; cases h) : _ = _).symm.trans h
    cases (Prod.mk.inj h2).2
  | zero =>
    obtain ⟨_, _, h3⟩ := Px.parse_clean hlex (by rw [h])
    rw [h] at h3
    exact ⟨ts, p, _, hlex, (Prod.mk.inj h3).1⟩
end Go.Proofs.YtbgpboiblggmiaaGreatDoor
