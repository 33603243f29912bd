/-
  Two runs side by side of readers that end with a token of their own: if the runs part, the reader ends behind the common part.
-/
import Derived.Test.YtbgpboiblggmiaaGreatDoorQBza
set_option linter.unusedVariables false
set_option linter.unusedSimpArgs false
namespace Go.Proofs.YtbgpboiblggmiaaGreatDoor.Px
open Lx (Tok)
variable {p : Par}

inductive RelJ (p : Par) {α β : Type} (V : α → β → Prop) (r : Res α) (r' : Res β) : Prop where
  | ok (a : α) (a' : β) (s s' : St) (e : r = .ok a s) (e' : r' = .ok a' s') (v : V a a') (h : Sim p s s')
  | bad (d d' : D) (s s' : St) (e : r = .bad d s) (e' : r' = .bad d' s') (he : d.err = d'.err) (ho : p.ρ d.off d'.off) (h : Sim p s s')
  | dv (h : Dv p r.st r'.st) (u : ∀ d s, r = .bad d s → BadAt p.E d s) (u' : ∀ d s, r' = .bad d s → BadAt p.F d s) (n : ∀ a s, r = .ok a s → left s < p.x.length)
theorem RelJ.rel {α β : Type} {V : α → β → Prop} {r : Res α} {r' : Res β} (h : RelJ p V r r') : Rel p V r r' := by
  cases h with
  | ok a a' s s' e e' v h => exact .ok a a' s s' e e' v h
  | bad d d' s s' e e' he ho h => exact .bad d d' s s' e e' he ho h
  | dv h u u' n => exact .dv h u u'
variable {E : Nat}
end Go.Proofs.YtbgpboiblggmiaaGreatDoor.Px

