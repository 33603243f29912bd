/-
  What the parser's readers hand back is well formed.
-/
import Derived.Test.YtbgpboiblggmiaaGreatDoorWfb
set_option linter.unusedVariables false
set_option linter.unusedSimpArgs false
namespace Go.Proofs.YtbgpboiblggmiaaGreatDoor
open Go.RowKit
open Px (St T D Res left)

def ExprOk (t : T) : Prop := VT t ∧ Pr.isExpr t = true
def RefOk (t : T) : Prop := VT t ∧ Pr.isRef t = true
def VarOk (t : T) : Prop := VT t ∧ Pr.isVariable t = true
def MaybeOk (t : T) : Prop := VT t ∧ Pr.isMaybeExpr t = true
def NumbOk (t : T) : Prop := VT t ∧ Pr.isNumber t = true
def BlkOk (t : T) : Prop := VT t ∧ Pr.isBlock t = true
def StmOk (t : T) : Prop := VT t ∧ Pr.isStatement t = true
def FldOk (t : T) : Prop := VT t ∧ Pr.isField t = true
def ParOk (t : T) : Prop := VT t ∧ Pr.isParam t = true
def DecOk (t : T) : Prop := VT t ∧ Pr.isDeclaration t = true
def UniOk (t : T) : Prop := VT t ∧ Pr.isUnit t = true
theorem ref_up {t : T} (h : RefOk t) : ExprOk t := ⟨h.1, by
  have := h.2
  unfold Pr.isRef at this
  have hk := eq_of_beq this
  unfold Pr.isExpr
  rw [hk]
  rfl⟩
theorem maybe_up {t : T} (h : ExprOk t) : MaybeOk t := ⟨h.1, by
  have := h.2
  unfold Pr.isExpr at this
  unfold Pr.isMaybeExpr
  rw [this]
  rfl⟩
theorem lab0 : LabelOk 0 [] := .inl ⟨rfl, rfl⟩
theorem lab1 {x : Px.Str} (h : NameOk x) : LabelOk 1 x := .inr (.inl ⟨rfl, h⟩)
theorem lab2 {x : Px.Str} (h : PathOk x) : LabelOk 2 x := .inr (.inr (.inl ⟨rfl, h⟩))
theorem lab3 {x : Px.Str} (h : 0 < Px.level x) : LabelOk 3 x := .inr (.inr (.inr ⟨rfl, h⟩))
theorem zz : (0 : Int) ≤ 0 ∧ (0 : Int) ≤ 0 := ⟨z00, z00⟩

theorem er_ok : Px.ER ExprOk RefOk NameOk PathOk NumOk where
  num n o h := ⟨vt_mk ⟨lab0, lab0, h, zz, zz, .inr rfl⟩ ⟨0, fun _ => rfl, trivial⟩ vl_nil, rfl⟩
  ref x o h := ⟨vt_mk ⟨lab2 h, lab0, zz, zz, zz, .inr rfl⟩ ⟨0, fun _ => rfl, trivial⟩ vl_nil, rfl⟩
  idx x o e h he := ⟨vt_mk ⟨lab2 h, lab0, zz, zz, zz, .inr rfl⟩ ⟨0, fun _ => rfl, ⟨yes_isExpr he.2, trivial⟩⟩ (vl_cons he.1 vl_nil), rfl⟩
  up t h := ref_up h
  all k x n e o hk hx hn he := by
    rcases hk with rfl | rfl
    · exact ⟨vt_mk ⟨lab1 hx, lab0, hn, zz, zz, .inr rfl⟩ ⟨0, fun _ => rfl, ⟨yes_isExpr he.2, trivial⟩⟩ (vl_cons he.1 vl_nil), rfl⟩
    · exact ⟨vt_mk ⟨lab1 hx, lab0, hn, zz, zz, .inr rfl⟩ ⟨0, fun _ => rfl, ⟨yes_isExpr he.2, trivial⟩⟩ (vl_cons he.1 vl_nil), rfl⟩
  cond a b c o ha hb hc := ⟨vt_mk ⟨lab0, lab0, zz, zz, zz, .inr rfl⟩ ⟨0, fun _ => rfl, ⟨yes_isExpr ha.2, yes_isExpr hb.2, yes_isExpr hc.2, trivial⟩⟩ (vl_cons ha.1 (vl_cons hb.1 (vl_cons hc.1 vl_nil))), rfl⟩
  bin x a b o hx ha hb := ⟨vt_mk ⟨lab3 hx, lab0, zz, zz, zz, .inr rfl⟩ ⟨0, fun _ => rfl, ⟨yes_isExpr ha.2, yes_isExpr hb.2, trivial⟩⟩ (vl_cons ha.1 (vl_cons hb.1 vl_nil)), rfl⟩
  not a o ha := ⟨vt_mk ⟨lab0, lab0, zz, zz, zz, .inr rfl⟩ ⟨0, fun _ => rfl, ⟨yes_isExpr ha.2, trivial⟩⟩ (vl_cons ha.1 vl_nil), rfl⟩
  old a o ha := ⟨vt_mk ⟨lab0, lab0, zz, zz, zz, .inr rfl⟩ ⟨0, fun _ => rfl, ⟨yes_isRef ha.2, trivial⟩⟩ (vl_cons ha.1 vl_nil), rfl⟩
variable {E : Nat}
theorem ei_ok : Px.EI TV NameOk PathOk NumOk E := ⟨fun _ _ h hs => h.suf hs, fun s x s1 h e => (wr_name s h x s1 e).1, fun s x s1 h e => (wr_path s h x s1 e).1, fun s x s1 h e => (wr_number s h x s1 e).1⟩
theorem suf_to {α : Type} {r : Res α} {s s1 : St} {a : α} (h : Px.Suf r s) (e : r = .ok a s1) : s1.toks <:+ s.toks := by rw [e] at h; exact h
theorem wr_expr (s : St) : Wr ExprOk (Px.expr E s) s := fun hv t s1 e => ⟨Px.run_rules er_ok ei_ok _ .expr hv trivial trivial e, hv.suf (suf_to (Px.suf_expr s) e)⟩
theorem wr_refr (s : St) : Wr RefOk (Px.refr E s) s := fun hv t s1 e => ⟨Px.run_rules er_ok ei_ok _ .ref hv trivial trivial e, hv.suf (suf_to (Px.suf_refr s) e)⟩
theorem wr_numeral (s : St) : Wr NumbOk (Px.numeral E s) s := by
  unfold Px.numeral
  exact wr_bind (wr_number s) (fun n s1 _ _ hn => wr_ok ⟨(er_ok.num n _ hn).1, rfl⟩)
theorem wr_pvar (s : St) : Wr VarOk (Px.pvar E s) s := by
  unfold Px.pvar
  exact wr_bind (wr_path s) (fun p s1 _ _ hp => wr_ok ⟨(er_ok.ref p _ hp).1, rfl⟩)

theorem wr_sepGo {Φ : T → Prop} {part : St → Res T} (hp : ∀ s, Wr Φ (part s) s) : ∀ (k : Nat) (l : List T) (s : St), ((∀ t ∈ l, Φ t) ∧ l ≠ []) → Wr (fun m => (∀ t ∈ m, Φ t) ∧ m ≠ []) (Px.sepGo E part k l s) s
  | 0, l, s, h => by rw [Px.sepGo]; exact wr_ok h
  | k + 1, l, s, h => by
    rw [Px.sepGo]
    refine wr_if (fun _ => wr_rest (wr_bind (hp _) (fun t s1 _ _ ht => wr_sepGo hp k _ s1 ⟨fun u hu => ?_, by simp⟩))) (fun _ => wr_ok h)
    rcases List.mem_append.1 hu with hu | hu
    · exact h.1 u hu
    · rw [List.mem_singleton.1 hu]; exact ht
theorem wr_separated {Φ : T → Prop} {part : St → Res T} (hp : ∀ s, Wr Φ (part s) s) (s : St) : Wr (fun m => (∀ t ∈ m, Φ t) ∧ m ≠ []) (Px.separated E part s) s := by
  unfold Px.separated
  exact wr_bind (hp s) (fun t s1 _ _ ht => wr_sepGo hp _ _ s1 ⟨fun u hu => by rw [List.mem_singleton.1 hu]; exact ht, by simp⟩)
theorem wr_tuple {Φ : T → Prop} {part : St → Res T} (hp : ∀ s, Wr Φ (part s) s) (s : St) : Wr (fun m => ∀ t ∈ m, Φ t) (Px.tuple E part s) s := by
  unfold Px.tuple
  refine wr_bind (wr_expect _ s) (fun _ s1 _ _ _ => wr_if (fun _ => wr_okr (fun t ht => by cases ht)) (fun _ => ?_))
  exact wr_bind (wr_separated hp s1) (fun l s2 _ _ hl => wr_bind (wr_expect _ s2) (fun _ s3 _ _ _ => wr_ok hl.1))

theorem wr_item {Φ : T → Prop} {rd : St → Res T} {s : St} (hr : Wr Φ (rd s) s) (hs : Px.Suf (rd s) s) (q : Bool) (hv : TV s) : (∀ t, (Px.item rd q s).1 = some t → Φ t) ∧ TV (Px.item rd q s).2 := by
  unfold Px.item
  cases h : rd s with
  | ok t s1 =>
    obtain ⟨h1, h2⟩ := hr hv t s1 h
    exact ⟨fun u hu => by cases hu; exact h1, h2⟩
  | bad d s1 =>
    have hsuf : s1.toks <:+ s.toks := by rw [h] at hs; exact hs
    exact ⟨fun u hu => (by cases hu), hv.suf (s1 := ⟨Px.skipGo q s1.toks s1.braces, 0, Px.report d s1.diags⟩) ((Px.skip_suf _ _ _).trans hsuf)⟩
theorem all_more {Φ : T → Prop} {l : List T} {o : Option T} (hl : ∀ t ∈ l, Φ t) (ho : ∀ t, o = some t → Φ t) : ∀ t ∈ Px.more l o, Φ t := by
  cases o with
  | none => exact hl
  | some u =>
    intro t ht
    rcases List.mem_append.1 ht with ht | ht
    · exact hl t ht
    · rw [List.mem_singleton.1 ht]; exact ho u rfl
theorem wr_listGo {Φ : T → Prop} {rd : St → Res T} (hr : ∀ s, Wr Φ (rd s) s) (hs : ∀ s, Px.Suf (rd s) s) : ∀ (k : Nat) (l : List T) (s : St), (∀ t ∈ l, Φ t) → Wr (fun m => ∀ t ∈ m, Φ t) (Px.listGo E rd k l s) s
  | 0, l, s, h => by rw [Px.listGo]; exact wr_wrong
  | k + 1, l, s, h => by
    rw [Px.listGo]
    refine wr_if (fun _ => wr_okr h) (fun _ => ?_)
    cases hst : s.toks with
    | nil => exact wr_wrong
    | cons u r =>
      intro hv m s2 e
      obtain ⟨h1, h2⟩ := wr_item (hr s) (hs s) true hv
      exact wr_listGo hr hs k _ _ (all_more h h1) h2 m s2 e
theorem wr_list {Φ : T → Prop} {rd : St → Res T} (hr : ∀ s, Wr Φ (rd s) s) (hs : ∀ s, Px.Suf (rd s) s) (s : St) : Wr (fun m => ∀ t ∈ m, Φ t) (Px.list E rd s) s := by
  unfold Px.list
  exact wr_bind (wr_expect _ s) (fun _ s1 _ _ _ => wr_listGo hr hs _ _ s1 (fun t ht => by cases ht))
theorem all_units {Φ : T → Prop} {rd : St → Res T} (hr : ∀ s, Wr Φ (rd s) s) (hs : ∀ s, Px.Suf (rd s) s) : ∀ (k : Nat) (l : List T) (s : St), TV s → (∀ t ∈ l, Φ t) → ∀ t ∈ (Px.unitsGo rd k l s).1, Φ t
  | 0, l, s, hv, h => by rw [Px.unitsGo]; exact h
  | k + 1, l, s, hv, h => by
    rw [Px.unitsGo]
    cases hst : s.toks with
    | nil => exact h
    | cons u r =>
      obtain ⟨h1, h2⟩ := wr_item (hr s) (hs s) false hv
      exact all_units hr hs k _ _ h2 (all_more h h1)

/-- pairs of a reference and an expression -/
def Pairs (m : List T) : Prop := (∃ j, PropsYes (rep [117, 38] j) m) ∧ VL m
theorem pairs_nil : Pairs [] := ⟨⟨0, trivial⟩, vl_nil⟩
theorem pairs_snoc {m : List T} {r e : T} (h : Pairs m) (hr : RefOk r) (he : ExprOk e) : Pairs (m ++ [r, e]) := by
  obtain ⟨⟨j, h1⟩, h2⟩ := h
  refine ⟨⟨j + 1, ?_⟩, vl_app h2 (vl_cons hr.1 (vl_cons he.1 vl_nil))⟩
  rw [rep]
  exact propsYes_app h1 ⟨yes_isRef hr.2, yes_isExpr he.2, trivial⟩
/-- a row's kids, and pairs behind them -/
def Beh (l0 l : List T) : Prop := ∃ m, l = l0 ++ m ∧ Pairs m
theorem beh_self (l0 : List T) : Beh l0 l0 := ⟨[], by simp, pairs_nil⟩
theorem wr_assign {l0 l : List T} (hl : Beh l0 l) (s : St) : Wr (Beh l0) (Px.assign E l s) s := by
  unfold Px.assign
  refine wr_bind (wr_refr s) (fun r s1 _ _ hr => wr_bind (wr_expect _ s1) (fun _ s2 _ _ _ => wr_bind (wr_expr s2) (fun e s3 _ _ he => wr_ok ?_)))
  obtain ⟨m, h1, h2⟩ := hl
  exact ⟨m ++ [r, e], by rw [h1, List.append_assoc], pairs_snoc h2 hr he⟩
theorem wr_assignsGo {l0 : List T} : ∀ (k : Nat) (l : List T) (s : St), Beh l0 l → Wr (Beh l0) (Px.assignsGo E k l s) s
  | 0, l, s, h => by rw [Px.assignsGo]; exact wr_ok h
  | k + 1, l, s, h => by
    rw [Px.assignsGo]
    exact wr_if (fun _ => wr_rest (wr_bind (wr_assign h _) (fun l s1 _ _ hl => wr_assignsGo k l s1 hl))) (fun _ => wr_ok h)
theorem wr_assigns {l0 l : List T} (hl : Beh l0 l) (s : St) : Wr (Beh l0) (Px.assigns E l s) s := by
  unfold Px.assigns
  exact wr_bind (wr_assign hl s) (fun l s1 _ _ h => wr_assignsGo _ l s1 h)
theorem wr_withs {l0 l : List T} (hl : Beh l0 l) (s : St) : Wr (Beh l0) (Px.withs E l s) s := by
  unfold Px.withs
  exact wr_if (fun _ => wr_rest (wr_assigns hl _)) (fun _ => wr_ok hl)

theorem none_ok (o : Int) : MaybeOk (Px.none o) := ⟨vt_mk ⟨lab0, lab0, zz, zz, zz, .inr rfl⟩ ⟨0, fun _ => rfl, trivial⟩ vl_nil, rfl⟩
/-- the end of a statement: a mark -/
theorem wr_end {α : Type} {Φ : α → Prop} {x : Px.Str} {t : α} (h : Φ t) (s : St) : Wr Φ ((Px.expect E x s).bind fun _ s1 => .ok t s1) s := wr_bind (wr_expect x s) (fun _ s1 _ _ _ => wr_ok h)
theorem wr_claim {k : Int} {Φ : T → Prop} (hΦ : ∀ e o, ExprOk e → Φ (T.of k o [e])) (s : St) : Wr Φ (Px.claim E k s) s := by
  unfold Px.claim
  exact wr_rest (wr_bind (wr_expr _) (fun e s1 _ _ he => wr_end (hΦ e _ he) s1))
theorem wr_bare {k : Int} {Φ : T → Prop} (hΦ : ∀ o, Φ (T.of k o [])) (s : St) : Wr Φ (Px.bare E k s) s := by
  unfold Px.bare
  exact wr_rest (wr_end (hΦ _) _)
theorem wr_named {k : Int} {Φ : T → Prop} {Ψ : Px.Str → Prop} {nm : St → Res Px.Str} (hn : ∀ s, Wr Ψ (nm s) s) (hΦ : ∀ x o, Ψ x → Φ (T.named k o x [])) (s : St) : Wr Φ (Px.named E k nm s) s := by
  unfold Px.named
  exact wr_rest (wr_bind (hn _) (fun x s1 _ _ hx => wr_end (hΦ x _ hx) s1))
theorem one01 : (0 : Int) ≤ 1 ∧ (1 : Int) ≤ 1 := by decide
theorem zero01 : (0 : Int) ≤ 0 ∧ (0 : Int) ≤ 1 := by decide
theorem wr_assign0 (s : St) : Wr (fun l => ∃ r e, l = [r, e] ∧ RefOk r ∧ ExprOk e) (Px.assign E [] s) s := by
  unfold Px.assign
  exact wr_bind (wr_refr s) (fun r s1 _ _ hr => wr_bind (wr_expect _ s1) (fun _ s2 _ _ _ => wr_bind (wr_expr s2) (fun e s3 _ _ he => wr_ok ⟨r, e, rfl, hr, he⟩)))
theorem wr_assignment (s : St) : Wr StmOk (Px.assignment E s) s := by
  unfold Px.assignment
  refine wr_acc (x := [114, 101, 108, 101, 97, 115, 101]) (wr_bind (wr_assign0 _) (fun l s1 _ _ hl => ?_))
  obtain ⟨r, e, rfl, hr, he⟩ := hl
  refine wr_bind (wr_withs (beh_self [r, e]) s1) (fun l2 s2 _ _ hl2 => ?_)
  obtain ⟨m, rfl, ⟨j, hj⟩, hm⟩ := hl2
  refine wr_end ?_ s2
  refine ⟨vt_mk ⟨lab0, lab0, ?_, zz, zz, .inr rfl⟩ (kv_more j (fun h => by cases h) rfl ⟨yes_isRef hr.2, yes_isExpr he.2, hj⟩) (vl_cons hr.1 (vl_cons he.1 hm)), rfl⟩
  show (0 : Int) ≤ (if _ then 1 else 0) ∧ (if _ then (1 : Int) else 0) ≤ 1
  split
  · exact one01
  · exact zero01
theorem wr_atomic (s : St) : Wr StmOk (Px.atomic E s) s := by
  unfold Px.atomic
  refine wr_rest (wr_bind (wr_expect _ _) (fun _ s1 _ _ _ => ?_))
  refine wr_bind (Φ := Beh [Px.none (Px.offOf E s)]) (wr_of (s1 := { s1 with braces := 1 }) (wr_if (fun _ => wr_ok (beh_self _)) (fun _ => wr_assigns (beh_self _) _)) (List.suffix_refl _)) (fun l s2 _ _ hl => ?_)
  obtain ⟨m, rfl, ⟨j, hj⟩, hm⟩ := hl
  refine wr_bind (wr_expect _ s2) (fun _ s3 _ _ _ => ?_)
  refine wr_bind (Φ := fun l => ∃ g, l = g :: m ∧ MaybeOk g) (wr_of (s1 := { s3 with braces := 0 }) (wr_if (fun _ => ?_) (fun _ => wr_ok ⟨_, rfl, none_ok _⟩)) (List.suffix_refl _)) (fun l s5 _ _ hl => ?_)
  · exact wr_rest (wr_bind (wr_expr _) (fun g s4 _ _ hg => wr_ok ⟨g, rfl, maybe_up hg⟩))
  · obtain ⟨g, rfl, hg⟩ := hl
    exact wr_end ⟨vt_mk ⟨lab0, lab0, zz, zz, zz, .inr rfl⟩ (kv_more j (fun h => by cases h) rfl ⟨yes_isMaybeExpr hg.2, hj⟩) (vl_cons hg.1 hm), rfl⟩ s5
theorem wr_cas (s : St) : Wr StmOk (Px.cas E s) s := by
  unfold Px.cas
  refine wr_rest (wr_bind (wr_refr _) (fun a s1 _ _ ha => wr_bind (wr_expect _ s1) (fun _ s2 _ _ _ => wr_bind (wr_expr s2) (fun b s3 _ _ hb => wr_bind (wr_expect _ s3) (fun _ s4 _ _ _ => ?_)))))
  refine wr_bind (wr_expr s4) (fun c s5 _ _ hc => wr_bind (wr_expect _ s5) (fun _ s6 _ _ _ => wr_bind (wr_refr s6) (fun d s7 _ _ hd => wr_bind (wr_withs (beh_self [a, b, c, d]) s7) (fun l s8 _ _ hl => ?_))))
  obtain ⟨m, rfl, ⟨j, hj⟩, hm⟩ := hl
  exact wr_end ⟨vt_mk ⟨lab0, lab0, zz, zz, zz, .inr rfl⟩ (kv_more j (fun h => by cases h) rfl ⟨yes_isRef ha.2, yes_isExpr hb.2, yes_isExpr hc.2, yes_isRef hd.2, hj⟩) (vl_cons ha.1 (vl_cons hb.1 (vl_cons hc.1 (vl_cons hd.1 hm)))), rfl⟩ s8
theorem wr_call (s : St) : Wr StmOk (Px.call E s) s := by
  unfold Px.call
  refine wr_rest (wr_bind (wr_path _) (fun x s1 _ _ hx => wr_bind (wr_tuple wr_expr s1) (fun l s2 _ _ hl => wr_end ?_ s2)))
  exact ⟨vt_mk ⟨lab2 hx, lab0, zz, zz, zz, .inr rfl⟩ (kv_all rfl rfl rfl (fun t ht => yes_isExpr (hl t ht).2)) (vl_all (fun t ht => (hl t ht).1)), rfl⟩
theorem wr_typed (s : St) : Wr (fun p => NameOk p.1 ∧ NumOk p.2) (Px.typed E s) s := by
  unfold Px.typed
  exact wr_bind (wr_name s) (fun x s1 _ _ hx => wr_bind (wr_expect _ s1) (fun _ s2 _ _ _ => wr_bind (wr_number s2) (fun m s3 _ _ hm => wr_ok ⟨hx, hm⟩)))
theorem wr_plocal (s : St) : Wr StmOk (Px.plocal E s) s := by
  unfold Px.plocal
  refine wr_acc (x := [103, 104, 111, 115, 116]) (wr_bind (wr_expect _ _) (fun _ s1 _ _ _ => wr_bind (wr_typed s1) (fun p s2 _ _ hp => wr_end ?_ s2)))
  exact ⟨vt_mk ⟨lab1 hp.1, lab0, hp.2, zz, zz, .inl rfl⟩ ⟨0, fun _ => rfl, trivial⟩ vl_nil, rfl⟩
theorem blk_mk {l : List T} {o : Int} (h : ∀ t ∈ l, StmOk t) : BlkOk (T.of 34 o l) :=
  ⟨vt_mk ⟨lab0, lab0, zz, zz, zz, .inr rfl⟩ (kv_all rfl rfl rfl (fun t ht => yes_isStatement (h t ht).2)) (vl_all (fun t ht => (h t ht).1)), rfl⟩
theorem wr_block {rd : St → Res T} (hr : ∀ s, Wr StmOk (rd s) s) (hs : ∀ s, Px.Suf (rd s) s) (s : St) : Wr BlkOk (Px.block E rd s) s := by
  unfold Px.block
  exact wr_bind (wr_list hr hs s) (fun l s1 _ _ hl => wr_ok (blk_mk hl))
theorem wr_branch {rd : St → Res T} (hr : ∀ s, Wr StmOk (rd s) s) (hs : ∀ s, Px.Suf (rd s) s) (s : St) : Wr StmOk (Px.branch E rd s) s := by
  unfold Px.branch
  refine wr_rest (wr_bind (wr_expr _) (fun e s1 _ _ he => wr_bind (wr_block hr hs s1) (fun y s2 _ _ hy => ?_)))
  refine wr_bind (Φ := BlkOk) (wr_if (fun _ => wr_rest (wr_block hr hs _)) (fun _ => wr_ok (blk_mk (fun t ht => by cases ht)))) (fun z s3 _ _ hz => wr_ok ?_)
  exact ⟨vt_mk ⟨lab0, lab0, zz, zz, zz, .inr rfl⟩ ⟨0, fun _ => rfl, ⟨yes_isExpr he.2, yes_isBlock hy.2, yes_isBlock hz.2, trivial⟩⟩ (vl_cons he.1 (vl_cons hy.1 (vl_cons hz.1 vl_nil))), rfl⟩
theorem wr_loop {rd : St → Res T} (hr : ∀ s, Wr StmOk (rd s) s) (hs : ∀ s, Px.Suf (rd s) s) (s : St) : Wr StmOk (Px.loop E rd s) s := by
  unfold Px.loop
  refine wr_rest (wr_bind (wr_expr _) (fun e s1 _ _ he => ?_))
  refine wr_bind (Φ := MaybeOk) (wr_if (fun _ => wr_rest (wr_mono (wr_expr _) (fun _ h => maybe_up h))) (fun _ => wr_ok (none_ok _))) (fun v s2 _ _ hv => wr_bind (wr_block hr hs s2) (fun b s3 _ _ hb => wr_ok ?_))
  exact ⟨vt_mk ⟨lab0, lab0, zz, zz, zz, .inr rfl⟩ ⟨0, fun _ => rfl, ⟨yes_isExpr he.2, yes_isMaybeExpr hv.2, yes_isBlock hb.2, trivial⟩⟩ (vl_cons he.1 (vl_cons hv.1 (vl_cons hb.1 vl_nil))), rfl⟩
theorem claim20 (e : T) (o : Int) (h : ExprOk e) : StmOk (T.of 20 o [e]) := ⟨vt_mk ⟨lab0, lab0, zz, zz, zz, .inr rfl⟩ ⟨0, fun _ => rfl, ⟨yes_isExpr h.2, trivial⟩⟩ (vl_cons h.1 vl_nil), rfl⟩
theorem claim29 (e : T) (o : Int) (h : ExprOk e) : StmOk (T.of 29 o [e]) := ⟨vt_mk ⟨lab0, lab0, zz, zz, zz, .inr rfl⟩ ⟨0, fun _ => rfl, ⟨yes_isExpr h.2, trivial⟩⟩ (vl_cons h.1 vl_nil), rfl⟩
theorem bare26 (o : Int) : StmOk (T.of 26 o []) := ⟨vt_mk ⟨lab0, lab0, zz, zz, zz, .inr rfl⟩ ⟨0, fun _ => rfl, trivial⟩ vl_nil, rfl⟩
theorem bare30 (o : Int) : StmOk (T.of 30 o []) := ⟨vt_mk ⟨lab0, lab0, zz, zz, zz, .inr rfl⟩ ⟨0, fun _ => rfl, trivial⟩ vl_nil, rfl⟩
theorem named24 (x : Px.Str) (o : Int) (h : PathOk x) : StmOk (T.named 24 o x []) := ⟨vt_mk ⟨lab2 h, lab0, zz, zz, zz, .inr rfl⟩ ⟨0, fun _ => rfl, trivial⟩ vl_nil, rfl⟩
theorem named25 (x : Px.Str) (o : Int) (h : PathOk x) : StmOk (T.named 25 o x []) := ⟨vt_mk ⟨lab2 h, lab0, zz, zz, zz, .inr rfl⟩ ⟨0, fun _ => rfl, trivial⟩ vl_nil, rfl⟩
theorem named27 (x : Px.Str) (o : Int) (h : NameOk x) : StmOk (T.named 27 o x []) := ⟨vt_mk ⟨lab1 h, lab0, zz, zz, zz, .inr rfl⟩ ⟨0, fun _ => rfl, trivial⟩ vl_nil, rfl⟩
theorem named28 (x : Px.Str) (o : Int) (h : NameOk x) : StmOk (T.named 28 o x []) := ⟨vt_mk ⟨lab1 h, lab0, zz, zz, zz, .inr rfl⟩ ⟨0, fun _ => rfl, trivial⟩ vl_nil, rfl⟩
theorem wr_statement : ∀ (k : Nat) (s : St), Wr StmOk (Px.statement E k s) s
  | 0, s => by rw [Px.statement]; exact wr_wrong
  | k + 1, s => by
    have ih := wr_statement k
    have hs := Px.suf_statement (E := E) k
    rw [Px.statement]
    refine wr_if (fun _ => wr_claim claim20 s) (fun _ => wr_if (fun _ => wr_claim claim29 s) (fun _ => wr_if (fun _ => wr_bare bare26 s) (fun _ => wr_if (fun _ => wr_bare bare30 s) (fun _ => ?_))))
    refine wr_if (fun _ => wr_atomic s) (fun _ => wr_if (fun _ => wr_cas s) (fun _ => wr_if (fun _ => wr_named wr_path named24 s) (fun _ => wr_if (fun _ => wr_named wr_path named25 s) (fun _ => ?_))))
    refine wr_if (fun _ => wr_named wr_name named27 s) (fun _ => wr_if (fun _ => wr_named wr_name named28 s) (fun _ => wr_if (fun _ => wr_branch ih hs s) (fun _ => wr_if (fun _ => wr_loop ih hs s) (fun _ => ?_))))
    exact wr_if (fun _ => wr_call s) (fun _ => wr_if (fun _ => wr_plocal s) (fun _ => wr_assignment s))
theorem wr_stmt (s : St) : Wr StmOk (Px.stmt E s) s := by
  unfold Px.stmt
  exact wr_statement _ s
theorem suf_stmt' (s : St) : Px.Suf (Px.stmt E s) s := by
  unfold Px.stmt
  exact Px.suf_statement _ s
end Go.Proofs.YtbgpboiblggmiaaGreatDoor
