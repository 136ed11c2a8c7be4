import PyProof.Rows.All
import Wide.All
import OpenK.AllK
import Wide.FinOn
import HandS.ForMost
import HandS.Exc
import HandS.IsInst
import HandS.Wide
import HandS.WideBits
import HandS.Flow
import HandS.Deep
import HandS.Zip
import HandS.Gcd
import HandS.More
import HandS.TupLe
import HandS.Text
import HandS.SortInts
import HandS.RaiseMore
import HandS.Style
import HandS.Iter
import HandS.CallSlots
import HandS.WordsExc
import HandS.Defaults
import HandS.Head0
import HandS.Head1
import HandS.Head2
import HandS.HeadEnd
import HandS.HeadHook1
import HandS.HeadHook2
import HandS.EndBits
import PySem.Challenge.RW_brookworks_k02_numbers_reckoned
set_option Elab.async false
set_option linter.all false
set_option maxRecDepth 100000
namespace Ev
open PySem PySem.Spec PyProof.Rows L2

/-! ### data -/
inductive D where
  | non | bl (b : Bool) | int (i : Int) | str (x : Str) | ty (n : String) | cls (n : Str)
  | tup (xs : List D) | lst (xs : List D) | scr (xs : List D)
  | dct (ks vs : List D) | exc (c : Str) (fn : List Str) (fv : List D)

structure Gx where
  K : PySem.W.Frag
  mg : Str → Option Value

mutual
inductive Rp (g : Gx) (F : Hp) : V → D → Prop
  | non : Rp g F .non .non
  | bl (b : Bool) : Rp g F (.bl b) (.bl b)
  | int (i : Int) : Rp g F (.int i) (.int i)
  | str (x : Str) : Rp g F (.str x) (.str x)
  | ty (n : String) : Rp g F (.ty n) (.ty n)
  | cls {n : Str} {a : Addr} : g.mg n = some (.ref a) → Rp g F (.ref a) (.cls n)
  | tup {a : Addr} {vs : List V} {xs : List D} : SqT g.K F a vs → RpA g F vs xs → Rp g F (.ref a) (.tup xs)
  | lst {a : Addr} {vs : List V} {xs : List D} : F a = some (.lst vs) → RpA g F vs xs → Rp g F (.ref a) (.lst xs)
  | scr {a : Addr} {vs : List V} {xs : List D} : SqL g.K F a vs → RpA g F vs xs → Rp g F (.ref a) (.scr xs)
inductive RpA (g : Gx) (F : Hp) : List V → List D → Prop
  | nil : RpA g F [] []
  | cons {v : V} {vs : List V} {d : D} {ds : List D} : Rp g F v d → RpA g F vs ds → RpA g F (v :: vs) (d :: ds)
end

section
variable {g : Gx} {F F' : Hp}
theorem sqT_mono {K : PySem.W.Frag} {a : Addr} {xs : List V} (e : Same F F') (h : SqT K F a xs) : SqT K F' a xs := by
  rcases h with (h | ⟨o, h⟩) | h
  · exact .inl (.inl (e _ _ h))
  · exact .inl (.inr ⟨o, e _ _ h⟩)
  · exact .inr h
mutual
theorem Rp.mono (e : Same F F') : ∀ (d : D) (v : V), Rp g F v d → Rp g F' v d
  | .non, _, h => by cases h; exact .non
  | .bl b, _, h => by cases h; exact .bl b
  | .int i, _, h => by cases h; exact .int i
  | .str x, _, h => by cases h; exact .str x
  | .ty n, _, h => by cases h; exact .ty n
  | .cls n, _, h => by cases h with | cls q => exact .cls q
  | .tup xs, _, h => by cases h with | tup q r => exact .tup (sqT_mono e q) (RpA.mono e xs _ r)
  | .lst xs, _, h => by cases h with | lst q r => exact .lst (e _ _ q) (RpA.mono e xs _ r)
  | .scr xs, _, h => by cases h with | scr q r => exact .scr (e.seq q) (RpA.mono e xs _ r)
  | .dct _ _, _, h => by cases h
  | .exc _ _ _, _, h => by cases h
theorem RpA.mono (e : Same F F') : ∀ (ds : List D) (vs : List V), RpA g F vs ds → RpA g F' vs ds
  | [], _, h => by cases h; exact .nil
  | d :: ds, _, h => by cases h with | cons a b => exact .cons (Rp.mono e d _ a) (RpA.mono e ds _ b)
end
theorem RpA.length : ∀ {vs : List V} {ds : List D}, RpA g F vs ds → vs.length = ds.length
  | _, _, .nil => rfl
  | _, _, .cons _ b => by simp [RpA.length b]
theorem RpA.get : ∀ {vs : List V} {ds : List D} {i : Nat} {d : D}, RpA g F vs ds → ds[i]? = some d → ∃ v, vs[i]? = some v ∧ Rp g F v d
  | _, _, _, _, .nil, h => by simp at h
  | _, _, 0, _, .cons a _, h => by simp at h; subst h; exact ⟨_, rfl, a⟩
  | _, _, i + 1, d, .cons _ b, h => by
    obtain ⟨v, h1, h2⟩ := RpA.get (i := i) (d := d) b (by simpa using h)
    exact ⟨v, by simpa using h1, h2⟩
theorem RpA.get' : ∀ {vs : List V} {ds : List D} {i : Nat} {v : V}, RpA g F vs ds → vs[i]? = some v → ∃ d, ds[i]? = some d ∧ Rp g F v d
  | _, _, _, _, .nil, h => by simp at h
  | _, _, 0, _, .cons a _, h => by simp at h; subst h; exact ⟨_, rfl, a⟩
  | _, _, i + 1, v, .cons _ b, h => by
    obtain ⟨d, h1, h2⟩ := RpA.get' (i := i) (v := v) b (by simpa using h)
    exact ⟨d, by simpa using h1, h2⟩
theorem RpA.append : ∀ {vs ws : List V} {ds es : List D}, RpA g F vs ds → RpA g F ws es → RpA g F (vs ++ ws) (ds ++ es)
  | _, _, _, _, .nil, h => h
  | _, _, _, _, .cons a b, h => .cons a (RpA.append b h)
theorem RpA.take (n : Nat) : ∀ {vs : List V} {ds : List D}, RpA g F vs ds → RpA g F (vs.take n) (ds.take n) := fun {vs ds} h => by
  induction n generalizing vs ds with
  | zero => simp; exact .nil
  | succ n ih => cases h with
    | nil => exact .nil
    | cons a b => exact .cons a (ih b)
theorem RpA.drop (n : Nat) : ∀ {vs : List V} {ds : List D}, RpA g F vs ds → RpA g F (vs.drop n) (ds.drop n) := fun {vs ds} h => by
  induction n generalizing vs ds with
  | zero => simpa using h
  | succ n ih => cases h with
    | nil => exact .nil
    | cons a b => exact ih b
theorem RpA.set {v : V} {d : D} (r : Rp g F v d) : ∀ {vs : List V} {ds : List D} (i : Nat), RpA g F vs ds → RpA g F (vs.set i v) (ds.set i d)
  | _, _, _, .nil => .nil
  | _, _, 0, .cons _ t => .cons r t
  | _, _, i + 1, .cons q t => .cons q (RpA.set r i t)
theorem RpA.reverse {vs : List V} {ds : List D} (h : RpA g F vs ds) : RpA g F vs.reverse ds.reverse := by
  induction h using RpA.rec (motive_1 := fun _ _ _ => True) with
  | nil => exact .nil
  | cons a b _ ih => rw [List.reverse_cons, List.reverse_cons]; exact ih.append (.cons a .nil)
  | _ => trivial
end

/-! ### slots, results -/
inductive S where
  | d (x : D) | own (xs : List D)
abbrev Dl := List (Option S)
structure Ex where
  c : Str
  fn : List Str
  fv : List D
inductive Rs (α : Type) where
  | ok (a : α) (δ : Dl) | err (e : Ex) (δ : Dl)
abbrev M (α : Type) := Dl → Option (Rs α)
/-- an expression's result: data, what stands in a slot, a new list of one's own -/
inductive R where
  | d (x : D) | slot (i : Nat) | own (xs : List D)

def Owned (g : Gx) (O F H : Hp) (v : V) (xs : List D) : Prop := ∃ a vs, v = .ref a ∧ H a = some (.lst vs) ∧ RpA g F vs xs ∧ F a = none ∧ O a = none
def RpS (g : Gx) (O F H : Hp) (v : V) : S → Prop
  | .d x => Rp g F v x
  | .own xs => Owned g O F H v xs
structure Ms (g : Gx) (O F H : Hp) (σ : L2.St) (δ : Dl) : Prop where
  fh : Same F H
  oh : Same O H
  dj : ∀ a, F a = none ∨ O a = none
  sl : ∀ (i : Nat) s, δ[i]? = some (some s) → ∃ v, σ[i]? = some (some v) ∧ RpS g O F H v s
  ap : ∀ (i j : Nat) xs ys v, δ[i]? = some (some (.own xs)) → δ[j]? = some (some (.own ys)) → σ[i]? = some (some v) → σ[j]? = some (some v) → i = j
/-- v is no list of a slot's own -/
def Apart (σ : L2.St) (δ : Dl) (v : V) : Prop := ∀ (i : Nat) xs, δ[i]? = some (some (.own xs)) → σ[i]? ≠ some (some v)
def RpR (g : Gx) (O F H : Hp) (σ : L2.St) (δ : Dl) (v : V) : R → Prop
  | .d x => Rp g F v x
  | .slot i => σ[i]? = some (some v)
  | .own xs => Owned g O F H v xs ∧ Apart σ δ v
def RpT (g : Gx) (O F H : Hp) (σ : L2.St) (δ : Dl) (v : V) : S → Prop
  | .d x => Rp g F v x
  | .own xs => Owned g O F H v xs ∧ Apart σ δ v
/-- an exception of an own class: its class, the fields in its dict -/
def RpE (g : Gx) (F H : Hp) (e : Ex) (c : Value) (dd : Option Addr) : Prop :=
  g.mg e.c = some c ∧ ∃ (d : Addr) (vs : List V), dd = some d ∧ H d = some (.xd (e.fn.zip vs)) ∧ RpA g F vs e.fv ∧ e.fn.length = e.fv.length

/-! ### what is wanted behind -/
def wp (g : Gx) (O F : Hp) (σ : L2.St) (δ : Dl) {α : Type} (m : M α) (ok : Hp → Hp → Dl → α → Prop) (er : Hp → Hp → Dl → Ex → Prop) : Prop :=
  match m δ with
  | none => False
  | some (.ok a δ') => ∀ F' H', Same F F' → Ms g O F' H' σ δ' → ok F' H' δ' a
  | some (.err e δ') => ∀ F' H', Same F F' → Ms g O F' H' σ δ' → er F' H' δ' e
/-- what is wanted of an exception, by the slots there -/
abbrev WS := L2.St → XK
def eE (g : Gx) (E : XK) : Hp → Hp → Dl → Ex → Prop := fun F H _ e => ∀ c dd, RpE g F H e c dd → E c dd H
def retM {α : Type} (a : α) : M α := fun δ => some (.ok a δ)
def nopeM {α : Type} : M α := fun _ => none
def raiseM {α : Type} (e : Ex) : M α := fun δ => some (.err e δ)
def bindM {α β : Type} (m : M α) (f : α → M β) : M β := fun δ => match m δ with
  | none => none
  | some (.err e δ') => some (.err e δ')
  | some (.ok a δ') => f a δ'
def optM {α : Type} (o : Option α) : M α := fun δ => o.map fun a => .ok a δ
section
variable {g : Gx} {O F H : Hp} {σ : L2.St} {δ : Dl} {α β : Type} {ok ok' : Hp → Hp → Dl → α → Prop} {er : Hp → Hp → Dl → Ex → Prop}
theorem wp_ret {a : α} (M0 : Ms g O F H σ δ) (h : wp g O F σ δ (retM a) ok er) : ok F H δ a := h F H (Same.refl _) M0
theorem wp_opt {o : Option α} (h : wp g O F σ δ (optM o) ok er) : ∃ a, o = some a ∧ ∀ F' H', Same F F' → Ms g O F' H' σ δ → ok F' H' δ a := by
  cases o with
  | none => exact h.elim
  | some a => exact ⟨a, rfl, h⟩
theorem wp_mono {m : M α} (h : wp g O F σ δ m ok er) (k : ∀ F' H' δ' a, Same F F' → Ms g O F' H' σ δ' → ok F' H' δ' a → ok' F' H' δ' a) : wp g O F σ δ m ok' er := by
  unfold wp at h ⊢
  cases e : m δ with
  | none => rw [e] at h; exact h
  | some r => cases r with
    | ok a δ' => rw [e] at h; exact fun F' H' s M => k _ _ _ _ s M (h F' H' s M)
    | err x δ' => rw [e] at h; exact h
theorem wp_bind {m : M α} {f : α → M β} {ok : Hp → Hp → Dl → β → Prop} (h : wp g O F σ δ (bindM m f) ok er) : wp g O F σ δ m (fun F' _ δ' a => wp g O F' σ δ' (f a) ok er) er := by
  unfold wp at h ⊢
  unfold bindM at h
  cases e : m δ with
  | none => rw [e] at h; exact h
  | some r => cases r with
    | err x δ' => rw [e] at h; exact h
    | ok a δ' =>
      rw [e] at h
      intro F' H' s M
      show wp g O F' σ δ' (f a) ok er
      unfold wp
      simp only at h
      cases e2 : f a δ' with
      | none => rw [e2] at h; exact h
      | some r => cases r with
        | ok b δ'' => rw [e2] at h; exact fun F'' H'' s' M' => h F'' H'' (s.trans s') M'
        | err x δ'' => rw [e2] at h; exact fun F'' H'' s' M' => h F'' H'' (s.trans s') M'
end
def tR (g : Gx) (E : WS) (m : M R) : TE := fun σ H Q => ∃ O F δ, Ms g O F H σ δ ∧ wp g O F σ δ m (fun F' H' δ' r => ∀ v, RpR g O F' H' σ δ' v r → Q v H') (eE g (E σ))
def tD (g : Gx) (E : WS) (m : M D) : TE := fun σ H Q => ∃ O F δ, Ms g O F H σ δ ∧ wp g O F σ δ m (fun F' H' _ r => ∀ v, Rp g F' v r → Q v H') (eE g (E σ))
def tT (g : Gx) (E : WS) (m : M Bool) : TT := fun σ H Q => ∃ O F δ, Ms g O F H σ δ ∧ wp g O F σ δ m (fun _ H' _ r => Q r H') (eE g (E σ))
def tAs (g : Gx) (E : WS) (m : M (List D)) : TA := fun σ H Q => ∃ O F δ, Ms g O F H σ δ ∧ wp g O F σ δ m (fun F' H' _ r => ∀ vs, RpA g F' vs r → Q vs H') (eE g (E σ))
/-- an operand: what stands in a slot is left where it is -/
inductive Op where
  | d (x : D) | slot (i : Nat)
def RpO (g : Gx) (F : Hp) (σ : L2.St) (v : V) : Op → Prop
  | .d x => Rp g F v x
  | .slot i => σ[i]? = some (some v)
def tO (g : Gx) (E : WS) (m : M Op) : TE := fun σ H Q => ∃ O F δ, Ms g O F H σ δ ∧ wp g O F σ δ m (fun F' H' _ r => ∀ v, RpO g F' σ v r → Q v H') (eE g (E σ))

theorem _root_.L2.PE.imp {X : Cx} {e : Expr} {t t' : TE} (h : PE X e t) (k : ∀ σ H Q, t' σ H Q → t σ H Q) : PE X e t' := ⟨fun pins s σ H Q I hw => h.run pins s σ H Q I (k σ H Q hw)⟩
theorem _root_.L2.PT.imp {X : Cx} {e : Expr} {t t' : TT} (h : PT X e t) (k : ∀ σ H Q, t' σ H Q → t σ H Q) : PT X e t' := ⟨fun pins s σ H Q I hw => h.run pins s σ H Q I (k σ H Q hw)⟩
theorem _root_.L2.PA.imp {X : Cx} {e : List Expr} {t t' : TA} (h : PA X e t) (k : ∀ σ H Q, t' σ H Q → t σ H Q) : PA X e t' := ⟨fun p pins s σ H Q I hw => h.run p pins s σ H Q I (k σ H Q hw)⟩
theorem _root_.L2.PS.imp {X : Cx} {e : Stmt} {t t' : TS} (h : PS X e t) (k : ∀ D σ H, t' D σ H → t D σ H) : PS X e t' := ⟨fun pins s σ H D I hw => h.run pins s σ H D I (k D σ H hw)⟩
theorem _root_.L2.PSs.imp {X : Cx} {e : List Stmt} {t t' : TS} (h : PSs X e t) (k : ∀ D σ H, t' D σ H → t D σ H) : PSs X e t' := ⟨fun pins s σ H D I hw => h.run pins s σ H D I (k D σ H hw)⟩
end Ev

set_option Elab.async false
set_option linter.all false
set_option maxRecDepth 100000
namespace Ev
open PySem PySem.Spec PyProof.Rows L2

def Op.val (δ : Dl) : Op → Option D
  | .d x => some x
  | .slot i => match δ[i]? with
    | some (some (.d x)) => some x
    | some (some (.own xs)) => some (.lst xs)
    | _ => none
def Bw (g : Gx) (O F H : Hp) (v : V) (x : D) : Prop := Rp g F v x ∨ ∃ xs, x = .lst xs ∧ Owned g O F H v xs
def S.toR : S → R
  | .d x => .d x
  | .own xs => .own xs

structure Grow (F H F' H' : Hp) : Prop where
  ff : Same F F'
  hh : Same H H'
  fh : Same F' H'
  nw : ∀ a, H a ≠ none → F a = none → F' a = none
theorem Grow.refl {F H : Hp} (h : Same F H) : Grow F H F H := ⟨Same.refl _, Same.refl _, h, fun _ _ z => z⟩
theorem Grow.trans {F H F1 H1 F2 H2 : Hp} (a : Grow F H F1 H1) (b : Grow F1 H1 F2 H2) : Grow F H F2 H2 :=
  ⟨a.ff.trans b.ff, a.hh.trans b.hh, b.fh, fun c h1 h2 => b.nw c (fun z => by
    cases q : H c with
    | none => exact h1 q
    | some o => rw [a.hh _ _ q] at z; cases z) (a.nw c h1 h2)⟩
def RpN (g : Gx) (H F' H' : Hp) (v : V) : S → Prop
  | .d x => Rp g F' v x
  | .own xs => ∃ a vs, v = .ref a ∧ H a = none ∧ H' a = some (.lst vs) ∧ RpA g F' vs xs ∧ F' a = none

section
variable {g : Gx} {O F H F' H' : Hp} {σ : L2.St} {δ : Dl} {v : V} {xs : List D} {i : Nat}
theorem ne_none {H : Hp} {a : Addr} {o : HO} (h : H a = some o) : H a ≠ none := by rw [h]; exact fun z => nomatch z
theorem Owned.mono (ow : Owned g O F H v xs) (k : Grow F H F' H') : Owned g O F' H' v xs := by
  obtain ⟨a, vs, rfl, e, r, f, o⟩ := ow
  exact ⟨a, vs, rfl, k.hh _ _ e, r.mono k.ff _ _, k.nw a (ne_none e) f, o⟩
theorem Ms.grow (M : Ms g O F H σ δ) (k : Grow F H F' H') : Ms g O F' H' σ δ := by
  refine ⟨k.fh, M.oh.trans k.hh, fun a => ?_, fun i s h => ?_, M.ap⟩
  · rcases M.dj a with h | h
    · cases q : O a with
      | none => exact .inr rfl
      | some o => exact .inl (k.nw a (ne_none (M.oh _ _ q)) h)
    · exact .inr h
  · obtain ⟨v, e, r⟩ := M.sl i s h
    refine ⟨v, e, ?_⟩
    cases s with
    | d x => exact Rp.mono k.ff _ _ r
    | own xs => exact Owned.mono r k
theorem Ms.new {s : S} (M : Ms g O F H σ δ) (k : Grow F H F' H') (n : RpN g H F' H' v s) : RpR g O F' H' σ δ v s.toR := by
  cases s with
  | d x => exact n
  | own xs =>
    obtain ⟨a, vs, rfl, e, e', r, f⟩ := n
    refine ⟨⟨a, vs, rfl, e', r, f, ?_⟩, fun i ys hi hs => ?_⟩
    · exact M.oh.free e
    · obtain ⟨v, hv, b, ws, rfl, hb, _⟩ := M.sl i _ hi
      rw [hs] at hv; cases hv
      rw [e] at hb; cases hb
theorem Grow.frz {a : Addr} {o : HO} (h : Same F H) (e : H a = some o) (f : F a = none) : Same F (upd F a o) ∧ Same (upd F a o) H := by
  refine ⟨fun b x q => ?_, fun b x q => ?_⟩
  · rw [upd_ne (ne_of_none q f)]; exact q
  · by_cases hb : b = a
    · subst hb; rw [upd_same] at q; rw [e]; exact q
    · rw [upd_ne hb] at q; exact h _ _ q
theorem Ms.frz (M : Ms g O F H σ δ) (ow : Owned g O F H v xs) (ap : Apart σ δ v) : ∃ F', Same F F' ∧ Ms g O F' H σ δ ∧ Rp g F' v (.lst xs) := by
  obtain ⟨a, vs, rfl, e, r, f, o⟩ := ow
  obtain ⟨s1, s2⟩ := Grow.frz M.fh e f
  refine ⟨upd F a (.lst vs), s1, ⟨s2, M.oh, fun b => ?_, fun i s h => ?_, M.ap⟩, .lst upd_same (r.mono s1 _ _)⟩
  · by_cases hb : b = a
    · subst hb; exact .inr o
    · rw [upd_ne hb]; exact M.dj b
  · obtain ⟨w, ew, rw'⟩ := M.sl i s h
    refine ⟨w, ew, ?_⟩
    cases s with
    | d x => exact Rp.mono s1 _ _ rw'
    | own ys =>
      obtain ⟨b, ws, rfl, e1, e2, e3, e4⟩ := rw'
      have ne : b ≠ a := fun z => by subst z; exact ap i ys h ew
      exact ⟨b, ws, rfl, e1, e2.mono s1 _ _, by rw [upd_ne ne]; exact e3, e4⟩
theorem get_set_of {α : Type} {l : List α} {i j : Nat} {x y : α} (h : (l.set i x)[j]? = some y) : (i = j ∧ x = y) ∨ (i ≠ j ∧ l[j]? = some y) := by
  by_cases e : i = j
  · subst e
    by_cases hl : i < l.length
    · rw [List.getElem?_set_self hl] at h; exact .inl ⟨rfl, Option.some.inj h⟩
    · rw [List.getElem?_eq_none (by rw [List.length_set]; omega)] at h; cases h
  · rw [List.getElem?_set_ne e] at h; exact .inr ⟨e, h⟩
theorem Ms.frzSlot (M : Ms g O F H σ δ) (hi : δ[i]? = some (some (.own xs))) : ∃ F' v, σ[i]? = some (some v) ∧ Same F F' ∧ Ms g O F' H σ (δ.set i (some (.d (.lst xs)))) ∧ Rp g F' v (.lst xs) := by
  obtain ⟨v, ev, a, vs, rfl, e, r, f, o⟩ := M.sl i _ hi
  obtain ⟨s1, s2⟩ := Grow.frz M.fh e f
  have rp : Rp g (upd F a (.lst vs)) (.ref a) (.lst xs) := .lst upd_same (r.mono s1 _ _)
  refine ⟨upd F a (.lst vs), _, ev, s1, ⟨s2, M.oh, fun b => ?_, fun j s h => ?_, fun j k ys zs w h1 h2 h3 h4 => ?_⟩, rp⟩
  · by_cases hb : b = a
    · subst hb; exact .inr o
    · rw [upd_ne hb]; exact M.dj b
  · rcases get_set_of h with ⟨e1, e2⟩ | ⟨ne, h'⟩
    · subst e1; cases e2; exact ⟨_, ev, rp⟩
    · obtain ⟨w, ew, rw'⟩ := M.sl j s h'
      refine ⟨w, ew, ?_⟩
      cases s with
      | d x => exact Rp.mono s1 _ _ rw'
      | own ys =>
        obtain ⟨b, ws, rfl, e1, e2, e3, e4⟩ := rw'
        have ne' : b ≠ a := fun z => by subst z; exact ne (M.ap i j xs ys _ hi h' ev ew)
        exact ⟨b, ws, rfl, e1, e2.mono s1 _ _, by rw [upd_ne ne']; exact e3, e4⟩
  · rcases get_set_of h1 with ⟨_, z⟩ | ⟨_, h1'⟩
    · cases z
    rcases get_set_of h2 with ⟨_, z⟩ | ⟨_, h2'⟩
    · cases z
    exact M.ap j k ys zs w h1' h2' h3 h4
theorem Ms.bw {op : Op} {x : D} (M : Ms g O F H σ δ) (h : RpO g F σ v op) (e : op.val δ = some x) : Bw g O F H v x := by
  cases op with
  | d y => cases e; exact .inl h
  | slot i =>
    simp only [Op.val] at e
    split at e
    · rename_i y q
      cases e
      obtain ⟨w, ew, r⟩ := M.sl i _ q
      rw [show σ[i]? = some (some v) from h] at ew; cases ew
      exact .inl r
    · rename_i ys q
      cases e
      obtain ⟨w, ew, r⟩ := M.sl i _ q
      rw [show σ[i]? = some (some v) from h] at ew; cases ew
      exact .inr ⟨ys, rfl, r⟩
    · cases e
theorem RpO.mono {op : Op} (s : Same F F') (h : RpO g F σ v op) : RpO g F' σ v op := by
  cases op with
  | d y => exact Rp.mono s _ _ h
  | slot i => exact h
theorem Bw.list (b : Bw g O F H v (.lst xs)) (fh : Same F H) : ∃ a vs, v = .ref a ∧ H a = some (.lst vs) ∧ RpA g F vs xs := by
  rcases b with b | ⟨ys, e, a, vs, rfl, h, r, _⟩
  · cases b with | lst q r => exact ⟨_, _, rfl, fh _ _ q, r⟩
  · cases e; exact ⟨a, vs, rfl, h, r⟩
theorem Bw.scr (b : Bw g O F H v (.scr xs)) (fh : Same F H) : ∃ a vs, v = .ref a ∧ SqL g.K H a vs ∧ RpA g F vs xs := by
  rcases b with b | ⟨ys, e, _⟩
  · cases b with | scr q r => exact ⟨_, _, rfl, fh.seq q, r⟩
  · cases e
/-- the items of a list of either kind -/
def D.seqL : D → Option (List D)
  | .lst xs => some xs
  | .scr xs => some xs
  | _ => none
theorem Bw.seqL {x : D} (b : Bw g O F H v x) (e : x.seqL = some xs) (fh : Same F H) : ∃ a vs, v = .ref a ∧ SqL g.K H a vs ∧ RpA g F vs xs := by
  cases x with
  | lst ys => cases e; obtain ⟨a, vs, h1, h2, h3⟩ := b.list fh; exact ⟨a, vs, h1, .inl (.inl h2), h3⟩
  | scr ys => cases e; exact b.scr fh
  | _ => cases e
theorem Bw.rp {x : D} (b : Bw g O F H v x) (n : ∀ xs, x ≠ .lst xs) : Rp g F v x := by
  rcases b with b | ⟨ys, e, _⟩
  · exact b
  · exact absurd e (n ys)
theorem Bw.int {n : Int} (b : Bw g O F H v (.int n)) : v = .int n := by
  have := b.rp (fun _ z => nomatch z); cases this; rfl
theorem Bw.str {n : Str} (b : Bw g O F H v (.str n)) : v = .str n := by
  have := b.rp (fun _ z => nomatch z); cases this; rfl
theorem Bw.bl {n : Bool} (b : Bw g O F H v (.bl n)) : v = .bl n := by
  have := b.rp (fun _ z => nomatch z); cases this; rfl
theorem Bw.tup {xs : List D} (b : Bw g O F H v (.tup xs)) : ∃ a vs, v = .ref a ∧ SqT g.K F a vs ∧ RpA g F vs xs := by
  have := b.rp (fun _ z => nomatch z)
  cases this with | tup q r => exact ⟨_, _, rfl, q, r⟩
end

/-! ### from results to operands and data -/
def opdM (m : M R) : M Op := bindM m fun r => match r with
  | .d x => retM (.d x)
  | .slot i => retM (.slot i)
  | .own xs => retM (.d (.lst xs))
def datM (m : M R) : M D := bindM m fun r => match r with
  | .d x => retM x
  | .slot i => fun δ => match δ[i]? with
    | some (some (.d x)) => some (.ok x δ)
    | some (some (.own xs)) => some (.ok (.lst xs) (δ.set i (some (.d (.lst xs)))))
    | _ => none
  | .own xs => retM (.lst xs)
section
variable {X : Cx} {g : Gx} {E : WS} {e : Expr}
theorem wp_elim {O F : Hp} {σ : L2.St} {δ : Dl} {α : Type} {m : M α} {ok : Hp → Hp → Dl → α → Prop} {er : Hp → Hp → Dl → Ex → Prop}
    (h : wp g O F σ δ m ok er) : (∃ a δ', m δ = some (.ok a δ') ∧ ∀ F' H', Same F F' → Ms g O F' H' σ δ' → ok F' H' δ' a) ∨ (∃ x δ', m δ = some (.err x δ') ∧ ∀ F' H', Same F F' → Ms g O F' H' σ δ' → er F' H' δ' x) := by
  unfold wp at h
  cases e : m δ with
  | none => rw [e] at h; exact h.elim
  | some r => cases r with
    | ok a δ' => rw [e] at h; exact .inl ⟨a, δ', rfl, h⟩
    | err x δ' => rw [e] at h; exact .inr ⟨x, δ', rfl, h⟩
theorem pr_opd {m : M R} (h : PE X e (tR g E m)) : PE X e (tO g E (opdM m)) := by
  refine h.imp fun σ H Q ⟨O, F, δ, M, w⟩ => ⟨O, F, δ, M, wp_mono (wp_bind w) fun F' H' δ' r s M' q v hv => ?_⟩
  cases r with
  | d x => exact wp_ret M' q v hv
  | slot i => exact wp_ret M' q v hv
  | own xs =>
    obtain ⟨F2, s2, M2, r2⟩ := M'.frz hv.1 hv.2
    exact q F2 H' s2 M2 v r2
theorem pr_dat {m : M R} (h : PE X e (tR g E m)) : PE X e (tD g E (datM m)) := by
  refine h.imp fun σ H Q ⟨O, F, δ, M, w⟩ => ⟨O, F, δ, M, wp_mono (wp_bind w) fun F' H' δ' r s M' q v hv => ?_⟩
  cases r with
  | d x => exact wp_ret M' q v hv
  | slot i =>
    rcases wp_elim q with ⟨a, δ2, e1, q1⟩ | ⟨a, δ2, e1, q1⟩
    · simp only at e1
      split at e1
      · rename_i x hx
        cases e1
        obtain ⟨w2, ew, r2⟩ := M'.sl i _ hx
        rw [show σ[i]? = some (some v) from hv] at ew; cases ew
        exact q1 F' H' (Same.refl _) M' v r2
      · rename_i ys hx
        cases e1
        obtain ⟨F2, w2, ew, s2, M2, r2⟩ := M'.frzSlot hx
        rw [show σ[i]? = some (some v) from hv] at ew; cases ew
        exact q1 F2 H' s2 M2 v r2
      · cases e1
    · simp only at e1
      split at e1 <;> cases e1
  | own xs =>
    obtain ⟨F2, s2, M2, r2⟩ := M'.frz hv.1 hv.2
    exact q F2 H' s2 M2 v r2
end
end Ev

set_option Elab.async false
set_option linter.all false
set_option maxRecDepth 100000
namespace Ev
open PySem PySem.Spec PyProof.Rows L2

/-! ### operators by data -/
def liftOp (r : Option S) : M R := fun δ => r.map fun s => .ok s.toR δ
def op2 (f : D → D → Option S) (ma mb : M R) : M R := bindM (opdM ma) fun x => bindM (opdM mb) fun y => fun δ =>
  match x.val δ, y.val δ with
  | some d, some e => liftOp (f d e) δ
  | _, _ => none
def op1 (f : D → Option S) (ma : M R) : M R := bindM (opdM ma) fun x => fun δ =>
  match x.val δ with
  | some d => liftOp (f d) δ
  | none => none
/-- a rule over two values does what f says of their data -/
def O2 (g : Gx) (r : R2) (f : D → D → Option S) : Prop := ∀ (O F H : Hp) (x y : V) (d e : D) (s : S) (Q : VK), Same F H → Bw g O F H x d → Bw g O F H y e → f d e = some s →
  (∀ F' H' v, Grow F H F' H' → RpN g H F' H' v s → Q v H') → r x y H Q
def O1 (g : Gx) (r : V → Hp → VK → Prop) (f : D → Option S) : Prop := ∀ (O F H : Hp) (x : V) (d : D) (s : S) (Q : VK), Same F H → Bw g O F H x d → f d = some s →
  (∀ F' H' v, Grow F H F' H' → RpN g H F' H' v s → Q v H') → r x H Q
section
variable {g : Gx} {E : WS} {σ : L2.St} {H : Hp} {Q : VK}
theorem t_op2 {r : R2} {f : D → D → Option S} {ma mb : M R} (h : O2 g r f) (w : tR g E (op2 f ma mb) σ H Q) : tOp r (tO g E (opdM ma)) (tO g E (opdM mb)) σ H Q := by
  obtain ⟨O, F, δ, M, w⟩ := w
  refine ⟨O, F, δ, M, wp_mono (wp_bind w) fun F1 H1 δ1 x s1 M1 w1 vx hx => ?_⟩
  refine ⟨O, F1, δ1, M1, wp_mono (wp_bind w1) fun F2 H2 δ2 y s2 M2 w2 vy hy => ?_⟩
  unfold wp at w2
  simp only at w2
  cases ex : x.val δ2 with
  | none => rw [ex] at w2; exact w2.elim
  | some d =>
    cases ey : y.val δ2 with
    | none => rw [ex, ey] at w2; exact w2.elim
    | some e =>
      rw [ex, ey] at w2
      simp only [liftOp] at w2
      cases ef : f d e with
      | none => rw [ef] at w2; exact w2.elim
      | some s =>
        rw [ef] at w2
        simp only [Option.map_some] at w2
        exact h O F2 H2 vx vy d e s Q M2.fh (M2.bw (hx.mono s2) ex) (M2.bw hy ey) ef fun F' H' v k n => w2 F' H' k.ff (M2.grow k) v (M2.new k n)
theorem t_op1 {r : V → Hp → VK → Prop} {f : D → Option S} {ma : M R} (h : O1 g r f) (w : tR g E (op1 f ma) σ H Q) : tO g E (opdM ma) σ H (fun x H1 => r x H1 Q) := by
  obtain ⟨O, F, δ, M, w⟩ := w
  refine ⟨O, F, δ, M, wp_mono (wp_bind w) fun F1 H1 δ1 x s1 M1 w1 vx hx => ?_⟩
  unfold wp at w1
  simp only at w1
  cases ex : x.val δ1 with
  | none => rw [ex] at w1; exact w1.elim
  | some d =>
    rw [ex] at w1
    simp only [liftOp] at w1
    cases ef : f d with
    | none => rw [ef] at w1; exact w1.elim
    | some s =>
      rw [ef] at w1
      simp only [Option.map_some] at w1
      exact h O F1 H1 vx d s Q M1.fh (M1.bw hx ex) ef fun F' H' v k n => w1 F' H' k.ff (M1.grow k) v (M1.new k n)
end

/-! ### new objects -/
section
variable {g : Gx} {F H : Hp} {p : Addr} {vs : List V} {xs : List D}
theorem grow_lst (fh : Same F H) (hp : H p = none) : Grow F H F (upd H p (.lst vs)) :=
  ⟨Same.refl _, fun b o e => by rw [upd_ne (ne_of_none e hp)]; exact e, fun b o e => by rw [upd_ne (ne_of_none (fh _ _ e) hp)]; exact fh _ _ e, fun _ _ z => z⟩
theorem new_own (fh : Same F H) (hp : H p = none) (r : RpA g F vs xs) : RpN g H F (upd H p (.lst vs)) (.ref p) (.own xs) :=
  ⟨p, vs, rfl, hp, upd_same, r, fh.free hp⟩
theorem grow_tup (fh : Same F H) (hp : H p = none) : Grow F H (upd F p (.tup vs)) (upd H p (.tup vs)) := by
  refine ⟨fun b o e => by rw [upd_ne (ne_of_none (fh _ _ e) hp)]; exact e, fun b o e => by rw [upd_ne (ne_of_none e hp)]; exact e, fun b o e => ?_, fun b h1 h2 => ?_⟩
  · by_cases hb : b = p
    · subst hb; rw [upd_same] at e ⊢; exact e
    · rw [upd_ne hb] at e ⊢; exact fh _ _ e
  · have : b ≠ p := fun z => by subst z; exact h1 hp
    rw [upd_ne this]; exact h2
theorem new_tup (fh : Same F H) (hp : H p = none) (r : RpA g F vs xs) : RpN g H (upd F p (.tup vs)) (upd H p (.tup vs)) (.ref p) (.d (.tup xs)) :=
  .tup (.inl (.inl upd_same)) (r.mono (grow_tup fh hp).ff _ _)
end

/-! ### the operators of ints, texts, lists, tuples -/
def isNil {α : Type} : List α → Bool
  | [] => true
  | _ => false
theorem ne_of_isNil {α : Type} {l : List α} (h : ¬ isNil l = true) : l ≠ [] := by
  cases l with
  | nil => exact absurd rfl h
  | cons a b => exact fun z => nomatch z
theorem RpA.ne {g : Gx} {F : Hp} {vs : List V} {ds : List D} (r : RpA g F vs ds) (h : ds ≠ []) : vs ≠ [] := by
  cases r with
  | nil => exact absurd rfl h
  | cons _ _ => exact fun z => nomatch z
theorem RpA.nil_of {g : Gx} {F : Hp} {vs : List V} {ds : List D} (r : RpA g F vs ds) (h : vs = []) : ds = [] := by
  subst h; cases r; rfl
def addD : D → D → Option S
  | .int i, .int j => some (.d (.int (i + j)))
  | .str a, .str b => if a.length + b.length ≤ sizeLine then some (.d (.str (a ++ b))) else none
  | .lst xs, .lst ys => if xs.length + ys.length ≤ sizeLine then some (.own (xs ++ ys)) else none
  | .tup xs, .tup ys => if isNil xs then none else if xs.length + ys.length ≤ sizeLine then some (.d (.tup (xs ++ ys))) else none
  | _, _ => none
def rStrAdd : R2 := fun x y H Q => ∃ i j, x = .str i ∧ y = .str j ∧ i.length + j.length ≤ sizeLine ∧ Q (.str (i ++ j)) H
def rAddD (K : PySem.W.Frag) : R2 := fun x y H Q => rI0 (fun i j => .int (i + j)) x y H Q ∨ rStrAdd x y H Q ∨ rCat x y H Q ∨ rCatT K x y H Q
section
variable {X : Cx} {g : Gx}
theorem op_addD : OpR X (binaryOp .Add) (rAddD X.K) := op_add.or (op_add_str.or (op_cat.or op_catT))
theorem o2_int {r : R2} {F H : Hp} {i : Int} {Q : VK} (fh : Same F H) (q : ∀ F' H' v, Grow F H F' H' → RpN g H F' H' v (.d (.int i)) → Q v H') : Q (.int i) H := q F H _ (Grow.refl fh) (.int i)
theorem o2_add : O2 g (rAddD g.K) addD := by
  intro O F H x y d e s Q fh bx by' ef q
  unfold addD at ef
  split at ef
  · cases ef; exact .inl ⟨_, _, bx.int, by'.int, q F H _ (Grow.refl fh) (.int _)⟩
  · split at ef
    · cases ef; exact .inr (.inl ⟨_, _, bx.str, by'.str, by assumption, q F H _ (Grow.refl fh) (.str _)⟩)
    · cases ef
  · split at ef
    · cases ef
      obtain ⟨a, vs, rfl, h1, r1⟩ := bx.list fh
      obtain ⟨b, ws, rfl, h2, r2⟩ := by'.list fh
      refine .inr (.inr (.inl ⟨a, b, vs, ws, rfl, rfl, h1, h2, by rw [r1.length, r2.length]; assumption, fun p hp => ?_⟩))
      exact q _ _ _ (grow_lst fh hp) (new_own fh hp (r1.append r2))
    · cases ef
  · split at ef
    · cases ef
    · rename_i hn
      split at ef
      · cases ef
        obtain ⟨a, vs, rfl, h1, r1⟩ := bx.tup
        obtain ⟨b, ws, rfl, h2, r2⟩ := by'.tup
        refine .inr (.inr (.inr ⟨a, b, vs, ws, rfl, rfl, sqT_mono fh h1, sqT_mono fh h2, r1.ne (ne_of_isNil hn), by rw [r1.length, r2.length]; assumption, fun z => ?_, fun _ p hp => ?_⟩))
        · have : (_ : List D) = [] := r2.nil_of z
          subst this
          rw [List.append_nil] at q
          exact q F H _ (Grow.refl fh) (.tup h1 r1)
        · exact q _ _ _ (grow_tup fh hp) (new_tup fh hp (r1.append r2))
      · cases ef
  · cases ef
/-- an operator of two ints -/
def intD (C : Int → Int → Bool) (f : Int → Int → Int) : D → D → Option S
  | .int i, .int j => if C i j then some (.d (.int (f i j))) else none
  | _, _ => none
theorem o2_intD {C : Int → Int → Prop} {c : Int → Int → Bool} {f : Int → Int → Int} (h : ∀ i j, c i j = true → C i j) : O2 g (rI C fun i j => .int (f i j)) (intD c f) := by
  intro O F H x y d e s Q fh bx by' ef q
  unfold intD at ef
  split at ef
  · split at ef
    · cases ef; exact ⟨_, _, bx.int, by'.int, h _ _ (by assumption), q F H _ (Grow.refl fh) (.int _)⟩
    · cases ef
  · cases ef
def subD : D → D → Option S := intD (fun _ _ => true) fun i j => i - j
def mulC (i j : Int) : Bool := decide (i.natAbs < 2 ^ 64) || decide (j.natAbs < 2 ^ 64) || decide ((Builtin.Int.intBits i : Int) + (Builtin.Int.intBits j : Int) ≤ 134217728)
def mulD : D → D → Option S
  | .int i, .int j => if mulC i j then some (.d (.int (i * j))) else none
  | .lst xs, .int k => if -(2 ^ 63) ≤ k ∧ k < 2 ^ 63 ∧ xs.length * k.toNat ≤ sizeLine then some (.own (List.replicate k.toNat xs).flatten) else none
  | _, _ => none
def fdivC (_ j : Int) : Bool := decide (0 < j ∧ j.natAbs.log2 < 9000)
def fdivD : D → D → Option S := intD fdivC fun i j => i / j
def modD : D → D → Option S := intD (fun _ j => decide (0 < j)) fun i j => i % j
def powC (i j : Int) : Bool := decide (0 ≤ j ∧ (Builtin.Int.intBits i : Int) * j ≤ 2 ^ 27)
def powD : D → D → Option S := intD powC fun i j => i ^ j.toNat
def shrD : D → D → Option S := intD (fun _ j => decide (0 ≤ j)) fun i j => i / 2 ^ j.toNat
def andD : D → D → Option S := intD (fun _ _ => true) fun i j => Builtin.bitAnd i j
theorem op_subD : OpR X (binaryOp .Sub) (rI (fun _ _ => True) fun i j => .int (i - j)) := opI fun _ _ _ _ _ _ _ _ q => sub_int q
theorem op_andD : OpR X (binaryOp .BitAnd) (rI (fun _ _ => True) fun i j => .int (Builtin.bitAnd i j)) := opI fun _ _ _ _ _ _ _ _ q => and_int q
theorem op_powD : OpR X (binaryOp .Pow) (rI (fun i j => 0 ≤ j ∧ (Builtin.Int.intBits i : Int) * j ≤ 2 ^ 27) fun i j => .int (i ^ j.toNat)) := opI fun _ _ _ _ _ _ _ hc q => pow_int hc.1 hc.2 q
def CMulY (i j : Int) : Prop := CMul i j ∨ (Builtin.Int.intBits i : Int) + (Builtin.Int.intBits j : Int) ≤ 134217728
theorem op_mulY : OpR X (binaryOp .Mult) (rI CMulY fun i j => .int (i * j)) := opI fun _ _ _ _ _ _ _ hc q => mul_int q (hc.elim CMul.ok CMulX.ok)
theorem mulC_ok {i j : Int} (h : mulC i j = true) : CMulY i j := by
  simp only [mulC, Bool.or_eq_true, decide_eq_true_eq] at h
  rcases h with (h | h) | h
  · exact .inl (.inl (by omega))
  · exact .inl (.inr (by omega))
  · exact .inr h
def rMulD : R2 := fun x y H Q => rI CMulY (fun i j => .int (i * j)) x y H Q ∨ rRep x y H Q
theorem op_mulD : OpR X (binaryOp .Mult) rMulD := op_mulY.or op_rep
theorem RpA.rep {g : Gx} {F : Hp} {vs : List V} {ds : List D} (r : RpA g F vs ds) : ∀ n : Nat, RpA g F (List.replicate n vs).flatten (List.replicate n ds).flatten
  | 0 => .nil
  | n + 1 => by rw [List.replicate_succ, List.replicate_succ, List.flatten_cons, List.flatten_cons]; exact r.append (RpA.rep r n)
theorem o2_mul : O2 g rMulD mulD := by
  intro O F H x y d e s Q fh bx by' ef q
  unfold mulD at ef
  split at ef
  · split at ef
    · cases ef; exact .inl ⟨_, _, bx.int, by'.int, mulC_ok (by assumption), q F H _ (Grow.refl fh) (.int _)⟩
    · cases ef
  · split at ef
    · rename_i hc
      cases ef
      obtain ⟨a, vs, rfl, h1, r1⟩ := bx.list fh
      refine .inr ⟨a, _, vs, rfl, by'.int, h1, hc.1, hc.2.1, by rw [r1.length]; exact hc.2.2, fun p hp => ?_⟩
      exact q _ _ _ (grow_lst fh hp) (new_own fh hp (r1.rep _))
    · cases ef
  · cases ef
/-- the operator of a binary operation, by data -/
def binD : Operator → Option (D → D → Option S)
  | .Add => some addD
  | .Sub => some subD
  | .Mult => some mulD
  | .FloorDiv => some fdivD
  | .Mod => some modD
  | .Pow => some powD
  | .RShift => some shrD
  | .BitAnd => some andD
  | _ => none
theorem bin_ok {op : Operator} {f : D → D → Option S} (h : binD op = some f) : ∃ r, OpR X (binaryOp op) r ∧ O2 ⟨X.K, X.mg⟩ r f := by
  cases op <;> cases h
  · exact ⟨_, op_addD, o2_add⟩
  · exact ⟨_, op_subD, o2_intD fun _ _ _ => trivial⟩
  · exact ⟨_, op_mulD, o2_mul⟩
  · exact ⟨_, op_mod, o2_intD fun _ _ h => of_decide_eq_true h⟩
  · exact ⟨_, op_powD, o2_intD fun _ _ h => of_decide_eq_true h⟩
  · exact ⟨_, op_shr, o2_intD fun _ _ h => of_decide_eq_true h⟩
  · exact ⟨_, op_andD, o2_intD fun _ _ _ => trivial⟩
  · exact ⟨_, op_fdivW, o2_intD (C := CDivW) fun i j h => (of_decide_eq_true h : 0 < j ∧ j.natAbs.log2 < 9000)⟩
variable {E : WS} {a b : Expr} {ma mb : M R} {pos : Pos}
theorem pr_bin {op : Operator} {f : D → D → Option S} (h : binD op = some f) (ha : PE X a (tR ⟨X.K, X.mg⟩ E ma)) (hb : PE X b (tR ⟨X.K, X.mg⟩ E mb)) : PE X (.BinOp a op b pos) (tR ⟨X.K, X.mg⟩ E (op2 f ma mb)) := by
  obtain ⟨r, h1, h2⟩ := bin_ok (X := X) h
  exact (pe_op h1 (pr_opd ha) (pr_opd hb)).imp fun σ H Q w => t_op2 h2 w
end
end Ev

set_option Elab.async false
set_option linter.all false
set_option maxRecDepth 100000
namespace Ev
open PySem PySem.Spec PyProof.Rows L2

/-! ### data as the library's -/
mutual
def D.pd : D → Option PyData
  | .non => some .none
  | .bl b => some (.bool b)
  | .int i => some (.int i)
  | .str x => some (.str x)
  | .tup xs => (pds xs).map .tuple
  | .lst xs => (pds xs).map .list
  | .scr xs => (pds xs).map .list
  | _ => none
def pds : List D → Option (List PyData)
  | [] => some []
  | x :: xs => match x.pd, pds xs with
    | some p, some ps => some (p :: ps)
    | _, _ => none
end
section
variable {g : Gx} {O F H : Hp}
mutual
theorem Rp.dp (fh : Same F H) : ∀ (d : D) (v : V) (p : PyData), Rp g F v d → d.pd = some p → Dp g.K H v p
  | .non, _, _, h, e => by cases h; cases e; exact .non
  | .bl b, _, _, h, e => by cases h; cases e; exact .bl b
  | .int i, _, _, h, e => by cases h; cases e; exact .int i
  | .str x, _, _, h, e => by cases h; cases e; exact .str x
  | .ty _, _, _, _, e => by cases e
  | .cls _, _, _, _, e => by cases e
  | .dct _ _, _, _, _, e => by cases e
  | .exc _ _ _, _, _, _, e => by cases e
  | .tup xs, _, _, h, e => by
    cases h with
    | tup q r =>
      simp only [D.pd, Option.map_eq_some_iff] at e
      obtain ⟨ps, e1, e2⟩ := e
      subst e2
      exact .tup (sqT_mono fh q) (RpA.dp fh xs _ ps r e1)
  | .lst xs, _, _, h, e => by
    cases h with
    | lst q r =>
      simp only [D.pd, Option.map_eq_some_iff] at e
      obtain ⟨ps, e1, e2⟩ := e
      subst e2
      exact .lst (.inl (.inl (fh _ _ q))) (RpA.dp fh xs _ ps r e1)
  | .scr xs, _, _, h, e => by
    cases h with
    | scr q r =>
      simp only [D.pd, Option.map_eq_some_iff] at e
      obtain ⟨ps, e1, e2⟩ := e
      subst e2
      exact .lst (fh.seq q) (RpA.dp fh xs _ ps r e1)
theorem RpA.dp (fh : Same F H) : ∀ (ds : List D) (vs : List V) (ps : List PyData), RpA g F vs ds → pds ds = some ps → DpAll g.K H vs ps
  | [], _, _, h, e => by cases h; cases e; exact .nil
  | d :: ds, _, _, h, e => by
    cases h with
    | cons a b =>
      simp only [pds] at e
      split at e
      · cases e; exact .cons (Rp.dp fh d _ _ a (by assumption)) (RpA.dp fh ds _ _ b (by assumption))
      · cases e
end
theorem Bw.dp {v : V} {d : D} {p : PyData} (b : Bw g O F H v d) (fh : Same F H) (e : d.pd = some p) : Dp g.K H v p := by
  rcases b with b | ⟨xs, rfl, a, vs, rfl, h, r, _⟩
  · exact Rp.dp fh _ _ _ b e
  · simp only [D.pd, Option.map_eq_some_iff] at e
    obtain ⟨ps, e1, e2⟩ := e
    subst e2
    exact .lst (.inl (.inl h)) (RpA.dp fh _ _ _ r e1)
end
/-- flat data as values -/
def D.fv : D → Option V
  | .non => some .non
  | .bl b => some (.bl b)
  | .int i => some (.int i)
  | .str x => some (.str x)
  | _ => none
def fvs : List D → Option (List V)
  | [] => some []
  | x :: xs => match x.fv, fvs xs with
    | some p, some ps => some (p :: ps)
    | _, _ => none
theorem Rp.fv {g : Gx} {F : Hp} {v : V} {d : D} {x : V} (h : Rp g F v d) (e : d.fv = some x) : v = x ∧ flatV v = true := by
  cases h <;> cases e <;> exact ⟨rfl, rfl⟩
theorem RpA.fvs {g : Gx} {F : Hp} : ∀ {vs : List V} {ds : List D} {xs : List V}, RpA g F vs ds → Ev.fvs ds = some xs → vs = xs ∧ vs.all flatV = true
  | _, _, _, .nil, e => by cases e; exact ⟨rfl, rfl⟩
  | _, _, _, .cons a b, e => by
    simp only [Ev.fvs] at e
    split at e
    · cases e
      obtain ⟨h1, h2⟩ := a.fv (by assumption)
      obtain ⟨h3, h4⟩ := b.fvs (by assumption)
      subst h1; subst h3
      exact ⟨rfl, by rw [List.all_cons, h2, h4]; rfl⟩
    · cases e
theorem Bw.fv {g : Gx} {O F H : Hp} {v : V} {d : D} {x : V} (b : Bw g O F H v d) (e : d.fv = some x) : v = x ∧ flatV v = true := by
  rcases b with b | ⟨xs, rfl, _⟩
  · exact b.fv e
  · cases e
def D.seqT : D → Option (List D)
  | .lst xs => some xs
  | .scr xs => some xs
  | .tup xs => some xs
  | _ => none
theorem Bw.seqT {g : Gx} {O F H : Hp} {v : V} {x : D} {xs : List D} (b : Bw g O F H v x) (e : x.seqT = some xs) (fh : Same F H) : ∃ a vs, v = .ref a ∧ (SqL g.K H a vs ∨ SqT g.K H a vs) ∧ RpA g F vs xs := by
  cases x with
  | lst ys => cases e; obtain ⟨a, vs, h1, h2, h3⟩ := b.list fh; exact ⟨a, vs, h1, .inl (.inl (.inl h2)), h3⟩
  | scr ys => cases e; obtain ⟨a, vs, h1, h2, h3⟩ := b.scr fh; exact ⟨a, vs, h1, .inl h2, h3⟩
  | tup ys => cases e; obtain ⟨a, vs, h1, h2, h3⟩ := b.tup; exact ⟨a, vs, h1, .inr (sqT_mono fh h2), h3⟩
  | _ => cases e

/-! ### comparisons -/
def shp (p : PyData) : Bool := SeqAt.shaped p
def eqvD (d e : D) : Option Bool := match d.pd, e.pd with
  | some p, some q => if SeqAt.shaped p && SeqAt.shaped q then some (PyData.eqv p q) else none
  | _, _ => none
def eqD (d e : D) : Option S := (eqvD d e).map fun b => .d (.bl b)
def neD (d e : D) : Option S := (eqvD d e).map fun b => .d (.bl (!b))
def ltD (f : Int → Int → Bool) : D → D → Option S
  | .int i, .int j => some (.d (.bl (f i j)))
  | _, _ => none
def inB (d e : D) : Option Bool := match d, e with
  | .str i, .str j => some (!(Builtin.Str.occurrences j i 0 j.length 1).isEmpty)
  | d, e => match e.seqT with
    | none => none
    | some xs => match d.fv, fvs xs with
      | some x, some vs => some (inV x vs)
      | _, _ => none
def inD (d e : D) : Option S := (inB d e).map fun b => .d (.bl b)
def ninD (d e : D) : Option S := (inB d e).map fun b => .d (.bl (!b))
def isB : D → D → Option Bool
  | .ty a, .ty b => some (decide (a = b))
  | .bl a, .bl b => some (decide (a = b))
  | .non, .non => some true
  | _, .non => some false
  | _, _ => none
def isD (d e : D) : Option S := (isB d e).map fun b => .d (.bl b)
def nisD (d e : D) : Option S := (isB d e).map fun b => .d (.bl (!b))
def cmpD : CmpOp → Option (D → D → Option S)
  | .Eq => some eqD
  | .NotEq => some neD
  | .Lt => some (ltD fun i j => decide (i < j))
  | .LtE => some (ltD fun i j => decide (i ≤ j))
  | .Gt => some (ltD fun i j => decide (j < i))
  | .GtE => some (ltD fun i j => decide (j ≤ i))
  | .In => some inD
  | .NotIn => some ninD
  | .Is => some isD
  | .IsNot => some nisD
section
variable {X : Cx} {g : Gx}
theorem q_bl {F H : Hp} {b : Bool} {Q : VK} (fh : Same F H) (q : ∀ F' H' v, Grow F H F' H' → RpN g H F' H' v (.d (.bl b)) → Q v H') : Q (.bl b) H := q F H _ (Grow.refl fh) (.bl b)
theorem o2_lt {f : Int → Int → Bool} : O2 g (rI0 fun i j => .bl (f i j)) (ltD f) := by
  intro O F H x y d e s Q fh bx by' ef q
  unfold ltD at ef
  split at ef
  · cases ef; exact ⟨_, _, bx.int, by'.int, q_bl fh q⟩
  · cases ef
theorem eqvD_some {d e : D} {b : Bool} (h : eqvD d e = some b) : ∃ p q, d.pd = some p ∧ e.pd = some q ∧ SeqAt.shaped p = true ∧ SeqAt.shaped q = true ∧ b = PyData.eqv p q := by
  unfold eqvD at h
  split at h
  · split at h
    · rename_i hc
      rw [Bool.and_eq_true] at hc
      cases h
      exact ⟨_, _, by assumption, by assumption, hc.1, hc.2, rfl⟩
    · cases h
  · cases h
theorem o2_eq : O2 g (rEqD g.K) eqD := by
  intro O F H x y d e s Q fh bx by' ef q
  simp only [eqD, Option.map_eq_some_iff] at ef
  obtain ⟨b, eb, rfl⟩ := ef
  obtain ⟨p, p', h1, h2, h3, h4, rfl⟩ := eqvD_some eb
  exact ⟨p, p', bx.dp fh h1, by'.dp fh h2, h3, h4, q_bl fh q⟩
theorem o2_ne : O2 g (rNeD g.K) neD := by
  intro O F H x y d e s Q fh bx by' ef q
  simp only [neD, Option.map_eq_some_iff] at ef
  obtain ⟨b, eb, rfl⟩ := ef
  obtain ⟨p, p', h1, h2, h3, h4, rfl⟩ := eqvD_some eb
  exact ⟨p, p', bx.dp fh h1, by'.dp fh h2, h3, h4, q_bl fh q⟩
def rInDD (K : PySem.W.Frag) (neg : Bool) : R2 := fun x y H Q => (∃ i j, x = .str i ∧ y = .str j ∧ Q (.bl (if neg then !(!(Builtin.Str.occurrences j i 0 j.length 1).isEmpty) else !(Builtin.Str.occurrences j i 0 j.length 1).isEmpty)) H) ∨ rIn K neg x y H Q
theorem op_inDD : OpR X (compareOp .In) (rInDD X.K false) := OpR.or op_in_str op_in_seq
theorem op_ninDD : OpR X (compareOp .NotIn) (rInDD X.K true) := OpR.or op_notin_str op_notIn_seq
theorem o2_inG {neg : Bool} {O F H : Hp} {x y : V} {d e : D} {b : Bool} {Q : VK} (fh : Same F H) (bx : Bw g O F H x d) (by' : Bw g O F H y e) (ef : inB d e = some b) (q : Q (.bl (if neg then !b else b)) H) : rInDD g.K neg x y H Q := by
  unfold inB at ef
  split at ef
  · cases ef; exact .inl ⟨_, _, bx.str, by'.str, q⟩
  · split at ef
    · cases ef
    · rename_i hs
      split at ef
      · cases ef
        obtain ⟨a, vs, rfl, h1, r⟩ := by'.seqT hs fh
        obtain ⟨h2, h3⟩ := bx.fv (by assumption)
        obtain ⟨h4, h5⟩ := r.fvs (by assumption)
        subst h2; subst h4
        exact .inr ⟨a, _, rfl, h1, h3, h5, q⟩
      · cases ef
theorem o2_in : O2 g (rInDD g.K false) inD := by
  intro O F H x y d e s Q fh bx by' ef q
  simp only [inD, Option.map_eq_some_iff] at ef
  obtain ⟨b, eb, rfl⟩ := ef
  exact o2_inG fh bx by' eb (q_bl fh q)
theorem o2_nin : O2 g (rInDD g.K true) ninD := by
  intro O F H x y d e s Q fh bx by' ef q
  simp only [ninD, Option.map_eq_some_iff] at ef
  obtain ⟨b, eb, rfl⟩ := ef
  exact o2_inG fh bx by' eb (q_bl fh q)
def rIsD (neg : Bool) : R2 := fun x y H Q => (∃ a b, x = .ty a ∧ y = .ty b ∧ Q (.bl (if neg then !decide (a = b) else decide (a = b))) H) ∨ (∃ a b, x = .bl a ∧ y = .bl b ∧ Q (.bl (if neg then !decide (a = b) else decide (a = b))) H) ∨ (y = .non ∧ Q (.bl (if neg then !decide (x = .non) else decide (x = .non))) H)
theorem op_isD : OpR X (compareOp .Is) (rIsD false) := OpR.or op_isTyB (OpR.or op_is_bl op_isN)
theorem op_nisD : OpR X (compareOp .IsNot) (rIsD true) := OpR.or op_notTyB (OpR.or op_isnot_bl op_notN)
theorem Bw.ty {O F H : Hp} {v : V} {n : String} (b : Bw g O F H v (.ty n)) : v = .ty n := by
  have := b.rp (fun _ z => nomatch z); cases this; rfl
theorem Bw.non {O F H : Hp} {v : V} (b : Bw g O F H v .non) : v = .non := by
  have := b.rp (fun _ z => nomatch z); cases this; rfl
theorem Bw.not_non {O F H : Hp} {v : V} {d : D} (b : Bw g O F H v d) (h : d ≠ .non) : v ≠ .non := by
  rcases b with b | ⟨xs, rfl, a, vs, rfl, _⟩
  · intro z; subst z; cases b; exact h rfl
  · exact fun z => nomatch z
theorem o2_isG {neg : Bool} {O F H : Hp} {x y : V} {d e : D} {b : Bool} {Q : VK} (fh : Same F H) (bx : Bw g O F H x d) (by' : Bw g O F H y e) (ef : isB d e = some b) (q : Q (.bl (if neg then !b else b)) H) : rIsD neg x y H Q := by
  unfold isB at ef
  split at ef
  · cases ef; exact .inl ⟨_, _, bx.ty, by'.ty, q⟩
  · cases ef; exact .inr (.inl ⟨_, _, bx.bl, by'.bl, q⟩)
  · cases ef; have := bx.non; subst this; exact .inr (.inr ⟨by'.non, by rw [decide_eq_true rfl]; exact q⟩)
  · cases ef
    rename_i hn
    refine .inr (.inr ⟨by'.non, ?_⟩)
    rw [decide_eq_false (bx.not_non (fun z => hn z))]
    exact q
  · cases ef
theorem o2_is : O2 g (rIsD false) isD := by
  intro O F H x y d e s Q fh bx by' ef q
  simp only [isD, Option.map_eq_some_iff] at ef
  obtain ⟨b, eb, rfl⟩ := ef
  exact o2_isG fh bx by' eb (q_bl fh q)
theorem o2_nis : O2 g (rIsD true) nisD := by
  intro O F H x y d e s Q fh bx by' ef q
  simp only [nisD, Option.map_eq_some_iff] at ef
  obtain ⟨b, eb, rfl⟩ := ef
  exact o2_isG fh bx by' eb (q_bl fh q)
theorem cmp_ok {op : CmpOp} {f : D → D → Option S} (hu : X.A.units + 64 < cLine) (h : cmpD op = some f) : ∃ r, OpR X (compareOp op) r ∧ O2 ⟨X.K, X.mg⟩ r f := by
  cases op <;> cases h
  · exact ⟨_, op_eqD hu, o2_eq⟩
  · exact ⟨_, op_neD hu, o2_ne⟩
  · exact ⟨_, op_lt, o2_lt⟩
  · exact ⟨_, op_le, o2_lt⟩
  · exact ⟨_, op_gt, o2_lt⟩
  · exact ⟨_, op_ge, o2_lt⟩
  · exact ⟨_, op_isD, o2_is⟩
  · exact ⟨_, op_nisD, o2_nis⟩
  · exact ⟨_, op_inDD, o2_in⟩
  · exact ⟨_, op_ninDD, o2_nin⟩
end
end Ev

set_option Elab.async false
set_option linter.all false
set_option maxRecDepth 100000
namespace Ev
open PySem PySem.Spec PyProof.Rows L2
abbrev gx (X : Cx) : Gx := ⟨X.K, X.mg⟩

def Op.toR : Op → R
  | .d x => .d x
  | .slot i => .slot i
/-! ### names, constants -/
def slotM (i : Nat) : M R := fun δ => match δ[i]? with
  | some (some _) => some (.ok (.slot i) δ)
  | _ => none
def cD (d : D) : M R := retM (.d d)
section
variable {X : Cx} {E : WS} {a b e : Expr} {pos : Pos}
theorem pr_name {i : Nat} {x : Str} (hN : X.N[i]? = some x) (hv : Vis X.env.scope x) (hd : (x == ("__debug__" : Str)) = false) (hcd : (x == ("__classdict__" : Str)) = false) : PE X (.Name x pos) (tR (gx X) E (slotM i)) := by
  refine (pe_var hN hv hd hcd).imp fun σ H Q ⟨O, F, δ, M, w⟩ => ?_
  rcases wp_elim w with ⟨r, δ', e1, q⟩ | ⟨r, δ', e1, q⟩
  · unfold slotM at e1
    split at e1
    · rename_i s hs
      cases e1
      obtain ⟨v, ev, r⟩ := M.sl i _ hs
      exact ⟨v, ev, q F H (Same.refl _) M v ev⟩
    · cases e1
  · unfold slotM at e1
    split at e1 <;> cases e1
theorem pr_c {d : D} {v : V} (h : PE X e (tC v)) (r : ∀ F, Rp (gx X) F v d) : PE X e (tR (gx X) E (cD d)) :=
  h.imp fun σ H Q ⟨O, F, δ, M, w⟩ => wp_ret M w v (r F)
theorem pr_int {i j} : PE X (.Constant (.int i) j pos) (tR (gx X) E (cD (.int i))) := pr_c pe_int fun _ => .int i
theorem pr_bl {b j} : PE X (.Constant (.bool b) j pos) (tR (gx X) E (cD (.bl b))) := pr_c pe_bl fun _ => .bl b
theorem pr_non {j} : PE X (.Constant .none j pos) (tR (gx X) E (cD .non)) := pr_c pe_non fun _ => .non
theorem pr_str {x j} : PE X (.Constant (.str x) j pos) (tR (gx X) E (cD (.str x))) := pr_c pe_str fun _ => .str x
theorem pr_ty {x : Str} {n : String} (hg : Gl X x) (hm : X.mg x = none) (hv : bootBuiltins x = some (.type n)) (hn : x ≠ "__name__") (hd : (x == ("__debug__" : Str)) = false) : PE X (.Name x pos) (tR (gx X) E (cD (.ty n))) :=
  pr_c (pe_bltn hg hm hv (v := .ty n) rfl hn hd) fun _ => .ty n
theorem pr_cls {x : Str} {c : Addr} (hg : Gl X x) (hm : X.mg x = some (.ref c)) (hd : (x == ("__debug__" : Str)) = false) : PE X (.Name x pos) (tR (gx X) E (cD (.cls x))) :=
  pr_c (pe_glob hg hm (v := .ref c) rfl hd) fun _ => .cls hm

/-! ### tests -/
def D.tru : D → Option Bool
  | .non => some false
  | .bl b => some b
  | .int i => some (i != 0)
  | .str x => if x.length ≤ sizeLine then some ((x.length : Int) != 0) else none
  | .tup xs => some (!isNil xs)
  | .lst xs => some (!isNil xs)
  | .scr xs => some (!isNil xs)
  | _ => none
def truM (m : M R) : M Bool := bindM (opdM m) fun o => fun δ => match (o.val δ).bind D.tru with
  | some b => some (.ok b δ)
  | none => none
/-- a result that is a truth -/
def isBl : R → Option Bool
  | .d (.bl b) => some b
  | _ => none
def blM (m : M R) : M Bool := bindM m fun r => optM (isBl r)
theorem RpA.isE {g : Gx} {F : Hp} {vs : List V} {ds : List D} (r : RpA g F vs ds) : vs.isEmpty = isNil ds := by
  cases r <;> rfl
theorem Bw.tru {O F H : Hp} {v : V} {d : D} {k : Bool} (b : Bw (gx X) O F H v d) (fh : Same F H) (e : d.tru = some k) : TruV X.K v H k := by
  cases d with
  | non => cases e; have := b.non; subst this; rfl
  | bl b' => cases e; have := b.bl; subst this; rfl
  | int i => cases e; have := b.int; subst this; rfl
  | str x =>
    have := b.str; subst this
    simp only [D.tru] at e
    split at e
    · cases e; exact ⟨by assumption, rfl⟩
    · cases e
  | tup xs => cases e; obtain ⟨a, vs, rfl, h1, r⟩ := b.tup; exact .inr (.inl ⟨vs, sqT_mono fh h1, by rw [r.isE]⟩)
  | lst xs => cases e; obtain ⟨a, vs, rfl, h1, r⟩ := b.list fh; exact .inl ⟨vs, .inl (.inl h1), by rw [r.isE]⟩
  | scr xs => cases e; obtain ⟨a, vs, rfl, h1, r⟩ := b.scr fh; exact .inl ⟨vs, h1, by rw [r.isE]⟩
  | _ => cases e
theorem pt_tru {m : M R} (h : PE X e (tR (gx X) E m)) (he : ∀ whole, isTrue e X.env whole = (do let v ← whole; standAt e.pos; holding [v] (truthy v))) : PT X e (tT (gx X) E (truM m)) := by
  refine (pt_truth (pr_opd h) he).imp fun σ H Q ⟨O, F, δ, M, w⟩ => ⟨O, F, δ, M, wp_mono (wp_bind w) fun F' H' δ' o s M' q v hv => ?_⟩
  rcases wp_elim q with ⟨k, δ2, e1, q1⟩ | ⟨k, δ2, e1, q1⟩
  · try simp only at e1
    split at e1
    · rename_i k' hk
      cases e1
      rw [Option.bind_eq_some_iff] at hk
      obtain ⟨d, hd, hk⟩ := hk
      exact ⟨_, (M'.bw hv hd).tru M'.fh hk, q1 F' H' (Same.refl _) M'⟩
    · cases e1
  · try simp only at e1
    split at e1 <;> cases e1
theorem tT_bl {m : M R} {t : TE} (k : ∀ σ H Q, tR (gx X) E m σ H Q → t σ H Q) : ∀ σ H Q, tT (gx X) E (blM m) σ H Q → tTest t σ H Q := by
  intro σ H Q ⟨O, F, δ, M, w⟩
  refine k σ H _ ⟨O, F, δ, M, wp_mono (wp_bind w) fun F' H' δ' r s M' q v hv => ?_⟩
  obtain ⟨b, eb, q⟩ := wp_opt q
  cases r with
  | d x =>
    cases x <;> cases eb
    cases hv
    exact ⟨_, rfl, q F' H' (Same.refl _) M'⟩
  | _ => cases eb
theorem pr_cmp {op : CmpOp} {f : D → D → Option S} {ma mb : M R} (hu : X.A.units + 64 < cLine) (h : cmpD op = some f) (ha : PE X a (tR (gx X) E ma)) (hb : PE X b (tR (gx X) E mb)) (hm : behindInMarks op b = false) : PE X (.Compare a [op] [b] pos) (tR (gx X) E (op2 f ma mb)) := by
  obtain ⟨r, h1, h2⟩ := cmp_ok (X := X) hu h
  exact (pe_cmpR h1 (pr_opd ha) (pr_opd hb) hm).imp fun σ H Q w => t_op2 h2 w
theorem pt_cmp' {op : CmpOp} {f : D → D → Option S} {ma mb : M R} (hu : X.A.units + 64 < cLine) (h : cmpD op = some f) (ha : PE X a (tR (gx X) E ma)) (hb : PE X b (tR (gx X) E mb)) (hm : behindInMarks op b = false) : PT X (.Compare a [op] [b] pos) (tT (gx X) E (blM (op2 f ma mb))) := by
  obtain ⟨r, h1, h2⟩ := cmp_ok (X := X) hu h
  exact (pt_cmpR h1 (pr_opd ha) (pr_opd hb) hm).imp (tT_bl fun σ H Q w => t_op2 h2 w)
/-- a op b op' c -/
def chainM (f f' : D → D → Option S) (ma mb mc : M R) : M R := bindM (opdM ma) fun x => bindM (opdM mb) fun y => fun δ =>
  match x.val δ, y.val δ with
  | some d, some e => match f d e with
    | some (.d (.bl true)) => bindM (opdM mc) (fun z => fun δ => match y.val δ, z.val δ with
      | some d, some e => liftOp (f' d e) δ
      | _, _ => none) δ
    | some (.d (.bl false)) => some (.ok (.d (.bl false)) δ)
    | _ => none
  | _, _ => none
def andM (a b : M Bool) : M Bool := bindM a fun x => if x then b else retM false
def orM (a b : M Bool) : M Bool := bindM a fun x => if x then retM true else b
def notM (a : M Bool) : M Bool := bindM a fun x => retM (!x)
variable {ta tb : M Bool} {rest : List Expr}
theorem pwt_one_and (h : PT X a (tT (gx X) E ta)) : PW X (.BoolOp .And [a] pos) (tT (gx X) E ta) := pw_and1 h
theorem pwt_one_or (h : PT X a (tT (gx X) E ta)) : PW X (.BoolOp .Or [a] pos) (tT (gx X) E ta) := pw_or1 h
theorem _root_.L2.PW.imp {X : Cx} {e : Expr} {t t' : TT} (h : PW X e t) (k : ∀ σ H Q, t' σ H Q → t σ H Q) : PW X e t' := ⟨fun wh pins s σ H Q I hw => h.run wh pins s σ H Q I (k σ H Q hw)⟩
theorem t_and (σ : L2.St) (H : Hp) (Q) (w : tT (gx X) E (andM ta tb) σ H Q) : tAnd (tT (gx X) E ta) (tT (gx X) E tb) σ H Q := by
  obtain ⟨O, F, δ, M, w⟩ := w
  refine ⟨O, F, δ, M, wp_mono (wp_bind w) fun F' H' δ' k s M' q => ?_⟩
  cases k with
  | true => exact ⟨O, F', δ', M', q⟩
  | false => exact wp_ret M' q
theorem t_or (σ : L2.St) (H : Hp) (Q) (w : tT (gx X) E (orM ta tb) σ H Q) : tOr (tT (gx X) E ta) (tT (gx X) E tb) σ H Q := by
  obtain ⟨O, F, δ, M, w⟩ := w
  refine ⟨O, F, δ, M, wp_mono (wp_bind w) fun F' H' δ' k s M' q => ?_⟩
  cases k with
  | true => exact wp_ret M' q
  | false => exact ⟨O, F', δ', M', q⟩
theorem pwt_and (ha : PT X a (tT (gx X) E ta)) (hb : PW X (.BoolOp .And (b :: rest) pos) (tT (gx X) E tb)) : PW X (.BoolOp .And (a :: b :: rest) pos) (tT (gx X) E (andM ta tb)) := (pw_and ha hb).imp t_and
theorem pwt_or (ha : PT X a (tT (gx X) E ta)) (hb : PW X (.BoolOp .Or (b :: rest) pos) (tT (gx X) E tb)) : PW X (.BoolOp .Or (a :: b :: rest) pos) (tT (gx X) E (orM ta tb)) := (pw_or ha hb).imp t_or
theorem pt_not' (ha : PT X a (tT (gx X) E ta)) : PT X (.UnaryOp .Not a pos) (tT (gx X) E (notM ta)) :=
  (pt_not ha).imp fun σ H Q ⟨O, F, δ, M, w⟩ => ⟨O, F, δ, M, wp_mono (wp_bind w) fun F' H' δ' k s M' q => wp_ret M' q⟩
/-! as values -/
/-- what an operand is worth by truth: x and y, x or y hand on the operand itself -/
def andV (ma mb : M R) : M R := bindM (opdM ma) fun x => fun δ => match x.val δ with
  | some d => match d.tru with
    | some true => mb δ
    | some false => some (.ok x.toR δ)
    | none => none
  | none => none
def orV (ma mb : M R) : M R := bindM (opdM ma) fun x => fun δ => match x.val δ with
  | some d => match d.tru with
    | some false => mb δ
    | some true => some (.ok x.toR δ)
    | none => none
  | none => none
def notV (ma : M R) : M R := bindM (opdM ma) fun x => fun δ => match (x.val δ).bind D.tru with
  | some b => some (.ok (.d (.bl (!b))) δ)
  | none => none
theorem RpO.r {O F H : Hp} {σ : L2.St} {δ : Dl} {v : V} {x : Op} (h : RpO (gx X) F σ v x) : RpR (gx X) O F H σ δ v x.toR := by
  cases x with
  | d x => exact h
  | slot i => exact h
theorem pr_one {op} {m : M R} (h : PE X a (tR (gx X) E m)) : PE X (.BoolOp op [a] pos) (tR (gx X) E m) := pe_one h
theorem pr_and {ma mb : M R} (ha : PE X a (tR (gx X) E ma)) (hb : PE X (.BoolOp .And (b :: rest) pos) (tR (gx X) E mb)) : PE X (.BoolOp .And (a :: b :: rest) pos) (tR (gx X) E (andV ma mb)) := by
  refine (pe_andT (pr_opd ha) hb).imp fun σ H Q ⟨O, F, δ, M, w⟩ => ⟨O, F, δ, M, wp_mono (wp_bind w) fun F' H' δ' x s M' q v hv => ?_⟩
  unfold wp at q
  simp only at q
  cases ex : x.val δ' with
  | none => rw [ex] at q; exact q.elim
  | some d =>
    rw [ex] at q
    cases et : d.tru with
    | none => simp only [et] at q
    | some k =>
      refine ⟨k, (M'.bw hv ex).tru M'.fh et, ?_⟩
      cases k with
      | true => simp only [et] at q; exact ⟨O, F', δ', M', q⟩
      | false => simp only [et] at q; exact q F' H' (Same.refl _) M' v hv.r
theorem pr_or {ma mb : M R} (ha : PE X a (tR (gx X) E ma)) (hb : PE X (.BoolOp .Or (b :: rest) pos) (tR (gx X) E mb)) : PE X (.BoolOp .Or (a :: b :: rest) pos) (tR (gx X) E (orV ma mb)) := by
  refine (pe_orT (pr_opd ha) hb).imp fun σ H Q ⟨O, F, δ, M, w⟩ => ⟨O, F, δ, M, wp_mono (wp_bind w) fun F' H' δ' x s M' q v hv => ?_⟩
  unfold wp at q
  simp only at q
  cases ex : x.val δ' with
  | none => rw [ex] at q; exact q.elim
  | some d =>
    rw [ex] at q
    cases et : d.tru with
    | none => simp only [et] at q
    | some k =>
      refine ⟨k, (M'.bw hv ex).tru M'.fh et, ?_⟩
      cases k with
      | true => simp only [et] at q; exact q F' H' (Same.refl _) M' v hv.r
      | false => simp only [et] at q; exact ⟨O, F', δ', M', q⟩
theorem pr_not {ma : M R} (ha : PE X a (tR (gx X) E ma)) : PE X (.UnaryOp .Not a pos) (tR (gx X) E (notV ma)) := by
  refine (pe_notT (pr_opd ha)).imp fun σ H Q ⟨O, F, δ, M, w⟩ => ⟨O, F, δ, M, wp_mono (wp_bind w) fun F' H' δ' x s M' q v hv => ?_⟩
  rcases wp_elim q with ⟨r, δ2, e1, q1⟩ | ⟨r, δ2, e1, q1⟩
  · try simp only at e1
    split at e1
    · rename_i k hk
      cases e1
      rw [Option.bind_eq_some_iff] at hk
      obtain ⟨d, hd, hk⟩ := hk
      exact ⟨k, (M'.bw hv hd).tru M'.fh hk, q1 F' H' (Same.refl _) M' _ (.bl _)⟩
    · cases e1
  · try simp only at e1
    split at e1 <;> cases e1
def ifM {α : Type} (c : M Bool) (a b : M α) : M α := bindM c fun x => if x then a else b
theorem pr_if {mc : M Bool} {c : Expr} {ma mb : M R} (hc : PT X c (tT (gx X) E mc)) (ha : PE X a (tR (gx X) E ma)) (hb : PE X b (tR (gx X) E mb)) : PE X (.IfExp c a b pos) (tR (gx X) E (ifM mc ma mb)) := by
  refine (pe_ifExp hc ha hb).imp fun σ H Q ⟨O, F, δ, M, w⟩ => ⟨O, F, δ, M, wp_mono (wp_bind w) fun F' H' δ' k s M' q => ?_⟩
  cases k with
  | true => exact ⟨O, F', δ', M', q⟩
  | false => exact ⟨O, F', δ', M', q⟩

/-! ### minus -/
def negD : D → Option S
  | .int i => some (.d (.int (-i)))
  | _ => none
theorem pr_neg {ma : M R} (ha : PE X a (tR (gx X) E ma)) : PE X (.UnaryOp .USub a pos) (tR (gx X) E (op1 negD ma)) := by
  refine (pe_un un_neg (pr_opd ha)).imp fun σ H Q w => t_op1 (r := rU fun i => .int (-i)) (fun O F H x d s Q fh bx ef q => ?_) w
  unfold negD at ef
  split at ef
  · cases ef; exact ⟨_, bx.int, q F H _ (Grow.refl fh) (.int _)⟩
  · cases ef
end
end Ev

set_option Elab.async false
set_option linter.all false
set_option maxRecDepth 100000
namespace Ev
open PySem PySem.Spec PyProof.Rows L2

/-! ### operands and data in a row -/
def argsM : List (M R) → M (List D)
  | [] => retM []
  | m :: ms => bindM (datM m) fun x => bindM (argsM ms) fun xs => retM (x :: xs)
def opsM : List (M R) → M (List Op)
  | [] => retM []
  | m :: ms => bindM (opdM m) fun x => bindM (opsM ms) fun xs => retM (x :: xs)
inductive RpOs (g : Gx) (F : Hp) (σ : L2.St) : List V → List Op → Prop
  | nil : RpOs g F σ [] []
  | cons {v : V} {vs : List V} {o : Op} {os : List Op} : RpO g F σ v o → RpOs g F σ vs os → RpOs g F σ (v :: vs) (o :: os)
theorem RpOs.mono {g : Gx} {F F' : Hp} {σ : L2.St} (s : Same F F') : ∀ {vs : List V} {os : List Op}, RpOs g F σ vs os → RpOs g F' σ vs os
  | _, _, .nil => .nil
  | _, _, .cons a b => .cons (a.mono s) (b.mono s)
def tOs (g : Gx) (E : WS) (m : M (List Op)) : TA := fun σ H Q => ∃ O F δ, Ms g O F H σ δ ∧ wp g O F σ δ m (fun F' H' _ r => ∀ vs, RpOs g F' σ vs r → Q vs H') (eE g (E σ))
def vals (δ : Dl) : List Op → Option (List D)
  | [] => some []
  | o :: os => match o.val δ, vals δ os with
    | some d, some ds => some (d :: ds)
    | _, _ => none
inductive BwA (g : Gx) (O F H : Hp) : List V → List D → Prop
  | nil : BwA g O F H [] []
  | cons {v : V} {vs : List V} {d : D} {ds : List D} : Bw g O F H v d → BwA g O F H vs ds → BwA g O F H (v :: vs) (d :: ds)
theorem Ms.bws {g : Gx} {O F H : Hp} {σ : L2.St} {δ : Dl} (M : Ms g O F H σ δ) : ∀ {vs : List V} {os : List Op} {ds : List D}, RpOs g F σ vs os → vals δ os = some ds → BwA g O F H vs ds
  | _, _, _, .nil, e => by cases e; exact .nil
  | _, _, _, .cons a b, e => by
    simp only [vals] at e
    split at e
    · cases e; exact .cons (M.bw a (by assumption)) (M.bws b (by assumption))
    · cases e
/-- a call of a built-in: what f says of the data -/
def opN (f : List D → Option S) (ms : List (M R)) : M R := bindM (opsM ms) fun os => fun δ => match vals δ os with
  | some ds => liftOp (f ds) δ
  | none => none
def ON (g : Gx) (r : List V → Hp → VK → Prop) (f : List D → Option S) : Prop := ∀ (O F H : Hp) (vs : List V) (ds : List D) (s : S) (Q : VK), Same F H → BwA g O F H vs ds → f ds = some s →
  (∀ F' H' v, Grow F H F' H' → RpN g H F' H' v s → Q v H') → r vs H Q
theorem t_opN {g : Gx} {E : WS} {σ : L2.St} {H : Hp} {Q : VK} {r : List V → Hp → VK → Prop} {f : List D → Option S} {ms : List (M R)} (h : ON g r f) (w : tR g E (opN f ms) σ H Q) : tOs g E (opsM ms) σ H (fun vs H1 => r vs H1 Q) := by
  obtain ⟨O, F, δ, M, w⟩ := w
  refine ⟨O, F, δ, M, wp_mono (wp_bind w) fun F1 H1 δ1 os s1 M1 w1 vs hv => ?_⟩
  unfold wp at w1
  simp only at w1
  cases ex : vals δ1 os with
  | none => rw [ex] at w1; exact w1.elim
  | some ds =>
    rw [ex] at w1
    simp only [liftOp] at w1
    cases ef : f ds with
    | none => rw [ef] at w1; exact w1.elim
    | some s =>
      rw [ef] at w1
      simp only [Option.map_some] at w1
      exact h O F1 H1 vs ds s Q M1.fh (M1.bws hv ex) ef fun F' H' v k n => w1 F' H' k.ff (M1.grow k) v (M1.new k n)
section
variable {X : Cx} {E : WS} {a b e : Expr} {es : List Expr} {pos : Pos}
theorem star_plain {e : Expr} {es : List Expr} {env : Env} (h : (match e with | .Starred .. => false | _ => true) = true) : starEach (e :: es) env = (false, eval e env) :: starEach es env := by
  cases e <;> first | rfl | cases h
theorem pa_args_nil : PA X [] (tAs (gx X) E (argsM [])) := pa_nil.imp fun σ H Q ⟨O, F, δ, M, w⟩ => wp_ret M w [] .nil
theorem pa_args {m : M R} {ms : List (M R)} (h : PE X e (tR (gx X) E m)) (hr : PA X es (tAs (gx X) E (argsM ms))) (hs : starEach (e :: es) X.env = (false, eval e X.env) :: starEach es X.env) : PA X (e :: es) (tAs (gx X) E (argsM (m :: ms))) := by
  refine (pa_cons (pr_dat h) hr hs).imp fun σ H Q ⟨O, F, δ, M, w⟩ => ⟨O, F, δ, M, wp_mono (wp_bind w) fun F1 H1 δ1 x s1 M1 w1 v hv => ?_⟩
  exact ⟨O, F1, δ1, M1, wp_mono (wp_bind w1) fun F2 H2 δ2 xs s2 M2 w2 vs hvs => wp_ret M2 w2 _ (.cons (Rp.mono s2 _ _ hv) hvs)⟩
theorem pa_ops_nil : PA X [] (tOs (gx X) E (opsM [])) := pa_nil.imp fun σ H Q ⟨O, F, δ, M, w⟩ => wp_ret M w [] .nil
theorem pa_ops {m : M R} {ms : List (M R)} (h : PE X e (tR (gx X) E m)) (hr : PA X es (tOs (gx X) E (opsM ms))) (hs : starEach (e :: es) X.env = (false, eval e X.env) :: starEach es X.env) : PA X (e :: es) (tOs (gx X) E (opsM (m :: ms))) := by
  refine (pa_cons (pr_opd h) hr hs).imp fun σ H Q ⟨O, F, δ, M, w⟩ => ⟨O, F, δ, M, wp_mono (wp_bind w) fun F1 H1 δ1 x s1 M1 w1 v hv => ?_⟩
  exact ⟨O, F1, δ1, M1, wp_mono (wp_bind w1) fun F2 H2 δ2 xs s2 M2 w2 vs hvs => wp_ret M2 w2 _ (.cons (hv.mono s2) hvs)⟩

/-! ### displays -/
theorem argsM_len : ∀ {ms : List (M R)} {δ δ' : Dl} {xs : List D}, argsM ms δ = some (.ok xs δ') → xs.length = ms.length
  | [], _, _, _, h => by cases h; rfl
  | m :: ms, δ, δ', xs, h => by
    unfold argsM bindM at h
    cases e1 : datM m δ with
    | none => rw [e1] at h; cases h
    | some r => cases r with
      | err x d => rw [e1] at h; cases h
      | ok x d =>
        rw [e1] at h
        simp only [bindM] at h
        cases e2 : argsM ms d with
        | none => rw [e2] at h; cases h
        | some r => cases r with
          | err x d => rw [e2] at h; cases h
          | ok ys d' =>
            rw [e2] at h
            simp only [retM] at h
            cases h
            rw [List.length_cons, List.length_cons, argsM_len e2]
def tupM (ms : List (M R)) : M R := bindM (argsM ms) fun xs => retM (.d (.tup xs))
def lstM (ms : List (M R)) : M R := bindM (argsM ms) fun xs => retM (.own xs)
theorem wp_len {g : Gx} {O F : Hp} {σ : L2.St} {δ : Dl} {ms : List (M R)} {ok : Hp → Hp → Dl → List D → Prop} {er} (h : wp g O F σ δ (argsM ms) ok er) : wp g O F σ δ (argsM ms) (fun F' H' δ' xs => xs.length = ms.length ∧ ok F' H' δ' xs) er := by
  unfold wp at h ⊢
  cases e : argsM ms δ with
  | none => rw [e] at h; exact h
  | some r => cases r with
    | err x d => rw [e] at h; exact h
    | ok xs d => rw [e] at h; exact fun F' H' s M => ⟨argsM_len e, h F' H' s M⟩
theorem small_line {n : Nat} (h : n ≤ 1000) : n ≤ sizeLine := Nat.le_trans h (by decide)
theorem pr_tup {ms : List (M R)} {k} (h : PA X es (tAs (gx X) E (argsM ms))) (hl : ms.length ≤ 1000) : PE X (.Tuple es k pos) (tR (gx X) E (tupM ms)) := by
  refine (pe_tup h).imp fun σ H Q ⟨O, F, δ, M, w⟩ => ⟨O, F, δ, M, wp_mono (wp_len (wp_bind w)) fun F1 H1 δ1 xs s1 M1 w1 vs hv => ?_⟩
  refine ⟨by rw [hv.length, w1.1]; exact small_line hl, fun p hp => ?_⟩
  have k := grow_tup (vs := vs) M1.fh hp
  exact w1.2 _ _ k.ff (M1.grow k) _ (new_tup M1.fh hp hv)
theorem pr_lst {ms : List (M R)} (h : PA X es (tAs (gx X) E (argsM ms))) (hl : ms.length ≤ 1000) : PE X (.List es pos) (tR (gx X) E (lstM ms)) := by
  refine (pe_lst h).imp fun σ H Q ⟨O, F, δ, M, w⟩ => ⟨O, F, δ, M, wp_mono (wp_len (wp_bind w)) fun F1 H1 δ1 xs s1 M1 w1 vs hv => ?_⟩
  refine ⟨by rw [hv.length, w1.1]; exact small_line hl, fun p hp => ?_⟩
  have k := grow_lst (vs := vs) M1.fh hp
  exact w1.2 _ _ k.ff (M1.grow k) _ (M1.new k (new_own M1.fh hp hv))

/-! ### subscripts -/
theorem atI_rp {g : Gx} {F : Hp} {vs : List V} {ds : List D} {i : Int} {d : D} (r : RpA g F vs ds) (h : atI ds i = some d) : ∃ v, atI vs i = some v ∧ Rp g F v d := by
  unfold atI at h ⊢
  rw [r.length]
  cases e : ixN ds.length i with
  | none => rw [e] at h; cases h
  | some j =>
    rw [e] at h
    exact r.get h
def ixD : D → D → Option S
  | .tup xs, .int i => (atI xs i).map .d
  | .str z, .int i => if z.length ≤ sizeLine then (atI z.cps.toList i).map fun c => .d (.str ⟨#[c]⟩) else none
  | .lst xs, .int i => (atI xs i).map .d
  | .scr xs, .int i => (atI xs i).map .d
  | _, _ => none
theorem o2_ix {g : Gx} : O2 g (rIx g.K) ixD := by
  intro O F H x y d e s Q fh bx by' ef q
  unfold ixD at ef
  split at ef
  · rw [Option.map_eq_some_iff] at ef
    obtain ⟨d, ed, rfl⟩ := ef
    obtain ⟨a, vs, rfl, h1, r⟩ := bx.tup
    obtain ⟨v, hv, rv⟩ := atI_rp r ed
    exact .inr (.inl ⟨a, vs, _, v, rfl, by'.int, sqT_mono fh h1, hv, q F H _ (Grow.refl fh) rv⟩)
  · split at ef
    · rw [Option.map_eq_some_iff] at ef
      obtain ⟨c, ed, rfl⟩ := ef
      exact .inr (.inr ⟨_, _, c, bx.str, by'.int, by assumption, ed, q F H _ (Grow.refl fh) (.str _)⟩)
    · cases ef
  · rw [Option.map_eq_some_iff] at ef
    obtain ⟨d, ed, rfl⟩ := ef
    obtain ⟨a, vs, rfl, h1, r⟩ := bx.list fh
    obtain ⟨v, hv, rv⟩ := atI_rp r ed
    exact .inl ⟨a, vs, _, v, rfl, by'.int, .inl (.inl h1), hv, q F H _ (Grow.refl fh) rv⟩
  · rw [Option.map_eq_some_iff] at ef
    obtain ⟨d, ed, rfl⟩ := ef
    obtain ⟨a, vs, rfl, h1, r⟩ := bx.scr fh
    obtain ⟨v, hv, rv⟩ := atI_rp r ed
    exact .inl ⟨a, vs, _, v, rfl, by'.int, h1, hv, q F H _ (Grow.refl fh) rv⟩
  · cases ef
theorem pr_ix {ma mb : M R} (ha : PE X a (tR (gx X) E ma)) (hb : PE X b (tR (gx X) E mb)) (hs : PlainIx b) : PE X (.Subscript a b pos) (tR (gx X) E (op2 ixD ma mb)) :=
  (pe_ix ix_seq (pr_opd ha) (pr_opd hb) hs).imp fun σ H Q w => t_op2 o2_ix w

/-! slices -/
def partM : Option (M R) → M (Option Int)
  | none => retM none
  | some m => bindM (opdM m) fun x => fun δ => match x.val δ with
    | some (.int i) => some (.ok (some i) δ)
    | _ => none
def tP (g : Gx) (E : WS) (m : M (Option Int)) : TO := fun σ H Q => ∃ O F δ, Ms g O F H σ δ ∧ wp g O F σ δ m (fun _ H' _ r => Q r H') (eE g (E σ))
theorem _root_.L2.PO.imp {X : Cx} {e : Option Expr} {t t' : TO} (h : PO X e t) (k : ∀ σ H Q, t' σ H Q → t σ H Q) : PO X e t' := ⟨fun pins s σ H Q I hw => h.run pins s σ H Q I (k σ H Q hw)⟩
theorem po_no : PO X none (tP (gx X) E (partM none)) := po_none.imp fun σ H Q ⟨O, F, δ, M, w⟩ => wp_ret M w
theorem po_is {m : M R} (h : PE X e (tR (gx X) E m)) : PO X (some e) (tP (gx X) E (partM (some m))) := by
  refine (po_some (pr_opd h)).imp fun σ H Q ⟨O, F, δ, M, w⟩ => ⟨O, F, δ, M, wp_mono (wp_bind w) fun F1 H1 δ1 x s1 M1 w1 v hv => ?_⟩
  unfold wp at w1
  simp only at w1
  cases ex : x.val δ1 with
  | none => rw [ex] at w1; exact w1.elim
  | some d =>
    rw [ex] at w1
    cases d with
    | int i => exact ⟨i, (M1.bw hv ex).int, w1 F1 H1 (Same.refl _) M1⟩
    | _ => exact w1.elim
def cutD {α : Type} (xs : List α) (lo hi : Option Int) : List α := (xs.drop (HT.sIx xs.length 0 lo)).take (HT.sIx xs.length xs.length hi - HT.sIx xs.length 0 lo)
theorem RpA.cut {g : Gx} {F : Hp} {vs : List V} {ds : List D} (r : RpA g F vs ds) (lo hi : Option Int) : RpA g F (cutV vs lo hi) (cutD ds lo hi) := by
  unfold cutV cutD; rw [r.length]; exact (r.drop _).take _
def slM (ma : M R) (lo hi : Option (M R)) (f : D → Option Int → Option Int → Option S) : M R := bindM (opdM ma) fun x => bindM (partM lo) fun l => bindM (partM hi) fun h => fun δ => match x.val δ with
  | some d => liftOp (f d l h) δ
  | none => none
def slD : D → Option Int → Option Int → Option S
  | .lst xs, l, h => some (.own (cutD xs l h))
  | .scr xs, l, h => some (.own (cutD xs l h))
  | .tup xs, l, h => if HT.sIx xs.length 0 l = 0 ∧ HT.sIx xs.length xs.length h = xs.length then none else some (.d (.tup (cutD xs l h)))
  | _, _, _ => none
def rSlD (K : PySem.W.Frag) : V → Option Int → Option Int → Hp → VK → Prop := fun x l h H Q => rSlL K x l h H Q ∨ rSlT K x l h H Q
theorem sl_D : SlR X (rSlD X.K) := sl_list.or sl_tup
theorem pr_sl {ma : M R} {lo hi : Option Expr} {ml mh : Option (M R)} {p2 : Pos} (ha : PE X a (tR (gx X) E ma)) (hl : PO X lo (tP (gx X) E (partM ml))) (hh : PO X hi (tP (gx X) E (partM mh))) : PE X (.Subscript a (.Slice lo hi none p2) pos) (tR (gx X) E (slM ma ml mh slD)) := by
  refine (pe_slice sl_D (pr_opd ha) hl hh).imp fun σ H Q ⟨O, F, δ, M, w⟩ => ⟨O, F, δ, M, wp_mono (wp_bind w) fun F1 H1 δ1 x s1 M1 w1 v hv => ?_⟩
  refine ⟨O, F1, δ1, M1, wp_mono (wp_bind w1) fun F2 H2 δ2 l s2 M2 w2 => ?_⟩
  refine ⟨O, F2, δ2, M2, wp_mono (wp_bind w2) fun F3 H3 δ3 h s3 M3 w3 => ?_⟩
  unfold wp at w3
  simp only at w3
  cases ex : x.val δ3 with
  | none => rw [ex] at w3; exact w3.elim
  | some d =>
    rw [ex] at w3
    have bw := M3.bw ((hv.mono s2).mono s3) ex
    simp only [liftOp] at w3
    cases ef : slD d l h with
    | none => rw [ef] at w3; exact w3.elim
    | some s =>
      rw [ef] at w3
      simp only [Option.map_some] at w3
      have fin : ∀ F' H' u, Grow F3 H3 F' H' → RpN (gx X) H3 F' H' u s → Q u H' := fun F' H' u k n => w3 F' H' k.ff (M3.grow k) u (M3.new k n)
      unfold slD at ef
      split at ef
      · cases ef
        obtain ⟨p, vs, rfl, h1, r⟩ := bw.list M3.fh
        exact .inl ⟨p, vs, rfl, .inl (.inl h1), fun p hp => fin _ _ _ (grow_lst M3.fh hp) (new_own M3.fh hp (r.cut _ _))⟩
      · cases ef
        obtain ⟨p, vs, rfl, h1, r⟩ := bw.scr M3.fh
        exact .inl ⟨p, vs, rfl, h1, fun p hp => fin _ _ _ (grow_lst M3.fh hp) (new_own M3.fh hp (r.cut _ _))⟩
      · split at ef
        · cases ef
        · cases ef
          obtain ⟨p, vs, rfl, h1, r⟩ := bw.tup
          exact .inr ⟨p, vs, rfl, sqT_mono M3.fh h1, by rw [r.length]; assumption, fun p hp => fin _ _ _ (grow_tup M3.fh hp) (new_tup M3.fh hp (r.cut _ _))⟩
      · cases ef
end
end Ev

set_option Elab.async false
set_option linter.all false
set_option maxRecDepth 100000
namespace Ev
open PySem PySem.Spec PyProof.Rows L2

theorem BwA.one {g : Gx} {O F H : Hp} {vs : List V} {d : D} (b : BwA g O F H vs [d]) : ∃ v, vs = [v] ∧ Bw g O F H v d := by
  cases b with | cons a b => cases b; exact ⟨_, rfl, a⟩
theorem BwA.two {g : Gx} {O F H : Hp} {vs : List V} {d e : D} (b : BwA g O F H vs [d, e]) : ∃ v w, vs = [v, w] ∧ Bw g O F H v d ∧ Bw g O F H w e := by
  cases b with | cons a b => cases b with | cons b c => cases c; exact ⟨_, _, rfl, a, b⟩
/-! ### built-in functions by data -/
def lenD : List D → Option S
  | [.str z] => if z.length ≤ sizeLine then some (.d (.int (z.length : Nat))) else none
  | [d] => (d.seqT).map fun xs => .d (.int (xs.length : Nat))
  | _ => none
def rLenD (K : PySem.W.Frag) : List V → Hp → VK → Prop := fun xs H Q => (∃ p ys, xs = [.ref p] ∧ (SqL K H p ys ∨ SqT K H p ys) ∧ Q (.int ys.length) H) ∨ (∃ z, xs = [.str z] ∧ z.length ≤ sizeLine ∧ Q (.int z.length) H)
theorem _root_.L2.CallR.or' {X : Cx} {f : Value} {r r' : List V → Hp → VK → Prop} (h : CallR X f r) (h' : CallR X f r') : CallR X f (fun xs H Q => r xs H Q ∨ r' xs H Q) := by
  intro pins s σ H xs us Q I rv q
  rcases q with q | q
  · exact h pins s σ H xs us Q I rv q
  · exact h' pins s σ H xs us Q I rv q
section
variable {X : Cx} {g : Gx} {E : WS}
theorem call_lenD : CallR X (.builtin "len") (rLenD X.K) := call_len_seq.or' call_len_str
theorem on_len : ON g (rLenD g.K) lenD := by
  intro O F H vs ds s Q fh b ef q
  unfold lenD at ef
  split at ef
  · split at ef
    · cases ef
      obtain ⟨v, rfl, b1⟩ := b.one
      have := b1.str; subst this
      exact .inr ⟨_, rfl, by assumption, q F H _ (Grow.refl fh) (.int _)⟩
    · cases ef
  · rw [Option.map_eq_some_iff] at ef
    obtain ⟨xs, ex, rfl⟩ := ef
    obtain ⟨v, rfl, b1⟩ := b.one
    obtain ⟨a, vs, rfl, h1, r⟩ := b1.seqT ex fh
    refine .inl ⟨a, vs, rfl, h1, ?_⟩
    rw [r.length]
    exact q F H _ (Grow.refl fh) (.int _)
  · cases ef
def absD : List D → Option S
  | [.int i] => some (.d (.int (if i < 0 then -i else i)))
  | _ => none
theorem on_abs : ON g (fun xs H Q => ∃ i, xs = [.int i] ∧ Q (.int (if i < 0 then -i else i)) H) absD := by
  intro O F H vs ds s Q fh b ef q
  unfold absD at ef
  split at ef
  · cases ef
    obtain ⟨v, rfl, b1⟩ := b.one
    have := b1.int; subst this
    exact ⟨_, rfl, q F H _ (Grow.refl fh) (.int _)⟩
  · cases ef
def max2D : List D → Option S
  | [.int i, .int j] => some (.d (.int (if j > i then j else i)))
  | _ => none
def min2D : List D → Option S
  | [.int i, .int j] => some (.d (.int (if j < i then j else i)))
  | _ => none
theorem on_max2 : ON g (fun xs H Q => ∃ i j, xs = [.int i, .int j] ∧ Q (.int (if j > i then j else i)) H) max2D := by
  intro O F H vs ds s Q fh b ef q
  unfold max2D at ef
  split at ef
  · cases ef
    obtain ⟨v, w, rfl, b1, c⟩ := b.two
    have := b1.int; subst this
    have := c.int; subst this
    exact ⟨_, _, rfl, q F H _ (Grow.refl fh) (.int _)⟩
  · cases ef
theorem on_min2 : ON g (fun xs H Q => ∃ i j, xs = [.int i, .int j] ∧ Q (.int (if j < i then j else i)) H) min2D := by
  intro O F H vs ds s Q fh b ef q
  unfold min2D at ef
  split at ef
  · cases ef
    obtain ⟨v, w, rfl, b1, c⟩ := b.two
    have := b1.int; subst this
    have := c.int; subst this
    exact ⟨_, _, rfl, q F H _ (Grow.refl fh) (.int _)⟩
  · cases ef
def gcdD : List D → Option S
  | [.int i, .int j] => some (.d (.int ((Nat.gcd i.natAbs j.natAbs : Nat) : Int)))
  | _ => none
theorem on_gcd : ON g rGcd gcdD := by
  intro O F H vs ds s Q fh b ef q
  unfold gcdD at ef
  split at ef
  · cases ef
    obtain ⟨v, w, rfl, b1, c⟩ := b.two
    have := b1.int; subst this
    have := c.int; subst this
    exact ⟨_, _, rfl, q F H _ (Grow.refl fh) (.int _)⟩
  · cases ef
def intF : List D → Option S
  | [.int i] => some (.d (.int i))
  | [.bl k] => some (.d (.int (if k then 1 else 0)))
  | [.str a] => match PySem.intText? a with
    | some n => if a.length ≤ 640 then some (.d (.int n)) else none
    | none => none
  | _ => none
def rIntD : List V → Hp → VK → Prop := fun xs H Q => ((∃ i, xs = [.int i] ∧ Q (.int i) H) ∨ ∃ k, xs = [.bl k] ∧ Q (.int (if k then 1 else 0)) H) ∨ ∃ a n, xs = [.str a] ∧ PySem.intText? a = some n ∧ a.length ≤ 640 ∧ Q (.int n) H
theorem call_intD : CallR X (.type "int") rIntD := call_int1.or' call_int_str
theorem on_int : ON g rIntD intF := by
  intro O F H vs ds s Q fh b ef q
  unfold intF at ef
  split at ef
  · cases ef
    obtain ⟨v, rfl, b1⟩ := b.one
    have := b1.int; subst this
    exact .inl (.inl ⟨_, rfl, q F H _ (Grow.refl fh) (.int _)⟩)
  · cases ef
    obtain ⟨v, rfl, b1⟩ := b.one
    have := b1.bl; subst this
    exact .inl (.inr ⟨_, rfl, q F H _ (Grow.refl fh) (.int _)⟩)
  · split at ef
    · split at ef
      · cases ef
        obtain ⟨v, rfl, b1⟩ := b.one
        have := b1.str; subst this
        exact .inr ⟨_, _, rfl, by assumption, by assumption, q F H _ (Grow.refl fh) (.int _)⟩
      · cases ef
    · cases ef
  · cases ef
def strF : List D → Option S
  | [.int i] => if i.natAbs.log2 < 1920 then some (.d (.str (Str.ofString (toString i)))) else none
  | [.str a] => some (.d (.str a))
  | _ => none
def rStrD : List V → Hp → VK → Prop := fun xs H Q => (∃ i, xs = [.int i] ∧ i.natAbs.log2 < 1920 ∧ Q (.str (toString i)) H) ∨ ∃ a, xs = [.str a] ∧ Q (.str a) H
theorem call_strD : CallR X (.type "str") rStrD := call_str_int.or' SkE.call_str_str
theorem on_str : ON g rStrD strF := by
  intro O F H vs ds s Q fh b ef q
  unfold strF at ef
  split at ef
  · split at ef
    · cases ef
      obtain ⟨v, rfl, b1⟩ := b.one
      have := b1.int; subst this
      exact .inl ⟨_, rfl, by assumption, q F H _ (Grow.refl fh) (.str _)⟩
    · cases ef
  · cases ef
    obtain ⟨v, rfl, b1⟩ := b.one
    have := b1.str; subst this
    exact .inr ⟨_, rfl, q F H _ (Grow.refl fh) (.str _)⟩
  · cases ef
def listF : List D → Option S
  | [d] => (d.seqT).map fun xs => .own xs
  | _ => none
theorem on_list : ON g (fun xs H Q => ∃ p ys, xs = [.ref p] ∧ (SqL g.K H p ys ∨ SqT g.K H p ys) ∧ ∀ l, H l = none → Q (.ref l) (upd H l (.lst ys))) listF := by
  intro O F H vs ds s Q fh b ef q
  unfold listF at ef
  split at ef
  · rw [Option.map_eq_some_iff] at ef
    obtain ⟨xs, ex, rfl⟩ := ef
    obtain ⟨v, rfl, b1⟩ := b.one
    obtain ⟨a, vs, rfl, h1, r⟩ := b1.seqT ex fh
    exact ⟨a, vs, rfl, h1, fun p hp => q _ _ _ (grow_lst fh hp) (new_own fh hp r)⟩
  · cases ef
def tupleF : List D → Option S
  | [.tup xs] => some (.d (.tup xs))
  | [d] => (d.seqL).map fun xs => .d (.tup xs)
  | _ => none
theorem on_tuple : ON g (fun xs H Q => ∃ p ys, xs = [.ref p] ∧ ((SqL g.K H p ys ∧ ∀ l, H l = none → Q (.ref l) (upd H l (.tup ys))) ∨ (SqT g.K H p ys ∧ Q (.ref p) H))) tupleF := by
  intro O F H vs ds s Q fh b ef q
  unfold tupleF at ef
  split at ef
  · cases ef
    obtain ⟨v, rfl, b1⟩ := b.one
    obtain ⟨a, vs, rfl, h1, r⟩ := b1.tup
    exact ⟨a, vs, rfl, .inr ⟨sqT_mono fh h1, q F H _ (Grow.refl fh) (.tup h1 r)⟩⟩
  · rw [Option.map_eq_some_iff] at ef
    obtain ⟨xs, ex, rfl⟩ := ef
    obtain ⟨v, rfl, b1⟩ := b.one
    obtain ⟨a, vs, rfl, h1, r⟩ := b1.seqL ex fh
    exact ⟨a, vs, rfl, .inl ⟨h1, fun p hp => q _ _ _ (grow_tup fh hp) (new_tup fh hp r)⟩⟩
  · cases ef
/-! truths -/
def bls : List D → Option (List Bool)
  | [] => some []
  | .bl b :: xs => (bls xs).map (b :: ·)
  | _ => none
theorem RpA.bls {F : Hp} : ∀ {vs : List V} {ds : List D} {bs : List Bool}, RpA g F vs ds → Ev.bls ds = some bs → vs = bs.map V.bl
  | _, _, _, .nil, e => by cases e; rfl
  | _, _, _, .cons (d := d) a b, e => by
    cases d with
    | bl x =>
      simp only [Ev.bls, Option.map_eq_some_iff] at e
      obtain ⟨bs, e1, rfl⟩ := e
      cases a
      rw [List.map_cons, b.bls e1]
    | _ => cases e
def boolsD (f : List Bool → Bool) : List D → Option S
  | [d] => match d.seqL with
    | some xs => (bls xs).map fun bs => .d (.bl (f bs))
    | none => none
  | _ => none
theorem on_bools {f : List Bool → Bool} : ON g (fun vs H Q => ∃ (a : Addr) (bs : List Bool), vs = [V.ref a] ∧ SqL g.K H a (bs.map V.bl) ∧ Q (.bl (f bs)) H) (boolsD f) := by
  intro O F H vs ds s Q fh b ef q
  unfold boolsD at ef
  split at ef
  · split at ef
    · rename_i xs ex
      rw [Option.map_eq_some_iff] at ef
      obtain ⟨bs, eb, rfl⟩ := ef
      obtain ⟨v, rfl, b1⟩ := b.one
      obtain ⟨a, vs, rfl, h1, r⟩ := b1.seqL ex fh
      have := r.bls eb; subst this
      exact ⟨a, bs, rfl, h1, q F H _ (Grow.refl fh) (.bl _)⟩
    · cases ef
  · cases ef
/-! ints -/
def intsOf : List D → Option (List Int)
  | [] => some []
  | .int b :: xs => (intsOf xs).map (b :: ·)
  | _ => none
theorem RpA.intsOf {F : Hp} : ∀ {vs : List V} {ds : List D} {bs : List Int}, RpA g F vs ds → Ev.intsOf ds = some bs → vs = bs.map V.int
  | _, _, _, .nil, e => by cases e; rfl
  | _, _, _, .cons (d := d) a b, e => by
    cases d with
    | int x =>
      simp only [Ev.intsOf, Option.map_eq_some_iff] at e
      obtain ⟨bs, e1, rfl⟩ := e
      cases a
      rw [List.map_cons, b.intsOf e1]
    | _ => cases e
def sumD : List D → Option S
  | [d] => match d.seqL with
    | some xs => (intsOf xs).map fun bs => .d (.int bs.sum)
    | none => none
  | _ => none
theorem on_sum : ON g (rSum g.K) sumD := by
  intro O F H vs ds s Q fh b ef q
  unfold sumD at ef
  split at ef
  · split at ef
    · rename_i xs ex
      rw [Option.map_eq_some_iff] at ef
      obtain ⟨bs, eb, rfl⟩ := ef
      obtain ⟨v, rfl, b1⟩ := b.one
      obtain ⟨a, vs, rfl, h1, r⟩ := b1.seqL ex fh
      have := r.intsOf eb; subst this
      exact ⟨a, bs, rfl, h1, q F H _ (Grow.refl fh) (.int _)⟩
    · cases ef
  · cases ef
/-! isinstance, type -/
def D.tyn : D → Option String
  | .non => some "NoneType"
  | .bl _ => some "bool"
  | .int _ => some "int"
  | .str _ => some "str"
  | .tup _ => some "tuple"
  | .lst _ => some "list"
  | .scr _ => some "list"
  | _ => none
theorem SqL.tyx {K : PySem.W.Frag} {H : Hp} {a : Addr} {vs : List V} (h : SqL K H a vs) : TyX K H (.ref a) (.type "list") := by
  rcases h with (h | ⟨o, h⟩) | ⟨o, its, n, h1, h2, _⟩
  · exact .base (.lst h)
  · exact .base (.frz h)
  · exact .kList h1 h2
theorem SqT.tyx {K : PySem.W.Frag} {H : Hp} {a : Addr} {vs : List V} (h : SqT K H a vs) : TyX K H (.ref a) (.type "tuple") := by
  rcases h with (h | ⟨o, h⟩) | ⟨o, its, n, h1, h2, _⟩
  · exact .base (.tup h)
  · exact .fTuple h
  · exact .kTuple h1 h2
theorem Bw.tyx {O F H : Hp} {v : V} {d : D} {n : String} (b : Bw g O F H v d) (fh : Same F H) (e : d.tyn = some n) : TyX g.K H v (.type n) := by
  cases d with
  | non => cases e; have := b.non; subst this; exact .base .non
  | bl x => cases e; have := b.bl; subst this; exact .base (.bl x)
  | int x => cases e; have := b.int; subst this; exact .base (.int x)
  | str x => cases e; have := b.str; subst this; exact .base (.str x)
  | tup xs => cases e; obtain ⟨a, vs, rfl, h1, r⟩ := b.tup; exact SqT.tyx (sqT_mono fh h1)
  | lst xs => cases e; obtain ⟨a, vs, rfl, h1, r⟩ := b.list fh; exact .base (.lst h1)
  | scr xs => cases e; obtain ⟨a, vs, rfl, h1, r⟩ := b.scr fh; exact SqL.tyx h1
  | _ => cases e
def rIsiD (K : PySem.W.Frag) : List V → Hp → VK → Prop := fun xs H Q => rIsi K xs H Q ∨ rIsiT K xs H Q
theorem call_isiD : CallR X (.builtin "isinstance") (rIsiD X.K) := call_isi.or' call_isiT
def allTy : List D → Option (List String)
  | [] => some []
  | .ty n :: r => (allTy r).map (n :: ·)
  | _ => none
theorem allTy_ok {F : Hp} : ∀ {cs : List D} {vs : List V} {ns : List String}, RpA g F vs cs → allTy cs = some ns → Paired ClsV vs (ns.map Value.type)
  | _, _, _, .nil, e => by cases e; exact .nil
  | _, _, _, .cons (d := d) a b, e => by
    cases d with
    | ty n =>
      simp only [allTy, Option.map_eq_some_iff] at e
      obtain ⟨ns, e1, rfl⟩ := e
      cases a
      exact .cons (.ty n) (allTy_ok b e1)
    | _ => cases e
def kitAny' (t : String) : List String → Option Bool
  | [] => some false
  | n :: r => match kitB t n with
    | some true => some true
    | some false => kitAny' t r
    | none => none
theorem kitAny'_ok {K : PySem.W.Frag} {t : String} : ∀ {ns : List String} {b : Bool}, kitAny' t ns = some b → PySem.W.kitAny K (.type t) (ns.map Value.type) = some b
  | [], _, h => by cases h; exact kitAny_nil
  | n :: r, b, h => by
    unfold kitAny' at h
    split at h
    · rename_i hk; cases h; exact kitAny_cons (kit_ty hk) (fun z => nomatch z) (fun _ => rfl)
    · rename_i hk; exact kitAny_cons (kit_ty hk) (fun _ => kitAny'_ok h) (fun z => nomatch z)
    · cases h
def isiF : List D → Option S
  | [d, .ty n] => match d.tyn with
    | some t => (kitB t n).map fun b => .d (.bl b)
    | none => none
  | [d, .tup cs] => match d.tyn, allTy cs with
    | some t, some ns => (kitAny' t ns).map fun b => .d (.bl b)
    | _, _ => none
  | _ => none
end
end Ev

set_option Elab.async false
set_option linter.all false
set_option maxRecDepth 100000
namespace Ev
open PySem PySem.Spec PyProof.Rows L2

/-! ### statements: L the slots that are lent (parameters by reference): never bound anew -/
inductive Fl where
  | next | ret (s : S) | brk | cont
def FlP (g : Gx) (O : Hp) (D : Ends) (F' H' : Hp) (σ' : L2.St) (δ' : Dl) : Fl → Prop
  | .next => D.nx σ' H'
  | .brk => D.bk σ' H'
  | .cont => D.ct σ' H'
  | .ret s => ∀ v, RpT g O F' H' σ' δ' v s → D.rt v H'
def Keep (L : List Nat) (σ σ' : L2.St) : Prop := σ'.length = σ.length ∧ ∀ i ∈ L, σ'[i]? = σ[i]?
theorem Keep.refl {L : List Nat} {σ : L2.St} : Keep L σ σ := ⟨rfl, fun _ _ => rfl⟩
theorem Keep.trans {L : List Nat} {σ σ1 σ2 : L2.St} (a : Keep L σ σ1) (b : Keep L σ1 σ2) : Keep L σ σ2 := ⟨b.1.trans a.1, fun i h => (b.2 i h).trans (a.2 i h)⟩
/-- what is wanted behind a statement that runs from F, σ, δ -/
def wps (g : Gx) (E : WS) (O F : Hp) (L : List Nat) (σ : L2.St) (δ : Dl) (m : M Fl) (D : Ends) : Prop :=
  match m δ with
  | none => False
  | some (.ok fl δ') => ∀ F' H' σ', Same F F' → Keep L σ σ' → Ms g O F' H' σ' δ' → FlP g O D F' H' σ' δ' fl
  | some (.err e δ') => ∀ F' H' σ' c dd, Same F F' → Keep L σ σ' → Ms g O F' H' σ' δ' → RpE g F' H' e c dd → E σ' c dd H'
/-- E's wish is told of the lent slots as they stood at the entry -/
def tS (g : Gx) (E : WS) (L : List Nat) (m : M Fl) : TS := fun D σ H => ∃ O F δ, Ms g O F H σ δ ∧ wps g E O F L σ δ m D
def seqM (a b : M Fl) : M Fl := bindM a fun fl => match fl with
  | .next => b
  | x => retM x
section
variable {g : Gx} {E : WS} {O F H : Hp} {L : List Nat} {σ : L2.St} {δ : Dl} {D : Ends}
theorem wps_mono {F0 : Hp} {σ0 : L2.St} {m : M Fl} (s : Same F0 F) (k : Keep L σ0 σ) (h : wps g E O F0 L σ0 δ m D) : wps g E O F L σ δ m D := by
  unfold wps at h ⊢
  cases e : m δ with
  | none => rw [e] at h; exact h
  | some r => cases r with
    | ok fl δ' => rw [e] at h; exact fun F' H' σ' s' k' M => h F' H' σ' (s.trans s') (k.trans k') M
    | err x δ' => rw [e] at h; exact fun F' H' σ' c dd s' k' M r => h F' H' σ' c dd (s.trans s') (k.trans k') M r
/-- an expression ahead of a statement's end -/
theorem wps_bind {α : Type} {m : M α} {f : α → M Fl} (h : wps g E O F L σ δ (bindM m f) D) : wp g O F σ δ m (fun F' _ δ' a => wps g E O F' L σ δ' (f a) D) (eE g (E σ)) := by
  unfold wps at h
  unfold wp
  unfold bindM at h
  cases e : m δ with
  | none => rw [e] at h; exact h
  | some r => cases r with
    | err x δ' => rw [e] at h; exact fun F' H' s M c dd r => h F' H' σ c dd s Keep.refl M r
    | ok a δ' =>
      rw [e] at h
      intro F' H' s M
      simp only at h
      show wps g E O F' L σ δ' (f a) D
      unfold wps
      cases e2 : f a δ' with
      | none => rw [e2] at h; exact h
      | some r => cases r with
        | ok b δ'' => rw [e2] at h; exact fun F'' H'' σ'' s' k' M' => h F'' H'' σ'' (s.trans s') k' M'
        | err x δ'' => rw [e2] at h; exact fun F'' H'' σ'' c dd s' k' M' r => h F'' H'' σ'' c dd (s.trans s') k' M' r
theorem wps_ret {fl : Fl} (M : Ms g O F H σ δ) (h : wps g E O F L σ δ (retM fl) D) : FlP g O D F H σ δ fl := h F H σ (Same.refl _) Keep.refl M
/-- a statement ahead of a statement: at each end of the first -/
theorem wps_seq {a b : M Fl} (h : wps g E O F L σ δ (seqM a b) D) : ∃ P : Hp → L2.St → Dl → Prop, wps g E O F L σ δ a { D with nx := fun σ' H' => ∃ F' δ', Ms g O F' H' σ' δ' ∧ wps g E O F' L σ' δ' b D } := by
  refine ⟨fun _ _ _ => True, ?_⟩
  unfold wps at h ⊢
  unfold seqM bindM at h
  cases e : a δ with
  | none => rw [e] at h; exact h
  | some r => cases r with
    | err x δ' => rw [e] at h; exact h
    | ok fl δ' =>
      rw [e] at h
      simp only at h
      cases fl with
      | next =>
        intro F' H' σ' s k M
        refine ⟨F', δ', M, ?_⟩
        simp only at h
        show wps g E O F' L σ' δ' b D
        unfold wps
        cases e2 : b δ' with
        | none => rw [e2] at h; exact h
        | some r => cases r with
          | ok b δ'' => rw [e2] at h; exact fun F'' H'' σ'' s' k' M' => h F'' H'' σ'' (s.trans s') (k.trans k') M'
          | err x δ'' => rw [e2] at h; exact fun F'' H'' σ'' c dd s' k' M' r => h F'' H'' σ'' c dd (s.trans s') (k.trans k') M' r
      | ret s => exact h
      | brk => exact h
      | cont => exact h
theorem t_seq {a b : M Fl} (w : tS g E L (seqM a b) D σ H) : tSeq (tS g E L a) (tS g E L b) D σ H := by
  obtain ⟨O, F, δ, M, w⟩ := w
  obtain ⟨_, w⟩ := wps_seq w
  refine ⟨O, F, δ, M, ?_⟩
  unfold wps at w ⊢
  cases e : a δ with
  | none => rw [e] at w; exact w
  | some r => cases r with
    | err x δ' => rw [e] at w; exact w
    | ok fl δ' =>
      rw [e] at w
      cases fl with
      | next =>
        intro F' H' σ' s k M'
        obtain ⟨F2, δ2, M2, w2⟩ := w F' H' σ' s k M'
        exact ⟨O, F2, δ2, M2, w2⟩
      | ret s => exact w
      | brk => exact w
      | cont => exact w
end
section
variable {X : Cx} {E : WS} {L : List Nat} {st : Stmt} {rest : List Stmt} {e : Expr} {pos : Pos} {m n : M Fl}
theorem ps_nil' : PSs X [] (tS (gx X) E L (retM .next)) := pss_nil.imp fun D σ H ⟨O, F, δ, M, w⟩ => wps_ret M w
theorem ps_cons' (h1 : PS X st (tS (gx X) E L m)) (h2 : PSs X rest (tS (gx X) E L n)) : PSs X (st :: rest) (tS (gx X) E L (seqM m n)) := (pss_cons h1 h2).imp fun D σ H w => t_seq w
theorem ps_pass' : PS X (.Pass pos) (tS (gx X) E L (retM .next)) := ps_pass.imp fun D σ H ⟨O, F, δ, M, w⟩ => wps_ret M w
theorem ps_break' : PS X (.Break pos) (tS (gx X) E L (retM .brk)) := ps_break.imp fun D σ H ⟨O, F, δ, M, w⟩ => wps_ret M w
theorem ps_cont' : PS X (.Continue pos) (tS (gx X) E L (retM .cont)) := ps_continue.imp fun D σ H ⟨O, F, δ, M, w⟩ => wps_ret M w
theorem ps_doc' {x j pos'} : PS X (.Expr (.Constant (.str x) j pos) pos') (tS (gx X) E L (retM .next)) := ps_doc.imp fun D σ H ⟨O, F, δ, M, w⟩ => wps_ret M w
def dropM (a : M R) : M Fl := bindM a fun _ => retM .next
theorem RpO.some {g : Gx} {F : Hp} {σ : L2.St} {v : V} {o : Op} (h : RpO g F σ v o) : True := trivial
theorem ps_expr' {a : M R} (he : PE X e (tR (gx X) E a)) (hs : swapsWith e none pos.line X.env = pure false) : PS X (.Expr e pos) (tS (gx X) E L (dropM a)) := by
  refine (ps_expr he hs).imp fun D σ H ⟨O, F, δ, M, w⟩ => ⟨O, F, δ, M, wp_mono (wps_bind w) fun F1 H1 δ1 r s1 M1 w1 v hv => wps_ret M1 w1⟩
/-- the result as it leaves a def: a slot's list leaves as data (it is frozen) or, a list of one's own that stands in a local slot, as it is -/
def resM (a : M R) : M S := bindM a fun r => match r with
  | .d x => retM (.d x)
  | .own xs => retM (.own xs)
  | .slot i => fun δ => match δ[i]? with
    | some (some (.d x)) => some (.ok (.d x) δ)
    | some (some (.own xs)) => some (.ok (.own xs) (δ.set i none))
    | _ => none
def retS (a : M R) : M Fl := bindM (resM a) fun s => retM (.ret s)
end
theorem Ms.forget {g : Gx} {O F H : Hp} {σ : L2.St} {δ : Dl} {i : Nat} (M : Ms g O F H σ δ) : Ms g O F H σ (δ.set i none) := by
  refine ⟨M.fh, M.oh, M.dj, fun j s h => ?_, fun j k xs ys v h1 h2 => ?_⟩
  · rcases get_set_of h with ⟨_, z⟩ | ⟨_, h'⟩
    · cases z
    · exact M.sl j s h'
  · rcases get_set_of h1 with ⟨_, z⟩ | ⟨_, h1'⟩
    · cases z
    rcases get_set_of h2 with ⟨_, z⟩ | ⟨_, h2'⟩
    · cases z
    exact M.ap j k xs ys v h1' h2'
theorem wp_resM {g : Gx} {E : WS} {O F : Hp} {σ : L2.St} {δ : Dl} {a : M R} {ok : Hp → Hp → Dl → S → Prop} (h : wp g O F σ δ (resM a) ok (eE g (E σ))) :
    wp g O F σ δ a (fun F' H' δ' r => ∀ v, RpR g O F' H' σ δ' v r → ∃ F2 δ2 s, Same F' F2 ∧ Ms g O F2 H' σ δ2 ∧ RpT g O F2 H' σ δ2 v s ∧ ok F2 H' δ2 s) (eE g (E σ)) := by
  refine wp_mono (wp_bind h) fun F' H' δ' r s M q v hv => ?_
  cases r with
  | d x => exact ⟨F', δ', .d x, Same.refl _, M, hv, wp_ret M q⟩
  | own xs => exact ⟨F', δ', .own xs, Same.refl _, M, hv, wp_ret M q⟩
  | slot i =>
    have hv' : σ[i]? = some (some v) := hv
    unfold wp at q
    simp only at q
    split at q
    · exact q.elim
    · rename_i a δ2 e
      split at e
      · rename_i x hx
        cases e
        obtain ⟨w, ew, rw'⟩ := M.sl i _ hx
        rw [hv'] at ew; cases ew
        exact ⟨F', _, .d x, Same.refl _, M, rw', q F' H' (Same.refl _) M⟩
      · rename_i xs hx
        cases e
        obtain ⟨w, ew, rw'⟩ := M.sl i _ hx
        rw [hv'] at ew; cases ew
        refine ⟨F', _, .own xs, Same.refl _, M.forget, ⟨rw', fun j ys hj hs => ?_⟩, q F' H' (Same.refl _) M.forget⟩
        rcases get_set_of hj with ⟨_, z⟩ | ⟨ne, hj'⟩
        · cases z
        · exact ne (M.ap i j xs ys v hx hj' hv' hs)
      · cases e
    · rename_i e
      split at e <;> cases e
section
variable {X : Cx} {E : WS} {L : List Nat} {st : Stmt} {rest : List Stmt} {e : Expr} {pos : Pos} {m n : M Fl}
theorem ps_ret' {a : M R} (he : PE X e (tR (gx X) E a)) : PS X (.Return (some e) pos) (tS (gx X) E L (retS a)) := by
  refine (ps_ret he).imp fun D σ H ⟨O, F, δ, M, w⟩ => ⟨O, F, δ, M, wp_mono (wp_resM (wps_bind w)) fun F1 H1 δ1 r s1 M1 q v hv => ?_⟩
  obtain ⟨F2, δ2, s, s2, M2, r2, w2⟩ := q v hv
  exact wps_ret M2 w2 v r2
theorem ps_retN' : PS X (.Return none pos) (tS (gx X) E L (retM (.ret (.d .non)))) := ps_retN.imp fun D σ H ⟨O, F, δ, M, w⟩ => wps_ret M w _ .non
def ifS (c : M Bool) (a b : M Fl) : M Fl := bindM c fun x => if x then a else b
theorem ps_if' {c : Expr} {p q : List Stmt} {mc : M Bool} {a b : M Fl} (hc : PT X c (tT (gx X) E mc)) (ha : PSs X p (tS (gx X) E L a)) (hb : PSs X q (tS (gx X) E L b)) : PS X (.If c p q pos) (tS (gx X) E L (ifS mc a b)) := by
  refine (ps_if hc ha hb).imp fun D σ H ⟨O, F, δ, M, w⟩ => ⟨O, F, δ, M, wp_mono (wps_bind w) fun F1 H1 δ1 k s1 M1 w1 => ?_⟩
  cases k with
  | true => exact ⟨O, F1, δ1, M1, w1⟩
  | false => exact ⟨O, F1, δ1, M1, w1⟩

/-! ### stores -/
/-- a result goes into a slot; what stood in another slot is frozen on both -/
def putM (i : Nat) (r : R) : M Fl := fun δ => match r with
  | .d x => some (.ok .next (δ.set i (some (.d x))))
  | .own xs => some (.ok .next (δ.set i (some (.own xs))))
  | .slot j => match δ[j]? with
    | some (some (.d x)) => some (.ok .next (δ.set i (some (.d x))))
    | some (some (.own xs)) => some (.ok .next ((δ.set j (some (.d (.lst xs)))).set i (some (.d (.lst xs)))))
    | _ => none
def setS (i : Nat) (a : M R) : M Fl := bindM a fun r => putM i r
end
theorem get_set_self' {α : Type} {l : List α} {i : Nat} {x : α} (h : i < l.length) : (l.set i x)[i]? = some x := List.getElem?_set_self h
theorem Ms.put {g : Gx} {O F H : Hp} {σ : L2.St} {δ : Dl} {i : Nat} {v : V} {s : S} (M : Ms g O F H σ δ) (hi : i < σ.length) (r : RpT g O F H σ δ v s) : Ms g O F H (σ.set i (some v)) (δ.set i (some s)) := by
  have rs : RpS g O F H v s := by cases s with
    | d x => exact r
    | own xs => exact r.1
  have ap : ∀ xs, s = .own xs → Apart σ δ v := fun xs e => by subst e; exact r.2
  refine ⟨M.fh, M.oh, M.dj, fun j t h => ?_, fun j k xs ys w h1 h2 h3 h4 => ?_⟩
  · rcases get_set_of h with ⟨e1, e2⟩ | ⟨ne, h'⟩
    · subst e1; cases e2; exact ⟨v, get_set_self' hi, rs⟩
    · obtain ⟨w, ew, rw'⟩ := M.sl j t h'
      exact ⟨w, by rw [List.getElem?_set_ne ne]; exact ew, rw'⟩
  · rcases get_set_of h1 with ⟨e1, e2⟩ | ⟨ne, h1'⟩
    · subst e1
      rcases get_set_of h2 with ⟨e3, _⟩ | ⟨ne2, h2'⟩
      · exact e3
      · rw [get_set_self' hi] at h3
        rw [List.getElem?_set_ne ne2] at h4
        cases e2; cases h3
        exact absurd h4 (ap _ rfl k ys h2')
    · rw [List.getElem?_set_ne ne] at h3
      rcases get_set_of h2 with ⟨e3, e4⟩ | ⟨ne2, h2'⟩
      · subst e3
        rw [get_set_self' hi] at h4
        cases e4; cases h4
        exact absurd h3 (ap _ rfl j xs h1')
      · rw [List.getElem?_set_ne ne2] at h4
        exact M.ap j k xs ys w h1' h2' h3 h4
theorem wps_put {g : Gx} {E : WS} {O F H : Hp} {L : List Nat} {σ : L2.St} {δ : Dl} {D : Ends} {i : Nat} {r : R} {v : V} (M : Ms g O F H σ δ) (hi : i < σ.length) (hL : i ∉ L) (hv : RpR g O F H σ δ v r) (w : wps g E O F L σ δ (putM i r) D) : D.nx (σ.set i (some v)) H := by
  have kp : Keep L σ (σ.set i (some v)) := ⟨List.length_set, fun j hj => List.getElem?_set_ne (fun z => hL (by rw [z]; exact hj))⟩
  unfold wps at w
  cases r with
  | d x => exact w F H _ (Same.refl _) kp (M.put (s := .d x) hi hv)
  | own xs => exact w F H _ (Same.refl _) kp (M.put (s := .own xs) hi hv)
  | slot j =>
    have hv' : σ[j]? = some (some v) := hv
    simp only [putM] at w
    split at w
    · exact w.elim
    · rename_i a δ2 e
      split at e
      · rename_i x hx
        cases e
        obtain ⟨u, eu, ru⟩ := M.sl j _ hx
        rw [hv'] at eu; cases eu
        exact w F H _ (Same.refl _) kp (M.put (s := .d x) hi ru)
      · rename_i xs hx
        cases e
        obtain ⟨F2, u, eu, s2, M2, r2⟩ := M.frzSlot hx
        rw [hv'] at eu; cases eu
        exact w F2 H _ s2 kp (M2.put (s := .d (.lst xs)) hi r2)
      · cases e
    · rename_i e
      split at e <;> cases e
section
variable {X : Cx} {E : WS} {L : List Nat} {e : Expr} {pos : Pos}
theorem ps_set' {i : Nat} {x : Str} {pos' : Pos} {a : M R} (hN : X.N.Nodup) (hi : X.N[i]? = some x) (hx : Loc X.env.scope x) (hL : i ∉ L) (he : PE X e (tR (gx X) E a)) (hs : swapsWith e (some (.Name x pos')) pos.line X.env = pure false) (hf : X.fn x = true ∨ X.env.scope.names.lookup x = some .local) :
    PS X (.Assign [.Name x pos'] e pos) (tS (gx X) E L (setS i a)) := by
  refine ⟨fun pins s σ H D I w => (ps_set hN hi hx he hs hf).run pins s σ H D I ?_⟩
  obtain ⟨O, F, δ, M, w⟩ := w
  refine ⟨O, F, δ, M, wp_mono (wps_bind w) fun F1 H1 δ1 r s1 M1 w1 v hv => wps_put M1 ?_ hL hv w1⟩
  rw [I.len]; exact (List.getElem?_eq_some_iff.mp hi).1
end
end Ev

set_option Elab.async false
set_option linter.all false
set_option maxRecDepth 100000
namespace Ev
open PySem PySem.Spec PyProof.Rows L2

/-! ### targets -/
inductive Tg where
  | nm (i : Nat) | tup (ts : List Tg)
mutual
def asgT : Tg → D → Dl → Option Dl
  | .nm i, d, δ => some (δ.set i (some (.d d)))
  | .tup ts, .tup xs, δ => asgTs ts xs δ
  | .tup _, _, _ => none
def asgTs : List Tg → List D → Dl → Option Dl
  | [], [], δ => some δ
  | t :: ts, x :: xs, δ => match asgT t x δ with
    | some δ' => asgTs ts xs δ'
    | none => none
  | _, _, _ => none
end
def tG (g : Gx) (L : List Nat) (T : Tg) : TG := fun v σ H Q => ∃ O F δ d δ', Ms g O F H σ δ ∧ Rp g F v d ∧ asgT T d δ = some δ' ∧ ∀ σ', Keep L σ σ' → Ms g O F H σ' δ' → Q σ' H
def tGs (g : Gx) (L : List Nat) (T : List Tg) : TGs := fun vs σ H Q => ∃ O F δ ds δ', Ms g O F H σ δ ∧ RpA g F vs ds ∧ asgTs T ds δ = some δ' ∧ ∀ σ', Keep L σ σ' → Ms g O F H σ' δ' → Q σ' H
theorem _root_.L2.PG.impI {X : Cx} {e : Expr} {t t' : TG} (h : PG X e t) (k : ∀ v σ H Q, σ.length = X.N.length → t' v σ H Q → t v σ H Q) : PG X e t' := ⟨fun pins s σ H v u Q I r hw => h.run pins s σ H v u Q I r (k v σ H Q I.len hw)⟩
theorem _root_.L2.PGs.imp {X : Cx} {e : List Expr} {t t' : TGs} (h : PGs X e t) (k : ∀ v σ H Q, t' v σ H Q → t v σ H Q) : PGs X e t' := ⟨fun pins s σ H v u Q I r hw => h.run pins s σ H v u Q I r (k v σ H Q hw)⟩
theorem asgTs_cons {t : Tg} {ts : List Tg} {ds : List D} {δ δ' : Dl} (h : asgTs (t :: ts) ds δ = some δ') : ∃ d r δ1, ds = d :: r ∧ asgT t d δ = some δ1 ∧ asgTs ts r δ1 = some δ' := by
  cases ds with
  | nil => simp [asgTs] at h
  | cons d r =>
    simp only [asgTs] at h
    split at h
    · exact ⟨d, r, _, rfl, by assumption, h⟩
    · cases h
theorem asgTs_nil {ds : List D} {δ δ' : Dl} (h : asgTs [] ds δ = some δ') : ds = [] ∧ δ' = δ := by
  cases ds with
  | nil => simp [asgTs] at h; exact ⟨rfl, h.symm⟩
  | cons d r => simp [asgTs] at h
theorem asgTs_len : ∀ {ts : List Tg} {ds : List D} {δ δ' : Dl}, asgTs ts ds δ = some δ' → ds.length = ts.length
  | [], ds, _, _, h => by rw [(asgTs_nil h).1]; rfl
  | t :: ts, ds, _, _, h => by
    obtain ⟨d, r, δ1, rfl, _, h2⟩ := asgTs_cons h
    rw [List.length_cons, List.length_cons, asgTs_len h2]
section
variable {X : Cx} {E : WS} {L : List Nat} {pos : Pos}
theorem pg_nm {i : Nat} {x : Str} (hN : X.N.Nodup) (hi : X.N[i]? = some x) (hx : Loc X.env.scope x) (hL : i ∉ L) (hf : X.fn x = true ∨ X.env.scope.names.lookup x = some .local) : PG X (.Name x pos) (tG (gx X) L (.nm i)) := by
  refine (pg_name hN hi hx hf).impI fun v σ H Q hl ⟨O, F, δ, d, δ', M, r, e, q⟩ => ?_
  simp only [asgT, Option.some.injEq] at e
  subst e
  have hi' : i < σ.length := by rw [hl]; exact (List.getElem?_eq_some_iff.mp hi).1
  exact q _ ⟨List.length_set, fun j hj => List.getElem?_set_ne (fun z => hL (by rw [z]; exact hj))⟩ (M.put (s := .d d) hi' r)
theorem pgs_nil' : PGs X [] (tGs (gx X) L []) := pgs_nil.imp fun vs σ H Q ⟨O, F, δ, ds, δ', M, r, e, q⟩ => by
  obtain ⟨rfl, rfl⟩ := asgTs_nil e
  cases r
  exact ⟨rfl, q σ Keep.refl M⟩
theorem pgs_cons' {e : Expr} {es : List Expr} {t : Tg} {ts : List Tg} (h1 : PG X e (tG (gx X) L t)) (h2 : PGs X es (tGs (gx X) L ts)) (hs : (assignEach (e :: es) X.env).map (·.2) = assign e X.env :: (assignEach es X.env).map (·.2)) : PGs X (e :: es) (tGs (gx X) L (t :: ts)) := by
  refine (pgs_cons h1 h2 hs).imp fun vs σ H Q ⟨O, F, δ, ds, δ', M, r, e, q⟩ => ?_
  obtain ⟨d, dr, δ1, rfl, e1, e2⟩ := asgTs_cons e
  cases r with
  | cons a b => exact ⟨_, _, rfl, O, F, δ, d, δ1, M, a, e1, fun σ1 k1 M1 => ⟨O, F, δ1, dr, δ', M1, b, e2, fun σ2 k2 M2 => q σ2 (k1.trans k2) M2⟩⟩
theorem pg_tup' {es : List Expr} {k : Nat} {ts : List Tg} (hc : X.calm = true) (h : PGs X es (tGs (gx X) L ts)) (hn : (assignEach es X.env).length = ts.length) (hst : (assignEach es X.env).findIdx? (·.1) = none) : PG X (.Tuple es k pos) (tG (gx X) L (.tup ts)) := by
  refine (pg_tup hc h hn hst).impI fun v σ H Q hl ⟨O, F, δ, d, δ', M, r, e, q⟩ => ?_
  cases d with
  | tup xs =>
    cases r with
    | tup h1 r1 =>
      simp only [asgT] at e
      exact ⟨_, _, rfl, sqT_mono M.fh h1, by rw [r1.length, asgTs_len e], O, F, δ, xs, δ', M, r1, e, q⟩
  | _ => simp [asgT] at e
/-- target = e -/
def asgM (T : Tg) (a : M R) : M Fl := bindM (datM a) fun d => fun δ => (asgT T d δ).map fun δ' => .ok .next δ'
theorem wps_asg {g : Gx} {O F H : Hp} {σ : L2.St} {δ : Dl} {D : Ends} {T : Tg} {d : Ev.D} {v : V} (M : Ms g O F H σ δ) (r : Rp g F v d) (w : wps g E O F L σ δ (fun δ => (asgT T d δ).map fun δ' => .ok .next δ') D) : tG g L T v σ H D.nx := by
  unfold wps at w
  cases e : asgT T d δ with
  | none => simp [e] at w
  | some δ' =>
    simp only [e, Option.map_some] at w
    exact ⟨O, F, δ, d, δ', M, r, e, fun σ' k M' => w F H σ' (Same.refl _) k M'⟩
theorem ps_asg' {tg e : Expr} {T : Tg} {a : M R} (he : PE X e (tR (gx X) E a)) (hg : PG X tg (tG (gx X) L T)) (hs : swapsWithSole [tg] e pos.line X.env = pure false) (hw : swappedStores [tg] e X.env = pure none) (h1 : (assignEach [tg] X.env).map (·.2) = [assign tg X.env]) :
    PS X (.Assign [tg] e pos) (tS (gx X) E L (asgM T a)) := by
  refine (ps_asg (pr_dat he) hg hs hw h1).imp fun D σ H ⟨O, F, δ, M, w⟩ => ⟨O, F, δ, M, wp_mono (wps_bind w) fun F1 H1 δ1 d s1 M1 w1 v hv => wps_asg M1 hv w1⟩
/-- x, y = a, b: stored from the right, all data first -/
def parM (is : List Nat) (ms : List (M R)) : M Fl := bindM (argsM ms) fun ds => fun δ => if ds.length = is.length then some (.ok .next ((is.zip ds).foldl (fun δ p => δ.set p.1 (some (.d p.2))) δ)) else none
theorem ps_par' {i j : Nat} {x y : Str} {a b : Expr} {ma mb : M R} {px py pt : Pos} {kt k2 pt2} (hc : X.calm = true) (hN : X.N.Nodup) (hi : X.N[i]? = some x) (hj : X.N[j]? = some y) (hij : i ≠ j) (hLi : i ∉ L) (hLj : j ∉ L)
    (hx : X.env.scope.names.lookup x = some .local) (hy : X.env.scope.names.lookup y = some .local) (ha : PA X [a, b] (tAs (gx X) E (argsM [ma, mb])))
    (hw : swappedStores [.Tuple [.Name x px, .Name y py] kt pt] (.Tuple [a, b] k2 pt2) X.env = pure (some [x, y]))
    (hs : swapsWithSole [.Tuple [.Name x px, .Name y py] kt pt] (.Tuple [a, b] k2 pt2) pos.line X.env = pure false) :
    PS X (.Assign [.Tuple [.Name x px, .Name y py] kt pt] (.Tuple [a, b] k2 pt2) pos) (tS (gx X) E L (parM [i, j] [ma, mb])) := by
  refine ⟨fun pins s σ H D I w => (ps_par hc hN hi hj hij hx hy ha hw hs).run pins s σ H D I ?_⟩
  obtain ⟨O, F, δ, M, w⟩ := w
  have hi' : i < σ.length := by rw [I.len]; exact (List.getElem?_eq_some_iff.mp hi).1
  have hj' : j < σ.length := by rw [I.len]; exact (List.getElem?_eq_some_iff.mp hj).1
  refine ⟨O, F, δ, M, wp_mono (wp_len (wps_bind w)) fun F1 H1 δ1 ds s1 M1 w1 vs hv => ?_⟩
  obtain ⟨hl, w1⟩ := w1
  match ds, hl, vs, hv with
  | [d1, d2], _, _, .cons (v := v1) r1 (.cons (v := v2) r2 .nil) =>
    refine ⟨v1, v2, rfl, ?_⟩
    have M2 : Ms (gx X) O F1 H1 ((σ.set i (some v1)).set j (some v2)) ((δ1.set i (some (.d d1))).set j (some (.d d2))) := (M1.put (s := .d d1) hi' r1).put (s := .d d2) (by rw [List.length_set]; exact hj') r2
    refine w1 F1 H1 _ (Same.refl _) ⟨by rw [List.length_set, List.length_set], fun n hn => ?_⟩ M2
    rw [List.getElem?_set_ne (fun z => hLj (by rw [z]; exact hn)), List.getElem?_set_ne (fun z => hLi (by rw [z]; exact hn))]
theorem ps_par3' {i j l : Nat} {x y z : Str} {a b c : Expr} {ma mb mc : M R} {px py pz pt : Pos} {kt k2 pt2} (hc : X.calm = true) (hN : X.N.Nodup) (hi : X.N[i]? = some x) (hj : X.N[j]? = some y) (hl : X.N[l]? = some z) (hij : i ≠ j) (hil : i ≠ l) (hjl : j ≠ l) (hLi : i ∉ L) (hLj : j ∉ L) (hLl : l ∉ L)
    (hx : X.env.scope.names.lookup x = some .local) (hy : X.env.scope.names.lookup y = some .local) (hz : X.env.scope.names.lookup z = some .local) (ha : PA X [a, b, c] (tAs (gx X) E (argsM [ma, mb, mc])))
    (hw : swappedStores [.Tuple [.Name x px, .Name y py, .Name z pz] kt pt] (.Tuple [a, b, c] k2 pt2) X.env = pure (some [x, y, z]))
    (hs : swapsWithSole [.Tuple [.Name x px, .Name y py, .Name z pz] kt pt] (.Tuple [a, b, c] k2 pt2) pos.line X.env = pure false) :
    PS X (.Assign [.Tuple [.Name x px, .Name y py, .Name z pz] kt pt] (.Tuple [a, b, c] k2 pt2) pos) (tS (gx X) E L (parM [i, j, l] [ma, mb, mc])) := by
  refine ⟨fun pins s σ H D I w => (ps_par3 hc hN hi hj hl hij hil hjl hx hy hz ha hw hs).run pins s σ H D I ?_⟩
  obtain ⟨O, F, δ, M, w⟩ := w
  have hi' : i < σ.length := by rw [I.len]; exact (List.getElem?_eq_some_iff.mp hi).1
  have hj' : j < σ.length := by rw [I.len]; exact (List.getElem?_eq_some_iff.mp hj).1
  have hl' : l < σ.length := by rw [I.len]; exact (List.getElem?_eq_some_iff.mp hl).1
  refine ⟨O, F, δ, M, wp_mono (wp_len (wps_bind w)) fun F1 H1 δ1 ds s1 M1 w1 vs hv => ?_⟩
  obtain ⟨hln, w1⟩ := w1
  match ds, hln, vs, hv with
  | [d1, d2, d3], _, _, .cons (v := v1) r1 (.cons (v := v2) r2 (.cons (v := v3) r3 .nil)) =>
    refine ⟨v1, v2, v3, rfl, ?_⟩
    have M2 : Ms (gx X) O F1 H1 (((σ.set i (some v1)).set j (some v2)).set l (some v3)) (((δ1.set i (some (.d d1))).set j (some (.d d2))).set l (some (.d d3))) :=
      ((M1.put (s := .d d1) hi' r1).put (s := .d d2) (by rw [List.length_set]; exact hj') r2).put (s := .d d3) (by rw [List.length_set, List.length_set]; exact hl') r3
    refine w1 F1 H1 _ (Same.refl _) ⟨by rw [List.length_set, List.length_set, List.length_set], fun n hn => ?_⟩ M2
    rw [List.getElem?_set_ne (fun z => hLl (by rw [z]; exact hn)), List.getElem?_set_ne (fun z => hLj (by rw [z]; exact hn)), List.getElem?_set_ne (fun z => hLi (by rw [z]; exact hn))]
end
end Ev

set_option Elab.async false
set_option linter.all false
set_option maxRecDepth 100000
namespace Ev
open PySem PySem.Spec PyProof.Rows L2

/-! ### what is walked -/
structure Wk (g : Gx) (J : It) (F : Hp) (ds : List D) : Prop where
  go : ∀ (i : Nat) (F1 H : Hp), Same F F1 → Same F1 H → i < ds.length → J.go i H
  yl : ∀ (i : Nat) (F1 H : Hp) (x : V) (H' : Hp) d, Same F F1 → Same F1 H → ds[i]? = some d → J.yld i H x H' → ∃ F2, Grow F1 H F2 H' ∧ Rp g F2 x d
  st : ∀ (i : Nat) (F1 H : Hp), Same F F1 → Same F1 H → ds.length ≤ i → J.stop i H
def tI (g : Gx) (E : WS) (m : M (List D)) : TI := fun σ H R => ∃ O F δ, Ms g O F H σ δ ∧ wp g O F σ δ m (fun F' H' _ ds => ∀ J, Wk g J F' ds → R J H') (eE g (E σ))
theorem _root_.L2.PI.imp {X : Cx} {tg e : Expr} {t t' : TI} (h : PI X tg e t) (k : ∀ σ H R, t' σ H R → t σ H R) : PI X tg e t' := ⟨fun pins s σ H R I hw => h.run pins s σ H R I (k σ H R hw)⟩
theorem _root_.L2.PI.or {X : Cx} {tg e : Expr} {t t' : TI} (h : PI X tg e t) (h' : PI X tg e t') : PI X tg e (fun σ H R => t σ H R ∨ t' σ H R) := ⟨fun pins s σ H R I hw => hw.elim (h.run pins s σ H R I) (h'.run pins s σ H R I)⟩
theorem idx {α : Type} {l : List α} {i : Nat} (h : i < l.length) : ∃ x, l[i]? = some x := ⟨l[i], List.getElem?_eq_getElem h⟩
section
variable {g : Gx} {F : Hp} {a : Addr} {vs : List V} {ds : List D}
theorem wk_list (h : SqL g.K F a vs) (r : RpA g F vs ds) : Wk g (Itl g.K a) F ds where
  go := fun i F1 H s1 s2 hi => by
    obtain ⟨x, hx⟩ := idx (l := vs) (i := i) (by rw [r.length]; exact hi)
    exact ⟨vs, x, s2.seq (s1.seq h), hx⟩
  yl := fun i F1 H x H' d s1 s2 hd hy => by
    obtain ⟨rfl, hy⟩ := hy
    obtain ⟨v, hv, rv⟩ := r.get hd
    have := hy vs (s2.seq (s1.seq h))
    rw [hv] at this; cases this
    exact ⟨F1, Grow.refl s2, Rp.mono s1 _ _ rv⟩
  st := fun i F1 H s1 s2 hi => ⟨vs, s2.seq (s1.seq h), by rw [r.length]; exact hi⟩
theorem wk_tup (h : SqT g.K F a vs) (r : RpA g F vs ds) : Wk g (Itt g.K a) F ds where
  go := fun i F1 H s1 s2 hi => by
    obtain ⟨x, hx⟩ := idx (l := vs) (i := i) (by rw [r.length]; exact hi)
    exact ⟨vs, x, sqT_mono s2 (sqT_mono s1 h), hx⟩
  yl := fun i F1 H x H' d s1 s2 hd hy => by
    obtain ⟨rfl, hy⟩ := hy
    obtain ⟨v, hv, rv⟩ := r.get hd
    have := hy vs (sqT_mono s2 (sqT_mono s1 h))
    rw [hv] at this; cases this
    exact ⟨F1, Grow.refl s2, Rp.mono s1 _ _ rv⟩
  st := fun i F1 H s1 s2 hi => ⟨vs, sqT_mono s2 (sqT_mono s1 h), by rw [r.length]; exact hi⟩
def rngD (lo : Int) (n : Nat) : List D := (List.range n).map fun (i : Nat) => D.int (lo + i)
theorem wk_range {lo : Int} {n : Nat} : Wk g (Itr lo n) F (rngD lo n) where
  go := fun i F1 H s1 s2 hi => by show i < n; simpa [rngD] using hi
  yl := fun i F1 H x H' d s1 s2 hd hy => by
    obtain ⟨rfl, rfl⟩ := hy
    refine ⟨F1, Grow.refl s2, ?_⟩
    simp only [rngD, List.getElem?_map, Option.map_eq_some_iff] at hd
    obtain ⟨k, hk, rfl⟩ := hd
    obtain ⟨h1, h2⟩ := List.getElem?_eq_some_iff.mp hk
    rw [List.getElem_range] at h2
    subst h2
    exact .int _
  st := fun i F1 H s1 s2 hi => by show n ≤ i; simpa [rngD] using hi
def signsD (x : Str) : List D := x.cps.toList.map fun c => D.str ⟨#[c]⟩
theorem wk_str {x : Str} : Wk g (Its x) F (signsD x) where
  go := fun i F1 H s1 s2 hi => by show i < x.cps.size; simpa [signsD] using hi
  yl := fun i F1 H v H' d s1 s2 hd hy => by
    obtain ⟨rfl, c, hc, rfl⟩ := hy
    refine ⟨F1, Grow.refl s2, ?_⟩
    simp only [signsD, List.getElem?_map, Option.map_eq_some_iff] at hd
    obtain ⟨k, hk, rfl⟩ := hd
    rw [Array.getElem?_toList] at hk
    rw [hc] at hk; cases hk
    exact .str _
  st := fun i F1 H s1 s2 hi => by show x.cps.size ≤ i; simpa [signsD] using hi
def enumD (ds : List D) : List D := (List.range ds.length).map fun (i : Nat) => D.tup [.int (i : Int), ds.getD i .non]
theorem wk_enum (h : SqL g.K F a vs) (r : RpA g F vs ds) : Wk g (Ite g.K a) F (enumD ds) where
  go := fun i F1 H s1 s2 hi => by
    obtain ⟨x, hx⟩ := idx (l := vs) (i := i) (by rw [r.length]; simpa [enumD] using hi)
    exact ⟨vs, x, s2.seq (s1.seq h), hx⟩
  yl := fun i F1 H x H' d s1 s2 hd hy => by
    obtain ⟨T, y, rfl, hT, rfl, hy⟩ := hy
    simp only [enumD, List.getElem?_map, Option.map_eq_some_iff] at hd
    obtain ⟨k, hk, rfl⟩ := hd
    obtain ⟨h1, h2⟩ := List.getElem?_eq_some_iff.mp hk
    rw [List.getElem_range] at h2
    subst h2
    rw [List.length_range] at h1
    obtain ⟨d, hd⟩ := idx h1
    obtain ⟨v, hv, rv⟩ := r.get hd
    have := hy vs (s2.seq (s1.seq h))
    rw [hv] at this; cases this
    have e : ds.getD i .non = d := by rw [List.getD_eq_getElem?_getD, hd]; rfl
    rw [e]
    exact ⟨_, grow_tup s2 hT, new_tup (H := H) s2 hT (.cons (.int _) (.cons (Rp.mono s1 _ _ rv) .nil))⟩
  st := fun i F1 H s1 s2 hi => ⟨vs, s2.seq (s1.seq h), by rw [r.length]; simpa [enumD] using hi⟩
def zipD (ds es : List D) : List D := List.zipWith (fun x y => D.tup [x, y]) ds es
theorem wk_zip {b : Addr} {ws : List V} {es : List D} (h : SqL g.K F a vs) (h' : SqL g.K F b ws) (r : RpA g F vs ds) (r' : RpA g F ws es) : Wk g (Itz g.K a b) F (zipD ds es) where
  go := fun i F1 H s1 s2 hi => by
    have hi' : i < min ds.length es.length := by simpa [zipD] using hi
    obtain ⟨x, hx⟩ := idx (l := vs) (i := i) (by rw [r.length]; omega)
    obtain ⟨y, hy⟩ := idx (l := ws) (i := i) (by rw [r'.length]; omega)
    exact ⟨vs, ws, x, y, s2.seq (s1.seq h), s2.seq (s1.seq h'), hx, hy⟩
  yl := fun i F1 H x H' d s1 s2 hd hy => by
    obtain ⟨T, y, z, rfl, hT, rfl, hy, hz⟩ := hy
    simp only [zipD, List.getElem?_zipWith] at hd
    cases e1 : ds[i]? with
    | none => rw [e1] at hd; simp at hd
    | some d1 =>
      cases e2 : es[i]? with
      | none => rw [e1, e2] at hd; simp at hd
      | some d2 =>
        rw [e1, e2] at hd
        simp only [Option.some.injEq] at hd
        subst hd
        obtain ⟨v, hv, rv⟩ := r.get e1
        obtain ⟨v', hv', rv'⟩ := r'.get e2
        have := hy vs (s2.seq (s1.seq h))
        rw [hv] at this; cases this
        have := hz ws (s2.seq (s1.seq h'))
        rw [hv'] at this; cases this
        exact ⟨_, grow_tup s2 hT, new_tup (H := H) s2 hT (.cons (Rp.mono s1 _ _ rv) (.cons (Rp.mono s1 _ _ rv') .nil))⟩
  st := fun i F1 H s1 s2 hi => by
    refine ⟨vs, ws, s2.seq (s1.seq h), s2.seq (s1.seq h'), ?_⟩
    rw [r.length, r'.length]
    have : min ds.length es.length ≤ i := by simpa [zipD] using hi
    omega
theorem wk_zipT {b : Addr} {ws : List V} {es : List D} (h : SqT g.K F a vs) (h' : SqT g.K F b ws) (r : RpA g F vs ds) (r' : RpA g F ws es) : Wk g (RZ.ItzT g.K a b) F (zipD ds es) where
  go := fun i F1 H s1 s2 hi => by
    have hi' : i < min ds.length es.length := by simpa [zipD] using hi
    obtain ⟨x, hx⟩ := idx (l := vs) (i := i) (by rw [r.length]; omega)
    obtain ⟨y, hy⟩ := idx (l := ws) (i := i) (by rw [r'.length]; omega)
    exact ⟨vs, ws, x, y, sqT_mono s2 (sqT_mono s1 h), sqT_mono s2 (sqT_mono s1 h'), hx, hy⟩
  yl := fun i F1 H x H' d s1 s2 hd hy => by
    obtain ⟨T, y, z, rfl, hT, rfl, hy, hz⟩ := hy
    simp only [zipD, List.getElem?_zipWith] at hd
    cases e1 : ds[i]? with
    | none => rw [e1] at hd; simp at hd
    | some d1 =>
      cases e2 : es[i]? with
      | none => rw [e1, e2] at hd; simp at hd
      | some d2 =>
        rw [e1, e2] at hd
        simp only [Option.some.injEq] at hd
        subst hd
        obtain ⟨v, hv, rv⟩ := r.get e1
        obtain ⟨v', hv', rv'⟩ := r'.get e2
        have := hy vs (sqT_mono s2 (sqT_mono s1 h))
        rw [hv] at this; cases this
        have := hz ws (sqT_mono s2 (sqT_mono s1 h'))
        rw [hv'] at this; cases this
        exact ⟨_, grow_tup s2 hT, new_tup (H := H) s2 hT (.cons (Rp.mono s1 _ _ rv) (.cons (Rp.mono s1 _ _ rv') .nil))⟩
  st := fun i F1 H s1 s2 hi => by
    refine ⟨vs, ws, sqT_mono s2 (sqT_mono s1 h), sqT_mono s2 (sqT_mono s1 h'), ?_⟩
    rw [r.length, r'.length]
    have : min ds.length es.length ≤ i := by simpa [zipD] using hi
    omega
end

/-! ### sources -/
def srcD : D → Option (List D)
  | .lst xs => some xs
  | .scr xs => some xs
  | .tup xs => some xs
  | .str x => some (signsD x)
  | _ => none
def srcM (a : M R) : M (List D) := bindM (datM a) fun d => optM (srcD d)
def rngM (a : M R) : M (List D) := bindM (argsM [a]) fun ds => fun δ => match ds with
  | [.int n] => if -(2 ^ 62) ≤ n ∧ n < 2 ^ 62 then some (.ok (rngD 0 n.toNat) δ) else none
  | _ => none
def rng2M (a b : M R) : M (List D) := bindM (argsM [a, b]) fun ds => fun δ => match ds with
  | [.int i, .int j] => if -(2 ^ 62) ≤ i ∧ i < 2 ^ 62 ∧ -(2 ^ 62) ≤ j ∧ j < 2 ^ 62 then some (.ok (rngD i (j - i).toNat) δ) else none
  | _ => none
def enumM (a : M R) : M (List D) := bindM (argsM [a]) fun ds => fun δ => match ds with
  | [d] => d.seqL.map fun xs => .ok (enumD xs) δ
  | _ => none
def zipM (a b : M R) : M (List D) := bindM (argsM [a, b]) fun ds => fun δ => match ds with
  | [.tup xs, .tup ys] => some (.ok (zipD xs ys) δ)
  | [d, e] => match d.seqL, e.seqL with
    | some xs, some ys => some (.ok (zipD xs ys) δ)
    | _, _ => none
  | _ => none
theorem Rp.seqL {g : Gx} {F : Hp} {v : V} {d : D} {xs : List D} (h : Rp g F v d) (e : d.seqL = some xs) : ∃ a vs, v = .ref a ∧ SqL g.K F a vs ∧ RpA g F vs xs := by
  cases d with
  | lst ys => cases e; cases h with | lst q r => exact ⟨_, _, rfl, .inl (.inl q), r⟩
  | scr ys => cases e; cases h with | scr q r => exact ⟨_, _, rfl, q, r⟩
  | _ => cases e
theorem RpA.one {g : Gx} {F : Hp} {vs : List V} {d : D} (b : RpA g F vs [d]) : ∃ v, vs = [v] ∧ Rp g F v d := by
  cases b with | cons a b => cases b; exact ⟨_, rfl, a⟩
theorem RpA.two {g : Gx} {F : Hp} {vs : List V} {d e : D} (b : RpA g F vs [d, e]) : ∃ v w, vs = [v, w] ∧ Rp g F v d ∧ Rp g F w e := by
  cases b with | cons a b => cases b with | cons b c => cases c; exact ⟨_, _, rfl, a, b⟩
theorem wp_fun {g : Gx} {O F H : Hp} {σ : L2.St} {δ : Dl} {α : Type} {m : M α} {ok : Hp → Hp → Dl → α → Prop} {er : Hp → Hp → Dl → Ex → Prop} (M0 : Ms g O F H σ δ) (h : wp g O F σ δ m ok er) (hm : ∀ r, m δ = some r → ∃ a, r = .ok a δ) : ∃ a, m δ = some (.ok a δ) ∧ ok F H δ a := by
  unfold wp at h
  cases e : m δ with
  | none => rw [e] at h; exact h.elim
  | some r =>
    obtain ⟨a, rfl⟩ := hm r e
    rw [e] at h
    exact ⟨a, rfl, h F H (Same.refl _) M0⟩
section
variable {X : Cx} {E : WS} {tg e e2 : Expr} {p pos : Pos} {a b : M R}
theorem pi_src (h : PE X e (tR (gx X) E a)) : PI X tg e (tI (gx X) E (srcM a)) := by
  have hd := pr_dat h
  refine ((pi_list (tg := tg) hd).or ((pi_tup hd).or (pi_str hd))).imp fun σ H R ⟨O, F, δ, M, w⟩ => ?_
  have w := wp_bind w
  unfold wp at w
  cases e1 : datM a δ with
  | none => rw [e1] at w; exact w.elim
  | some r =>
    cases r with
    | err x δ' =>
      rw [e1] at w
      refine .inl ⟨O, F, δ, M, ?_⟩
      unfold wp; rw [e1]; exact w
    | ok d δ' =>
      rw [e1] at w
      have key : ∀ F' H', Same F F' → Ms (gx X) O F' H' σ δ' → ∃ xs, srcD d = some xs ∧ ∀ J, Wk (gx X) J F' xs → R J H' := fun F' H' s M' => by
        obtain ⟨xs, ex, q⟩ := wp_opt (w F' H' s M')
        exact ⟨xs, ex, q F' H' (Same.refl _) M'⟩
      cases d with
      | lst xs =>
        refine .inl ⟨O, F, δ, M, ?_⟩
        unfold wp; rw [e1]
        intro F' H' s M' v hv
        obtain ⟨ys, ey, q⟩ := key F' H' s M'
        cases ey
        cases hv with
        | lst q1 r1 => exact ⟨_, rfl, ⟨_, .inl (.inl (M'.fh _ _ q1))⟩, q _ (wk_list (.inl (.inl q1)) r1)⟩
      | scr xs =>
        refine .inl ⟨O, F, δ, M, ?_⟩
        unfold wp; rw [e1]
        intro F' H' s M' v hv
        obtain ⟨ys, ey, q⟩ := key F' H' s M'
        cases ey
        cases hv with
        | scr q1 r1 => exact ⟨_, rfl, ⟨_, M'.fh.seq q1⟩, q _ (wk_list q1 r1)⟩
      | tup xs =>
        refine .inr (.inl ⟨O, F, δ, M, ?_⟩)
        unfold wp; rw [e1]
        intro F' H' s M' v hv
        obtain ⟨ys, ey, q⟩ := key F' H' s M'
        cases ey
        cases hv with
        | tup q1 r1 => exact ⟨_, rfl, ⟨_, sqT_mono M'.fh q1⟩, q _ (wk_tup q1 r1)⟩
      | str x =>
        refine .inr (.inr ⟨O, F, δ, M, ?_⟩)
        unfold wp; rw [e1]
        intro F' H' s M' v hv
        obtain ⟨ys, ey, q⟩ := key F' H' s M'
        cases ey
        cases hv
        exact ⟨x, rfl, q _ wk_str⟩
      | _ =>
        refine .inl ⟨O, F, δ, M, ?_⟩
        unfold wp; rw [e1]
        intro F' H' s M' v hv
        obtain ⟨ys, ey, q⟩ := key F' H' s M'
        cases ey
theorem pi_rng1 (hg : Gl X "range") (hm : X.mg "range" = none) (ha : PE X e (tR (gx X) E a)) (hs : starEach [e] X.env = [(false, eval e X.env)]) : PI X tg (.Call (.Name "range" p) [e] [] pos) (tI (gx X) E (rngM a)) := by
  refine (pi_range1 hg hm (pa_args ha pa_args_nil hs) hs).imp fun σ H R ⟨O, F, δ, M, w⟩ => ⟨O, F, δ, M, wp_mono (wp_bind w) fun F1 H1 δ1 ds s1 M1 w1 vs hv => ?_⟩
  unfold wp at w1
  simp only at w1
  split at w1
  · exact w1.elim
  · rename_i a δ2 e1
    split at e1
    · split at e1
      · rename_i hb
        cases e1
        obtain ⟨v, rfl, r⟩ := hv.one
        cases r
        exact ⟨_, rfl, hb.1, hb.2, w1 F1 H1 (Same.refl _) M1 _ wk_range⟩
      · cases e1
    · cases e1
  · rename_i e1
    split at e1
    · split at e1 <;> cases e1
    · cases e1
theorem pi_rng2 (hg : Gl X "range") (hm : X.mg "range" = none) (ha : PE X e (tR (gx X) E a)) (hb : PE X e2 (tR (gx X) E b)) (hs : starEach [e, e2] X.env = [(false, eval e X.env), (false, eval e2 X.env)]) (hs2 : starEach [e2] X.env = [(false, eval e2 X.env)]) : PI X tg (.Call (.Name "range" p) [e, e2] [] pos) (tI (gx X) E (rng2M a b)) := by
  refine (pi_range2 hg hm (pa_args ha (pa_args hb pa_args_nil hs2) (by rw [hs, hs2])) hs hs2).imp fun σ H R ⟨O, F, δ, M, w⟩ => ⟨O, F, δ, M, wp_mono (wp_bind w) fun F1 H1 δ1 ds s1 M1 w1 vs hv => ?_⟩
  unfold wp at w1
  simp only at w1
  split at w1
  · exact w1.elim
  · rename_i a δ2 e1
    split at e1
    · split at e1
      · rename_i hb
        cases e1
        obtain ⟨v, w', rfl, r, r'⟩ := hv.two
        cases r; cases r'
        exact ⟨_, _, rfl, hb, w1 F1 H1 (Same.refl _) M1 _ wk_range⟩
      · cases e1
    · cases e1
  · rename_i e1
    split at e1
    · split at e1 <;> cases e1
    · cases e1
variable {elts : List Expr} {kk : Nat} {tpos : Pos}
theorem pi_enu (hg : Gl X "enumerate") (hm : X.mg "enumerate" = none) (ha : PE X e (tR (gx X) E a)) (hs : starEach [e] X.env = [(false, eval e X.env)]) : PI X (.Tuple elts kk tpos) (.Call (.Name "enumerate" p) [e] [] pos) (tI (gx X) E (enumM a)) := by
  refine (pi_enum hg hm (pa_args ha pa_args_nil hs) hs).imp fun σ H R ⟨O, F, δ, M, w⟩ => ⟨O, F, δ, M, wp_mono (wp_bind w) fun F1 H1 δ1 ds s1 M1 w1 vs hv => ?_⟩
  unfold wp at w1
  simp only at w1
  split at w1
  · exact w1.elim
  · rename_i a δ2 e1
    split at e1
    · rw [Option.map_eq_some_iff] at e1
      obtain ⟨xs, ex, e1⟩ := e1
      cases e1
      obtain ⟨v, rfl, r⟩ := hv.one
      obtain ⟨a, vs, rfl, h1, r1⟩ := r.seqL ex
      exact ⟨a, vs, rfl, M1.fh.seq h1, w1 F1 H1 (Same.refl _) M1 _ (wk_enum h1 r1)⟩
    · cases e1
  · rename_i e1
    split at e1
    · rw [Option.map_eq_some_iff] at e1
      obtain ⟨xs, ex, e1⟩ := e1
      cases e1
    · cases e1
theorem pi_zi (hg : Gl X "zip") (hm : X.mg "zip" = none) (ha : PE X e (tR (gx X) E a)) (hb : PE X e2 (tR (gx X) E b)) (hs : starEach [e, e2] X.env = (false, eval e X.env) :: starEach [e2] X.env) (hs2 : starEach [e2] X.env = [(false, eval e2 X.env)]) (hpl : (backTo pos (starEach [e2] X.env)).any (·.1) = false) :
    PI X (.Tuple elts kk tpos) (.Call (.Name "zip" p) [e, e2] [] pos) (tI (gx X) E (zipM a b)) := by
  refine (RZ.pi_zipA hg hm (pa_args ha (pa_args hb pa_args_nil hs2) hs) hs hpl).imp fun σ H R ⟨O, F, δ, M, w⟩ => ⟨O, F, δ, M, wp_mono (wp_bind w) fun F1 H1 δ1 ds s1 M1 w1 vs hv => ?_⟩
  unfold wp at w1
  simp only at w1
  split at w1
  · exact w1.elim
  · rename_i a δ2 e1
    split at e1
    · cases e1
      obtain ⟨v, w', rfl, r, r'⟩ := hv.two
      cases r with
      | tup h1 r1 =>
        cases r' with
        | tup h2 r2 => exact ⟨_, _, _, _, rfl, .inr ⟨sqT_mono M1.fh h1, sqT_mono M1.fh h2, w1 F1 H1 (Same.refl _) M1 _ (wk_zipT h1 h2 r1 r2)⟩⟩
    · split at e1
      · rename_i ex ey
        cases e1
        obtain ⟨v, w', rfl, r, r'⟩ := hv.two
        obtain ⟨a, vs, rfl, h1, r1⟩ := r.seqL ex
        obtain ⟨b, ws, rfl, h2, r2⟩ := r'.seqL ey
        exact ⟨a, b, vs, ws, rfl, .inl ⟨M1.fh.seq h1, M1.fh.seq h2, w1 F1 H1 (Same.refl _) M1 _ (wk_zip h1 h2 r1 r2)⟩⟩
      · cases e1
    · cases e1
  · rename_i e1
    split at e1
    · cases e1
    · split at e1 <;> cases e1
    · cases e1
end

/-! ### for -/
def forM (T : Tg) (body : M Fl) : List D → M Fl
  | [] => retM .next
  | d :: ds => fun δ => match asgT T d δ with
    | none => none
    | some δ1 => bindM body (fun fl => match fl with
      | .next => forM T body ds
      | .cont => forM T body ds
      | .brk => retM .next
      | .ret s => retM (.ret s)) δ1
def forS (T : Tg) (src : M (List D)) (body : M Fl) : M Fl := bindM src fun ds => forM T body ds
section
variable {X : Cx} {g : Gx} {E : WS} {L : List Nat} {D : Ends} {T : Tg} {body : M Fl}
theorem wps_ret_of {O F : Hp} {σ : L2.St} {δ : Dl} {fl : Fl} {D : Ends} (h : ∀ F' H' σ', Same F F' → Keep L σ σ' → Ms g O F' H' σ' δ → FlP g O D F' H' σ' δ fl) : wps g E O F L σ δ (retM fl) D := h
theorem for_core {O F : Hp} {ds : List Ev.D} {J : It} (wk : Wk g J F ds) {σ0 : L2.St} {δ0 : Dl} {H0 : Hp} (M0 : Ms g O F H0 σ0 δ0) (w0 : wps g E O F L σ0 δ0 (forM T body ds) D) :
    ∃ W : Nat → Nat → L2.St → Hp → Prop, (∃ m, W 0 m σ0 H0) ∧ ∀ i m σ H, W i m σ H →
      (J.stop i H ∧ D.nx σ H) ∨ (J.go i H ∧ ∃ N : L2.St → Hp → Prop, (∀ σ' H', N σ' H' → ∃ m', m' < m ∧ W (i + 1) m' σ' H') ∧ ∀ x H', J.yld i H x H' → tG g L T x σ H' fun σ2 H2 => tS g E L body { D with nx := N, ct := N, bk := D.nx } σ2 H2) := by
  refine ⟨fun i m σ H => m = ds.length - i ∧ i ≤ ds.length ∧ ∃ F' δ', Same F F' ∧ Ms g O F' H σ δ' ∧ wps g E O F' L σ δ' (forM T body (ds.drop i)) D, ⟨_, rfl, Nat.zero_le _, F, δ0, Same.refl _, M0, w0⟩, ?_⟩
  rintro i m σ H ⟨rfl, hi, F', δ', s, M, w⟩
  by_cases e : i < ds.length
  · obtain ⟨d, hd⟩ := idx e
    have ed : ds.drop i = d :: ds.drop (i + 1) := by
      obtain ⟨h1, h2⟩ := List.getElem?_eq_some_iff.mp hd
      rw [← h2]; exact List.drop_eq_getElem_cons h1
    rw [ed] at w
    refine .inr ⟨wk.go i F' H s M.fh e, fun σ' H' => ∃ F2 δ2, Same F F2 ∧ Ms g O F2 H' σ' δ2 ∧ wps g E O F2 L σ' δ2 (forM T body (ds.drop (i + 1))) D, fun σ' H' ⟨F2, δ2, s2, M2, w2⟩ => ⟨ds.length - (i + 1), by omega, rfl, by omega, F2, δ2, s2, M2, w2⟩, fun x H' hy => ?_⟩
    obtain ⟨F2, k2, r2⟩ := wk.yl i F' H x H' d s M.fh hd hy
    have w' := wps_mono (F := F2) (σ := σ) k2.ff Keep.refl w
    unfold wps at w'
    unfold forM at w'
    cases ea : asgT T d δ' with
    | none => rw [ea] at w'; exact w'.elim
    | some δ1 =>
      rw [ea] at w'
      refine ⟨O, F2, δ', d, δ1, M.grow k2, r2, ea, fun σ2 kp M2 => ⟨O, F2, δ1, M2, ?_⟩⟩
      unfold wps
      simp only [bindM] at w'
      cases eb : body δ1 with
      | none => rw [eb] at w'; exact w'
      | some r =>
        rw [eb] at w'
        cases r with
        | err x δ3 => exact fun F3 H3 σ3 c dd s3 k3 M3 r3 => w' F3 H3 σ3 c dd s3 (kp.trans k3) M3 r3
        | ok fl δ3 =>
          intro F3 H3 σ3 s3 k3 M3
          have nx : ∀ (w'' : (match forM T body (ds.drop (i + 1)) δ3 with
              | none => False
              | some (.ok fl δ') => ∀ F' H' σ', Same F2 F' → Keep L σ σ' → Ms g O F' H' σ' δ' → FlP g O D F' H' σ' δ' fl
              | some (.err e δ') => ∀ F' H' σ' c dd, Same F2 F' → Keep L σ σ' → Ms g O F' H' σ' δ' → RpE g F' H' e c dd → E σ' c dd H')), wps g E O F3 L σ3 δ3 (forM T body (ds.drop (i + 1))) D := fun w'' => wps_mono s3 (kp.trans k3) (F0 := F2) (σ0 := σ) w''
          cases fl with
          | next => exact ⟨F3, δ3, s.trans (k2.ff.trans s3), M3, nx w'⟩
          | cont => exact ⟨F3, δ3, s.trans (k2.ff.trans s3), M3, nx w'⟩
          | brk => exact w' F3 H3 σ3 s3 (kp.trans k3) M3
          | ret v => exact w' F3 H3 σ3 s3 (kp.trans k3) M3
  · have ei : i = ds.length := by omega
    subst ei
    rw [List.drop_length] at w
    exact .inl ⟨wk.st _ F' H s M.fh (Nat.le_refl _), wps_ret M w⟩
theorem ps_for' {tg iter : Expr} {bd : List Stmt} {src : M (List Ev.D)} {pos : Pos} (hp : PassesOwn (model X.prog X.w) X.A X.env X.xe) (hc : X.calm = true) (hi : PI X tg iter (tI (gx X) E src)) (hg : PG X tg (tG (gx X) L T)) (hb : PSs X bd (tS (gx X) E L body)) (hs : ∀ x, foldedSetIterable iter X.env x = pure x) :
    PS X (.For tg iter bd [] pos) (tS (gx X) E L (forS T src body)) := by
  refine (ps_for hp hc hi hg hb hs).imp fun D σ H ⟨O, F, δ, M, w⟩ => ⟨O, F, δ, M, wp_mono (wps_bind w) fun F1 H1 δ1 ds s1 M1 w1 J wk => for_core wk M1 w1⟩
end
end Ev

set_option Elab.async false
set_option linter.all false
set_option maxRecDepth 100000
namespace Ev
open PySem PySem.Spec PyProof.Rows L2

/-! ### while, with fuel -/
def whileM : Nat → M Bool → M Fl → M Fl
  | 0, _, _ => nopeM
  | n + 1, c, body => bindM c fun b => if b then bindM body (fun fl => match fl with
      | .next => whileM n c body
      | .cont => whileM n c body
      | .brk => retM .next
      | .ret s => retM (.ret s)) else retM .next
section
variable {X : Cx} {g : Gx} {E : WS} {L : List Nat} {D : Ends} {T : Tg} {body : M Fl} {pos : Pos}
theorem ps_while' {c : Expr} {bd : List Stmt} {mc : M Bool} (n : Nat) (hp : PassesOwn (model X.prog X.w) X.A X.env X.xe) (hc : PT X c (tT (gx X) E mc)) (hb : PSs X bd (tS (gx X) E L body)) : PS X (.While c bd [] pos) (tS (gx X) E L (whileM n mc body)) := by
  refine (ps_while hp hc hb).imp fun D σ0 H0 ⟨O, F, δ0, M0, w0⟩ => ?_
  refine ⟨fun m σ H => ∃ F' δ', Same F F' ∧ Keep L σ0 σ ∧ Ms (gx X) O F' H σ δ' ∧ wps (gx X) E O F' L σ δ' (whileM m mc body) D, ⟨n, F, δ0, Same.refl _, Keep.refl, M0, w0⟩, ?_⟩
  rintro m σ H ⟨F', δ', s, kp, M, w⟩
  cases m with
  | zero => exact w.elim
  | succ m =>
    refine ⟨O, F', δ', M, wp_mono (wps_bind (show wps (gx X) E O F' L σ δ' (bindM mc fun b => if b then bindM body (fun fl => match fl with
      | .next => whileM m mc body
      | .cont => whileM m mc body
      | .brk => retM .next
      | .ret s => retM (.ret s)) else retM .next) D from w)) fun F1 H1 δ1 b s1 M1 w1 => ?_⟩
    cases b with
    | false => exact wps_ret M1 w1
    | true =>
      rw [if_pos rfl]
      rw [if_pos rfl] at w1
      refine ⟨fun σ' H' => ∃ F2 δ2, Same F F2 ∧ Keep L σ0 σ' ∧ Ms (gx X) O F2 H' σ' δ2 ∧ wps (gx X) E O F2 L σ' δ2 (whileM m mc body) D, fun σ' H' q => ⟨m, Nat.lt_succ_self _, q⟩, O, F1, δ1, M1, ?_⟩
      unfold wps at w1 ⊢
      simp only [bindM] at w1
      cases eb : body δ1 with
      | none => rw [eb] at w1; exact w1
      | some r =>
        rw [eb] at w1
        cases r with
        | err x δ3 => exact w1
        | ok fl δ3 =>
          intro F3 H3 σ3 s3 k3 M3
          cases fl with
          | next => exact ⟨F3, δ3, s.trans (s1.trans s3), kp.trans k3, M3, wps_mono s3 k3 (F0 := F1) (σ0 := σ) w1⟩
          | cont => exact ⟨F3, δ3, s.trans (s1.trans s3), kp.trans k3, M3, wps_mono s3 k3 (F0 := F1) (σ0 := σ) w1⟩
          | brk => exact w1 F3 H3 σ3 s3 k3 M3
          | ret v => exact w1 F3 H3 σ3 s3 k3 M3
end

/-! ### a list of one's own is changed in its place -/
theorem Ms.updOwn {g : Gx} {O F H : Hp} {σ : L2.St} {δ : Dl} {j : Nat} {a : Addr} {vs' : List V} {xs xs' : List D} (M : Ms g O F H σ δ) (hj : δ[j]? = some (some (.own xs))) (hs : σ[j]? = some (some (.ref a))) (r : RpA g F vs' xs') :
    Ms g O F (upd H a (.lst vs')) σ (δ.set j (some (.own xs'))) := by
  obtain ⟨v, ev, b, ws, rfl, e, r0, f, o⟩ := M.sl j _ hj
  rw [hs] at ev; cases ev
  have ne : ∀ b o', F b = some o' → b ≠ a := fun b o' h z => by subst z; rw [f] at h; cases h
  have ne' : ∀ b o', O b = some o' → b ≠ a := fun b o' h z => by subst z; rw [o] at h; cases h
  refine ⟨fun b o' h => by rw [upd_ne (ne b o' h)]; exact M.fh _ _ h, fun b o' h => by rw [upd_ne (ne' b o' h)]; exact M.oh _ _ h, M.dj, fun i s h => ?_, fun i k ys zs w h1 h2 h3 h4 => ?_⟩
  · rcases get_set_of h with ⟨e1, e2⟩ | ⟨ni, h'⟩
    · subst e1; cases e2
      exact ⟨_, hs, a, vs', rfl, upd_same, r, f, o⟩
    · obtain ⟨w, ew, rw'⟩ := M.sl i s h'
      refine ⟨w, ew, ?_⟩
      cases s with
      | d x => exact rw'
      | own ys =>
        obtain ⟨c, us, rfl, e1, e2, e3, e4⟩ := rw'
        have : c ≠ a := fun z => by subst z; exact ni (M.ap j i xs ys _ hj h' hs ew)
        exact ⟨c, us, rfl, by rw [upd_ne this]; exact e1, e2, e3, e4⟩
  · rcases get_set_of h1 with ⟨e1, _⟩ | ⟨n1, h1'⟩
    · subst e1
      rcases get_set_of h2 with ⟨e2, _⟩ | ⟨n2, h2'⟩
      · exact e2
      · exact M.ap _ k xs zs w hj h2' h3 h4
    · rcases get_set_of h2 with ⟨e2, _⟩ | ⟨n2, h2'⟩
      · subst e2; exact M.ap i _ ys xs w h1' hj h3 h4
      · exact M.ap i k ys zs w h1' h2' h3 h4
/-- x[i] = e, x a list of one's own -/
def setIx (j : Nat) (val ix : M R) : M Fl := bindM (datM val) fun d => bindM (opdM (slotM j)) fun _ => bindM (opdM ix) fun k => fun δ => match δ[j]?, k.val δ with
  | some (some (.own xs)), some (.int i) => match ixN xs.length i with
    | some n => some (.ok .next (δ.set j (some (.own (xs.set n d)))))
    | none => none
  | _, _ => none
theorem opd_slot {j : Nat} {δ δ' : Dl} {o : Op} (h : opdM (slotM j) δ = some (.ok o δ')) : o = .slot j ∧ δ' = δ := by
  unfold opdM bindM slotM at h
  split at h
  · cases h
  · cases h
  · rename_i r δ2 e
    split at e
    · cases e; simp only [retM] at h; cases h; exact ⟨rfl, rfl⟩
    · cases e
theorem opd_slot_err {j : Nat} {δ δ' : Dl} {x : Ex} (h : opdM (slotM j) δ = some (.err x δ')) : False := by
  unfold opdM bindM slotM at h
  split at h
  · cases h
  · rename_i e
    split at e <;> cases e
  · rename_i r δ2 e
    split at e
    · cases e; cases h
    · cases e
section
variable {X : Cx} {g : Gx} {E : WS} {L : List Nat} {pos p tpos : Pos} {e i : Expr}
theorem ps_setIx {j : Nat} {x : Str} {mv mi : M R} (hN : X.N[j]? = some x) (hx : Vis X.env.scope x) (hd : (x == ("__debug__" : Str)) = false) (hcd : (x == ("__classdict__" : Str)) = false) (he : PE X e (tR (gx X) E mv)) (hi : PE X i (tR (gx X) E mi))
    (ha : ∀ v, assign (.Subscript (.Name x p) i tpos) X.env v = (do
      let ov ← holding [v] (eval (.Name x p) X.env)
      let iv ← holding [v, ov] (eval i X.env)
      standAt tpos
      holding [v, ov, iv] (setItem ov iv v)
      release [v, ov, iv] []))
    (hs : swapsWithSole [.Subscript (.Name x p) i tpos] e pos.line X.env = pure false) (hw : swappedStores [.Subscript (.Name x p) i tpos] e X.env = pure none) (h1 : (assignEach [.Subscript (.Name x p) i tpos] X.env).map (·.2) = [assign (.Subscript (.Name x p) i tpos) X.env]) :
    PS X (.Assign [.Subscript (.Name x p) i tpos] e pos) (tS (gx X) E L (setIx j mv mi)) := by
  refine (ps_asg (pr_dat he) (pg_sub (pr_opd (pr_name (E := E) hN hx hd hcd)) (pr_opd hi) set_list ha) hs hw h1).imp fun D σ H ⟨O, F, δ, M, w⟩ => ⟨O, F, δ, M, wp_mono (wps_bind w) fun F1 H1 δ1 d s1 M1 w1 v hv => ?_⟩
  refine ⟨O, F1, δ1, M1, ?_⟩
  have w2 := wps_bind w1
  unfold wp at w2 ⊢
  cases eo : opdM (slotM j) δ1 with
  | none => rw [eo] at w2; exact w2
  | some r =>
    rw [eo] at w2
    cases r with
    | err x δ2 => exact (opd_slot_err eo).elim
    | ok o δ2 =>
      obtain ⟨rfl, rfl⟩ := opd_slot eo
      intro F2 H2 s2 M2 u hu
      refine ⟨O, F2, δ2, M2, wp_mono (wps_bind (w2 F2 H2 s2 M2)) fun F3 H3 δ3 k s3 M3 w3 vi hvi => ?_⟩
      have hu' : σ[j]? = some (some u) := hu
      unfold wps at w3
      simp only at w3
      split at w3
      · exact w3.elim
      · rename_i fl δ4 e4
        split at e4
        · rename_i xs n hj hk
          split at e4
          · rename_i n' hn
            cases e4
            obtain ⟨w, ew, a, vs, rfl, ea, r, f, o⟩ := M3.sl j _ hj
            rw [hu'] at ew; cases ew
            have ei := (M3.bw hvi hk).int
            subst ei
            refine ⟨a, vs, n, n', rfl, rfl, ea, by rw [r.length]; exact hn, ?_⟩
            exact w3 F3 _ σ (Same.refl _) Keep.refl (M3.updOwn hj hu' (r.set (Rp.mono (s2.trans s3) _ _ hv) n'))
          · cases e4
        · cases e4
      · rename_i e4
        split at e4
        · split at e4 <;> cases e4
        · cases e4

/-! methods that change a list of one's own: x.m(..) as a statement or a value -/
def ownM (j : Nat) : M Unit := fun δ => match δ[j]? with
  | some (some (.own _)) => some (.ok () δ)
  | _ => none
def meth (j : Nat) (f : List D → List D → Option (D × List D)) (ms : List (M R)) : M R := bindM (opdM (slotM j)) fun _ => bindM (ownM j) fun _ => bindM (argsM ms) fun ds => fun δ => match δ[j]? with
  | some (some (.own xs)) => match f xs ds with
    | some (d, ys) => some (.ok (.d d) (δ.set j (some (.own ys))))
    | none => none
  | _ => none
/-- a method's rule does what f says -/
def OM (g : Gx) (r : V → List V → Hp → VK → Prop) (f : List D → List D → Option (D × List D)) : Prop := ∀ (F H : Hp) (a : Addr) (vs ws : List V) (xs ds : List D) (d : D) (ys : List D) (Q : VK), Same F H → H a = some (.lst vs) → RpA g F vs xs → RpA g F ws ds → f xs ds = some (d, ys) →
  (∀ u vs', Rp g F u d → RpA g F vs' ys → Q u (upd H a (.lst vs'))) → r (.ref a) ws H Q
theorem t_meth0 {j : Nat} {r : V → List V → Hp → VK → Prop} {f : List D → List D → Option (D × List D)} {ms : List (M R)} (h : OM (gx X) r f) (σ : L2.St) (H : Hp) (Q : VK) (w : tR (gx X) E (meth j f ms) σ H Q) :
    ∃ a, σ[j]? = some (some (.ref a)) ∧ (∃ vs, H a = some (.lst vs)) ∧ tO (gx X) E (opdM (slotM j)) σ H (fun x H1 => x = .ref a ∧ tyV X.K "list" x H1 ∧ tAs (gx X) E (argsM ms) σ H1 fun xs H2 => r x xs H2 Q) := by
  obtain ⟨O, F, δ, M, w⟩ := w
  have w2 := wp_bind w
  unfold wp at w2
  cases eo : opdM (slotM j) δ with
  | none => rw [eo] at w2; exact w2.elim
  | some q =>
    rw [eo] at w2
    cases q with
    | err x δ2 => exact (opd_slot_err eo).elim
    | ok o δ2 =>
      obtain ⟨rfl, rfl⟩ := opd_slot eo
      have w3 := wp_bind (w2 F H (Same.refl _) M)
      have own : ∃ xs, δ2[j]? = some (some (.own xs)) := by
        unfold wp ownM at w3
        cases e : δ2[j]? with
        | none => rw [e] at w3; exact w3.elim
        | some s => cases s with
          | none => rw [e] at w3; exact w3.elim
          | some s => cases s with
            | d x => rw [e] at w3; exact w3.elim
            | own xs => exact ⟨xs, rfl⟩
      obtain ⟨xs0, hown⟩ := own
      obtain ⟨u0, eu0, a, vs0, rfl, ea0, _⟩ := M.sl j _ hown
      refine ⟨a, eu0, ⟨vs0, ea0⟩, O, F, δ2, M, ?_⟩
      unfold wp
      rw [eo]
      intro F2 H2 s2 M2 u hu
      have hu' : σ[j]? = some (some u) := hu
      rw [eu0] at hu'; cases hu'
      obtain ⟨u1, eu1, a1, vs1, rfl, ea1, _⟩ := M2.sl j _ hown
      rw [eu0] at eu1; cases eu1
      refine ⟨rfl, .inl ⟨rfl, vs1, .inl (.inl ea1)⟩, ?_⟩
      have w4 := wp_bind (w2 F2 H2 s2 M2)
      unfold wp ownM at w4
      rw [hown] at w4
      have w5 := wp_bind (w4 F2 H2 (Same.refl _) M2)
      refine ⟨O, F2, δ2, M2, wp_mono w5 fun F3 H3 δ3 ds s3 M3 w6 ws hws => ?_⟩
      unfold wp at w6
      simp only at w6
      cases e3 : δ3[j]? with
      | none => rw [e3] at w6; exact w6.elim
      | some t => cases t with
        | none => rw [e3] at w6; exact w6.elim
        | some t => cases t with
          | d x => rw [e3] at w6; exact w6.elim
          | own xs =>
            rw [e3] at w6
            simp only at w6
            cases ef : f xs ds with
            | none => rw [ef] at w6; exact w6.elim
            | some p =>
              obtain ⟨d, ys⟩ := p
              rw [ef] at w6
              obtain ⟨u3, eu3, a3, vs3, rfl, ea3, r3, _⟩ := M3.sl j _ e3
              rw [eu0] at eu3; cases eu3
              exact h F3 H3 a vs3 ws xs ds d ys Q M3.fh ea3 r3 hws ef fun u vs' ru rv => w6 F3 _ (Same.refl _) (M3.updOwn e3 eu0 rv) u ru
theorem t_meth {j : Nat} {r : V → List V → Hp → VK → Prop} {f : List D → List D → Option (D × List D)} {ms : List (M R)} (h : OM (gx X) r f) (σ : L2.St) (H : Hp) (Q : VK) (w : tR (gx X) E (meth j f ms) σ H Q) : tBM X.K "list" r (tO (gx X) E (opdM (slotM j))) (tAs (gx X) E (argsM ms)) σ H Q := by
  obtain ⟨a, _, _, O, F, δ, M, q⟩ := t_meth0 h σ H Q w
  exact ⟨O, F, δ, M, wp_mono q fun F' H' δ' o s M' z v hv => (z v hv).2⟩
def appF : List D → List D → Option (D × List D)
  | xs, [y] => if xs.length < sizeLine then some (.non, xs ++ [y]) else none
  | _, _ => none
theorem om_append {g : Gx} : OM g rAppend appF := by
  intro F H a vs ws xs ds d ys Q fh ha r rw' ef q
  unfold appF at ef
  split at ef
  · split at ef
    · cases ef
      obtain ⟨w, rfl, r1⟩ := rw'.one
      exact ⟨a, vs, w, rfl, rfl, ha, by rw [r.length]; assumption, q _ _ .non (r.append (.cons r1 .nil))⟩
    · cases ef
  · cases ef
def popF : List D → List D → Option (D × List D)
  | xs, [] => match xs[xs.length - 1]? with
    | some y => some (y, xs.dropLast)
    | none => none
  | _, _ => none
theorem RpA.dropLast {g : Gx} {F : Hp} {vs : List V} {ds : List D} (r : RpA g F vs ds) : RpA g F vs.dropLast ds.dropLast := by
  rw [List.dropLast_eq_take, List.dropLast_eq_take, r.length]; exact r.take _
theorem om_pop {g : Gx} : OM g rPop popF := by
  intro F H a vs ws xs ds d ys Q fh ha r rw' ef q
  unfold popF at ef
  split at ef
  · split at ef
    · cases ef
      cases rw'
      rename_i y hy
      obtain ⟨v, hv, rv⟩ := r.get hy
      exact ⟨a, vs, v, rfl, rfl, ha, by rw [r.length]; exact hv, q _ _ rv r.dropLast⟩
    · cases ef
  · cases ef
end
end Ev

set_option Elab.async false
set_option linter.all false
set_option maxRecDepth 100000
namespace Ev
open PySem PySem.Spec PyProof.Rows L2

/-! ### list comprehensions: vs the slots of the block's own names -/
def wipeD (δ : Dl) : List Nat → Dl
  | [] => δ
  | v :: vs => (wipeD δ vs).set v none
theorem wipeD_some {δ : Dl} {i : Nat} {x : S} : ∀ {vs : List Nat}, (wipeD δ vs)[i]? = some (some x) → δ[i]? = some (some x) ∧ i ∉ vs
  | [], h => ⟨h, by simp⟩
  | v :: vs, h => by
    rcases get_set_of h with ⟨_, z⟩ | ⟨ne, h'⟩
    · cases z
    · obtain ⟨h1, h2⟩ := wipeD_some h'
      exact ⟨h1, by simp only [List.mem_cons, not_or]; exact ⟨fun z => ne z.symm, h2⟩⟩
/-- the slots at vs as they stood -/
def backD (δ0 δ : Dl) : List Nat → Dl
  | [] => δ
  | v :: vs => (backD δ0 δ vs).set v (δ0.getD v none)
theorem backD_some {δ0 δ : Dl} {i : Nat} {x : S} : ∀ {vs : List Nat}, (backD δ0 δ vs)[i]? = some (some x) → (i ∈ vs ∧ δ0[i]? = some (some x)) ∨ (i ∉ vs ∧ δ[i]? = some (some x))
  | [], h => .inr ⟨by simp, h⟩
  | v :: vs, h => by
    rcases get_set_of h with ⟨e, z⟩ | ⟨ne, h'⟩
    · subst e
      refine .inl ⟨by simp, ?_⟩
      rw [List.getD_eq_getElem?_getD] at z
      cases e0 : δ0[v]? with
      | none => rw [e0] at z; cases z
      | some y => rw [e0] at z; simp only [Option.getD_some] at z; rw [z]
    · rcases backD_some h' with ⟨a, b⟩ | ⟨a, b⟩
      · exact .inl ⟨by simp [a], b⟩
      · exact .inr ⟨by simp only [List.mem_cons, not_or]; exact ⟨fun z => ne z.symm, a⟩, b⟩
def noOwn (δ : Dl) (vs : List Nat) : Bool := vs.all fun i => match δ[i]? with
  | some (some (.own _)) => false
  | _ => true
theorem noOwn_at {δ : Dl} {vs : List Nat} (h : noOwn δ vs = true) {i : Nat} (hi : i ∈ vs) {xs : List D} : δ[i]? ≠ some (some (.own xs)) := fun z => by
  have := List.all_eq_true.mp h i hi
  rw [z] at this; cases this
theorem wipe_ne {σ : L2.St} {i : Nat} : ∀ {vs : List Nat}, i ∉ vs → (wipe σ vs)[i]? = σ[i]?
  | [], _ => rfl
  | v :: vs, h => by
    simp only [List.mem_cons, not_or] at h
    show ((wipe σ vs).set v none)[i]? = _
    rw [List.getElem?_set_ne (fun z => h.1 z.symm), wipe_ne h.2]
theorem wipe_len {σ : L2.St} : ∀ {vs : List Nat}, (wipe σ vs).length = σ.length
  | [] => rfl
  | v :: vs => by show ((wipe σ vs).set v none).length = _; rw [List.length_set, wipe_len]
theorem wipe_at {σ : L2.St} {i : Nat} (hi : i < σ.length) : ∀ {vs : List Nat}, i ∈ vs → (wipe σ vs)[i]? = some none
  | v :: vs, h => by
    show ((wipe σ vs).set v none)[i]? = _
    by_cases e : v = i
    · subst e; exact List.getElem?_set_self (by rw [wipe_len]; exact hi)
    · rw [List.getElem?_set_ne e]
      exact wipe_at hi ((List.mem_cons.mp h).resolve_left fun z => e z.symm)
theorem wipe_eq {σ σ' : L2.St} {vs : List Nat} (hl : σ'.length = σ.length) (h : ∀ i, i ∉ vs → σ'[i]? = σ[i]?) : wipe σ' vs = wipe σ vs := by
  apply List.ext_getElem?
  intro i
  by_cases hi : i ∈ vs
  · by_cases hb : i < σ.length
    · rw [wipe_at hb hi, wipe_at (by rw [hl]; exact hb) hi]
    · rw [List.getElem?_eq_none (by rw [wipe_len, hl]; omega), List.getElem?_eq_none (by rw [wipe_len]; omega)]
  · rw [wipe_ne hi, wipe_ne hi, h i hi]
/-- one item after another -/
def compGo (vs : List Nat) (T : Tg) (tt : M Bool) (te : M D) : List D → List D → M (List D)
  | [], acc => retM acc
  | d :: ds, acc => fun δ => match asgT T d δ with
    | none => none
    | some δ1 => bindM tt (fun b => if b then bindM te (fun y => fun δ2 => if acc.length < sizeLine then compGo vs T tt te ds (acc ++ [y]) (wipeD δ2 vs) else none) else fun δ2 => compGo vs T tt te ds acc (wipeD δ2 vs)) δ1
def compM (vs : List Nat) (T : Tg) (src : M (List D)) (tt : M Bool) (te : M D) : M R := bindM src fun ds => fun δ => if noOwn δ vs then match compGo vs T tt te ds [] (wipeD δ vs) with
    | some (.ok out δe) => some (.ok (.own out) (backD δ δe vs))
    | _ => none
  else none
/-- the slots that a block leaves alone -/
def outer (n : Nat) (vs : List Nat) : List Nat := (List.range n).filter fun i => !vs.contains i
section
variable {g : Gx} {O F H : Hp} {σ : L2.St} {δ : Dl} {vs : List Nat}
theorem Ms.wiped (M : Ms g O F H σ δ) : Ms g O F H (wipe σ vs) (wipeD δ vs) := by
  refine ⟨M.fh, M.oh, M.dj, fun i s h => ?_, fun i j xs ys v h1 h2 h3 h4 => ?_⟩
  · obtain ⟨h1, h2⟩ := wipeD_some h
    obtain ⟨v, ev, r⟩ := M.sl i s h1
    exact ⟨v, by rw [wipe_ne h2]; exact ev, r⟩
  · obtain ⟨a1, a2⟩ := wipeD_some h1
    obtain ⟨b1, b2⟩ := wipeD_some h2
    rw [wipe_ne a2] at h3
    rw [wipe_ne b2] at h4
    exact M.ap i j xs ys v a1 b1 h3 h4
theorem Ms.wiped2 {σ2 : L2.St} (M : Ms g O F H σ2 δ) (e : wipe σ2 vs = wipe σ vs) : Ms g O F H (wipe σ vs) (wipeD δ vs) := by rw [← e]; exact M.wiped
theorem Ms.out {o : HO} {p : Addr} (M : Ms g O F H σ δ) (hp : H p = none) (h' : Hp) (hh : h' = upd H p o) : Ms g (upd O p o) F h' σ δ := by
  subst hh
  have fp : F p = none := M.fh.free hp
  have up : Same H (upd H p o) := fun b x e => by rw [upd_ne (ne_of_none e hp)]; exact e
  refine ⟨M.fh.trans up, fun b x e => ?_, fun b => ?_, fun i s h => ?_, M.ap⟩
  · by_cases hb : b = p
    · subst hb; rw [upd_same] at e ⊢; exact e
    · rw [upd_ne hb] at e; exact up _ _ (M.oh _ _ e)
  · by_cases hb : b = p
    · subst hb; exact .inl fp
    · rw [upd_ne hb]; exact M.dj b
  · obtain ⟨v, ev, r⟩ := M.sl i s h
    refine ⟨v, ev, ?_⟩
    cases s with
    | d x => exact r
    | own xs =>
      obtain ⟨a, us, rfl, e1, e2, e3, e4⟩ := r
      exact ⟨a, us, rfl, up _ _ e1, e2, e3, by rw [upd_ne (ne_of_none e1 hp)]; exact e4⟩
theorem Ms.reout {o o' : HO} {p : Addr} (M : Ms g (upd O p o) F H σ δ) (hO : O p = none) : Ms g (upd O p o') F (upd H p o') σ δ := by
  have hp : H p = some o := M.oh _ _ upd_same
  have fp : F p = none := (M.dj p).resolve_right (by rw [upd_same]; exact fun z => nomatch z)
  refine ⟨fun b x e => ?_, fun b x e => ?_, fun b => ?_, fun i s h => ?_, M.ap⟩
  · have : b ≠ p := fun z => by subst z; rw [fp] at e; cases e
    rw [upd_ne this]; exact M.fh _ _ e
  · by_cases hb : b = p
    · subst hb; rw [upd_same] at e ⊢; exact e
    · rw [upd_ne hb] at e ⊢
      exact M.oh _ _ (by rw [upd_ne hb]; exact e)
  · by_cases hb : b = p
    · subst hb; exact .inl fp
    · rw [upd_ne hb]
      have := M.dj b
      rw [upd_ne hb] at this; exact this
  · obtain ⟨v, ev, r⟩ := M.sl i s h
    refine ⟨v, ev, ?_⟩
    cases s with
    | d x => exact r
    | own xs =>
      obtain ⟨a, us, rfl, e1, e2, e3, e4⟩ := r
      have : a ≠ p := fun z => by subst z; rw [upd_same] at e4; cases e4
      exact ⟨a, us, rfl, by rw [upd_ne this]; exact e1, e2, e3, by rw [upd_ne this] at e4 ⊢; exact e4⟩
theorem Ms.back {o : HO} {p : Addr} {δ0 : Dl} {F0 H0 : Hp} (M0 : Ms g O F0 H0 σ δ0) (s : Same F0 F) (no : noOwn δ0 vs = true) (M : Ms g (upd O p o) F H (wipe σ vs) δ) (hO : O p = none) : Ms g O F H σ (backD δ0 δ vs) := by
  refine ⟨M.fh, fun b x e => ?_, fun b => ?_, fun i t h => ?_, fun i j xs ys v h1 h2 h3 h4 => ?_⟩
  · exact M.oh _ _ (by rw [upd_ne (fun z => by subst z; rw [hO] at e; cases e)]; exact e)
  · by_cases hb : b = p
    · subst hb; exact .inr hO
    · have := M.dj b
      rw [upd_ne hb] at this; exact this
  · rcases backD_some h with ⟨a, b⟩ | ⟨a, b⟩
    · obtain ⟨v, ev, r⟩ := M0.sl i t b
      refine ⟨v, ev, ?_⟩
      cases t with
      | d x => exact Rp.mono s _ _ r
      | own xs => exact absurd b (noOwn_at no a)
    · obtain ⟨v, ev, r⟩ := M.sl i t b
      rw [wipe_ne a] at ev
      refine ⟨v, ev, ?_⟩
      cases t with
      | d x => exact r
      | own xs =>
        obtain ⟨q, us, rfl, e1, e2, e3, e4⟩ := r
        exact ⟨q, us, rfl, e1, e2, e3, by
          by_cases hb : q = p
          · subst hb; exact hO
          · rw [upd_ne hb] at e4; exact e4⟩
  · rcases backD_some h1 with ⟨a, b⟩ | ⟨a, b⟩
    · exact absurd b (noOwn_at no a)
    rcases backD_some h2 with ⟨c, d⟩ | ⟨c, d⟩
    · exact absurd d (noOwn_at no c)
    exact M.ap i j xs ys v b d (by rw [wipe_ne a]; exact h3) (by rw [wipe_ne c]; exact h4)
end
section
variable {X : Cx} {E : WS} {tg iter elt : Expr} {ifs : List Expr} {T : Tg} {src : M (List D)} {tt : M Bool} {te : M D} {vs : List Nat}
theorem wp_of_ok {g : Gx} {O F : Hp} {σ : L2.St} {δ δ' : Dl} {α : Type} {m : M α} {a : α} {ok : Hp → Hp → Dl → α → Prop} {er : Hp → Hp → Dl → Ex → Prop} (e : m δ = some (.ok a δ')) (h : ∀ F' H', Same F F' → Ms g O F' H' σ δ' → ok F' H' δ' a) : wp g O F σ δ m ok er := by
  unfold wp; rw [e]; exact h
theorem bind_ok {α β : Type} {m : M α} {f : α → M β} {δ δ' : Dl} {b : β} (h : bindM m f δ = some (.ok b δ')) : ∃ a δ1, m δ = some (.ok a δ1) ∧ f a δ1 = some (.ok b δ') := by
  unfold bindM at h
  split at h
  · cases h
  · cases h
  · exact ⟨_, _, by assumption, h⟩
theorem lc_core' {σ : L2.St} {H : Hp} {Q : VK} {n : Nat} (hn : σ.length = n) (w : tR (gx X) E (compM vs T src tt te) σ H Q) :
    tLc (tI (gx X) E src) (tG (gx X) (outer n vs) T) (tT (gx X) (fun _ => E0) tt) (tD (gx X) (fun _ => E0) te) vs σ H Q := by
  obtain ⟨O, F, δ, M, w⟩ := w
  refine ⟨O, F, δ, M, wp_mono (wp_bind w) fun F1 H1 δ1 ds s1 M1 w1 J wk P hP => ?_⟩
  unfold wp at w1
  simp only at w1
  split at w1
  · exact w1.elim
  · rename_i r δ3 e1
    split at e1
    · rename_i hno
      split at e1
      · rename_i out δe eg
        cases e1
        have hO : O P = none := M1.oh.free hP
        refine ⟨fun i m H' => m = ds.length - i ∧ i ≤ ds.length ∧ ∃ F' δ' acc accD, Same F1 F' ∧ Ms (gx X) (upd O P (.lst acc)) F' H' (wipe σ vs) δ' ∧ RpA (gx X) F' acc accD ∧ compGo vs T tt te (ds.drop i) accD δ' = some (.ok out δe),
          ⟨_, rfl, Nat.zero_le _, F1, _, [], [], Same.refl _, M1.wiped.out hP _ rfl, .nil, eg⟩, ?_⟩
        rintro i m H2 ⟨rfl, hi, F2, δ2, acc, accD, s2, M2, racc, eg2⟩
        by_cases hlt : i < ds.length
        · obtain ⟨d, hd⟩ := idx hlt
          have ed : ds.drop i = d :: ds.drop (i + 1) := by
            obtain ⟨h1, h2⟩ := List.getElem?_eq_some_iff.mp hd
            rw [← h2]; exact List.drop_eq_getElem_cons h1
          rw [ed] at eg2
          refine .inr ⟨wk.go i F2 H2 s2 M2.fh hlt, fun H' => ∃ F' δ' acc accD, Same F1 F' ∧ Ms (gx X) (upd O P (.lst acc)) F' H' (wipe σ vs) δ' ∧ RpA (gx X) F' acc accD ∧ compGo vs T tt te (ds.drop (i + 1)) accD δ' = some (.ok out δe),
            fun H' q => ⟨ds.length - (i + 1), by omega, rfl, by omega, q⟩, fun x H3 hy => ?_⟩
          obtain ⟨F3, k3, r3⟩ := wk.yl i F2 H2 x H3 d s2 M2.fh hd hy
          simp only [compGo] at eg2
          cases ea : asgT T d δ2 with
          | none => rw [ea] at eg2; cases eg2
          | some δ4 =>
            rw [ea] at eg2
            refine ⟨upd O P (.lst acc), F3, δ2, d, δ4, M2.grow k3, r3, ea, fun σ4 kp M4 => ?_⟩
            have we : wipe σ4 vs = wipe σ vs := by
              have h1 : wipe σ4 vs = wipe (wipe σ vs) vs := wipe_eq kp.1 fun j hj => by
                by_cases hb : j < n
                · exact kp.2 j (List.mem_filter.mpr ⟨List.mem_range.mpr hb, by simp [hj]⟩)
                · rw [List.getElem?_eq_none (by rw [kp.1, wipe_len, hn]; omega), List.getElem?_eq_none (by rw [wipe_len, hn]; omega)]
              rw [h1]
              exact wipe_eq (wipe_len) fun j hj => wipe_ne hj
            refine ⟨we, ?_⟩
            obtain ⟨b, δ5, eb, eg3⟩ := bind_ok eg2
            refine ⟨upd O P (.lst acc), F3, δ4, M4, wp_of_ok eb fun F5 H5 s5 M5 => ?_⟩
            have s15 : Same F1 F5 := s2.trans (k3.ff.trans s5)
            have racc5 := racc.mono (k3.ff.trans s5) _ _
            cases b with
            | false =>
              rw [if_neg Bool.false_ne_true] at eg3
              exact iteF ⟨F5, _, acc, accD, s15, M5.wiped2 we, racc5, eg3⟩
            | true =>
              rw [if_pos rfl] at eg3
              obtain ⟨y, δ6, ey, eg4⟩ := bind_ok eg3
              refine iteT ⟨upd O P (.lst acc), F5, δ5, M5, wp_of_ok ey fun F6 H6 s6 M6 v hv => ?_⟩
              try simp only at eg4
              split at eg4
              · rename_i hz
                refine ⟨acc, M6.oh _ _ upd_same, by rw [racc5.length]; exact hz, F6, _, acc ++ [v], accD ++ [y], s15.trans s6, ?_, (racc5.mono s6 _ _).append (.cons hv .nil), eg4⟩
                exact (M6.reout hO).wiped2 we
              · cases eg4
        · have ei : i = ds.length := by omega
          subst ei
          rw [List.drop_length] at eg2
          simp only [compGo, retM, Option.some.injEq, Rs.ok.injEq] at eg2
          obtain ⟨rfl, rfl⟩ := eg2
          have Mb := M1.back s2 hno M2 hO
          refine .inl ⟨wk.st _ F2 H2 s2 M2.fh (Nat.le_refl _), w1 F2 H2 s2 Mb _ ⟨⟨P, acc, rfl, M2.oh _ _ upd_same, racc, (M2.dj P).resolve_right (by rw [upd_same]; exact fun z => nomatch z), hO⟩, fun j ys hj hs => ?_⟩⟩
          obtain ⟨u, eu, q, us, rfl, e1, e2, e3, e4⟩ := Mb.sl j _ hj
          rw [hs] at eu; cases eu
          -- the slot's list stood ahead of the new one
          rcases backD_some hj with ⟨a, b⟩ | ⟨a, b⟩
          · exact noOwn_at hno a b
          · obtain ⟨u, eu, q, us, rfl, f1, f2, f3, f4⟩ := M2.sl j _ b
            rw [wipe_ne a, hs] at eu; cases eu
            rw [upd_same] at f4; cases f4
      · cases e1
    · cases e1
  · rename_i e1
    split at e1
    · split at e1
      · cases e1
      · cases e1
    · cases e1
theorem pr_lc {scope : Scope} {own : List (Str × Nat)} {pos : Pos} (hc : X.calm = true) (hN : X.N.Nodup) (hi : PI X tg iter (tI (gx X) E src)) (ok : BlkOk X.N X.env.scope scope own)
    (hg : ∀ (s : Shared) (H : Hp) (C : Addr) (cl : List (Str × Addr)) (fp : List Addr), PG (X.blk s H scope (compEnvC scope cl C X.env) fp) tg (tG (gx X) (outer X.N.length (own.map (·.2))) T))
    (ht : ∀ (s : Shared) (H : Hp) (C : Addr) (cl : List (Str × Addr)) (fp : List Addr), PTs (X.blk s H scope (compEnvC scope cl C X.env) fp) ifs (tT (gx X) (fun _ => E0) tt))
    (he : ∀ (s : Shared) (H : Hp) (C : Addr) (cl : List (Str × Addr)) (fp : List Addr), PE (X.blk s H scope (compEnvC scope cl C X.env) fp) elt (tD (gx X) (fun _ => E0) te)) (hs : ∀ x, foldedSetIterable iter X.env x = pure x) :
    PE X (.ListComp elt [⟨tg, iter, ifs, 0⟩] scope pos) (tR (gx X) E (compM (own.map (·.2)) T src tt te)) :=
  ⟨fun pins s σ H Q I w => (pe_lc hc hN hi ok hg ht he hs).run pins s σ H Q I (lc_core' I.len w)⟩
theorem pr_setLc {L : List Nat} {i : Nat} {y : Str} {py : Pos} {scope : Scope} {own : List (Str × Nat)} {pos spos : Pos} (hc : X.calm = true) (hN : X.N.Nodup) (hy : X.N[i]? = some y) (hyl : X.env.scope.names.lookup y = some .local) (hL : i ∉ L)
    (hsw : swapsWith (.ListComp elt [⟨tg, iter, ifs, 0⟩] scope pos) (some (.Name y py)) spos.line X.env = pure true) (hi : PI X tg iter (tI (gx X) E src)) (ok : BlkOk X.N X.env.scope scope own)
    (hg : ∀ (s : Shared) (H : Hp) (C : Addr) (cl : List (Str × Addr)) (fp : List Addr), PG (X.blk s H scope (compEnvC scope cl C X.env) fp) tg (tG (gx X) (outer X.N.length (own.map (·.2))) T))
    (ht : ∀ (s : Shared) (H : Hp) (C : Addr) (cl : List (Str × Addr)) (fp : List Addr), PTs (X.blk s H scope (compEnvC scope cl C X.env) fp) ifs (tT (gx X) (fun _ => E0) tt))
    (he : ∀ (s : Shared) (H : Hp) (C : Addr) (cl : List (Str × Addr)) (fp : List Addr), PE (X.blk s H scope (compEnvC scope cl C X.env) fp) elt (tD (gx X) (fun _ => E0) te)) (hs : ∀ x, foldedSetIterable iter X.env x = pure x) :
    PS X (.Assign [.Name y py] (.ListComp elt [⟨tg, iter, ifs, 0⟩] scope pos) spos) (tS (gx X) E L (setS i (compM (own.map (·.2)) T src tt te))) := by
  refine ⟨fun pins s σ H D I w => (ps_setLc hc hN hy hyl hsw hi ok hg ht he hs).run pins s σ H D I ?_⟩
  obtain ⟨O, F, δ, M, w⟩ := w
  refine lc_core' (Q := fun v H1 => D.nx (σ.set i (some v)) H1) I.len ⟨O, F, δ, M, wp_mono (wps_bind w) fun F1 H1 δ1 r s1 M1 w1 v hv => wps_put M1 ?_ hL hv w1⟩
  rw [I.len]; exact (List.getElem?_eq_some_iff.mp hy).1
end
end Ev

set_option Elab.async false
set_option linter.all false
set_option maxRecDepth 100000
namespace Ev
open PySem PySem.Spec PyProof.Rows L2

/-! ### functions by data -/
abbrev Fn := List S → Option (Rs S)
/-- what a def promises: the parameters' slots behind it, the result -/
def spOf (g : Gx) (n : Nat) (fn : Fn) : Sp := fun vs H Q E => vs.length = n ∧ ∃ O F ss, ss.length = n ∧ Ms g O F H (vs.map some) (ss.map some) ∧
  wp g O F (vs.map some) (ss.map some) (fun _ => fn ss) (fun F' H' δ' s => ∀ v, RpT g O F' H' (vs.map some) δ' v s → Q v H') (eE g E)

/-! ### calls -/
inductive Ag where
  | val (m : M R) | rf (j : Nat)
def agsM : List Ag → M (List Op)
  | [] => retM []
  | .val m :: r => bindM (datM m) fun x => bindM (agsM r) fun xs => retM (.d x :: xs)
  | .rf j :: r => bindM (opdM (slotM j)) fun x => bindM (agsM r) fun xs => retM (x :: xs)
def ssOf (δ : Dl) : List Op → Option (List S)
  | [] => some []
  | .d x :: r => (ssOf δ r).map (S.d x :: ·)
  | .slot j :: r => match δ[j]? with
    | some (some (.own xs)) => (ssOf δ r).map (S.own xs :: ·)
    | _ => none
def slotsIn : List Op → List Nat
  | [] => []
  | .d _ :: r => slotsIn r
  | .slot j :: r => j :: slotsIn r
def putBack : List Op → Dl → Dl → Dl
  | .slot j :: r, x :: xs, δ => (putBack r xs δ).set j x
  | .d _ :: r, _ :: xs, δ => putBack r xs δ
  | _, _, δ => δ
def ndp : List Nat → Bool
  | [] => true
  | a :: r => !r.contains a && ndp r
theorem ndp_ok : ∀ {l : List Nat}, ndp l = true → l.Nodup
  | [], _ => List.nodup_nil
  | a :: r, h => by
    simp only [ndp, Bool.and_eq_true, Bool.not_eq_true', List.contains_eq_mem] at h
    exact List.nodup_cons.mpr ⟨by simpa using h.1, ndp_ok h.2⟩
def callM (fn : Fn) (as : List Ag) : M R := bindM (agsM as) fun os => fun δ => match ssOf δ os with
  | none => none
  | some ss => if ndp (slotsIn os) then match fn ss with
    | none => none
    | some (.ok s δo) => some (.ok s.toR (putBack os δo δ))
    | some (.err e δo) => some (.err e (putBack os δo δ))
  else none
theorem ssOf_len {δ : Dl} : ∀ {os : List Op} {ss : List S}, ssOf δ os = some ss → ss.length = os.length
  | [], _, h => by cases h; rfl
  | .d x :: r, _, h => by
    simp only [ssOf, Option.map_eq_some_iff] at h
    obtain ⟨t, h1, rfl⟩ := h
    rw [List.length_cons, List.length_cons, ssOf_len h1]
  | .slot j :: r, _, h => by
    simp only [ssOf] at h
    split at h
    · rw [Option.map_eq_some_iff] at h
      obtain ⟨t, h1, rfl⟩ := h
      rw [List.length_cons, List.length_cons, ssOf_len h1]
    · cases h
theorem ssOf_get {δ : Dl} : ∀ {os : List Op} {ss : List S} {k : Nat} {o : Op}, ssOf δ os = some ss → os[k]? = some o → (∃ x, o = .d x ∧ ss[k]? = some (.d x)) ∨ (∃ j xs, o = .slot j ∧ δ[j]? = some (some (.own xs)) ∧ ss[k]? = some (.own xs))
  | [], _, _, _, _, h => by simp at h
  | .d x :: r, ss, k, o, h, ho => by
    simp only [ssOf, Option.map_eq_some_iff] at h
    obtain ⟨t, h1, rfl⟩ := h
    cases k with
    | zero => simp at ho; subst ho; exact .inl ⟨x, rfl, rfl⟩
    | succ k => simpa using ssOf_get (k := k) h1 (by simpa using ho)
  | .slot j :: r, ss, k, o, h, ho => by
    simp only [ssOf] at h
    split at h
    · rename_i xs hj
      rw [Option.map_eq_some_iff] at h
      obtain ⟨t, h1, rfl⟩ := h
      cases k with
      | zero => simp at ho; subst ho; exact .inr ⟨j, xs, rfl, hj, rfl⟩
      | succ k => simpa using ssOf_get (k := k) h1 (by simpa using ho)
    · cases h
theorem RpOs.get {g : Gx} {F : Hp} {σ : L2.St} : ∀ {vs : List V} {os : List Op} {k : Nat} {o : Op}, RpOs g F σ vs os → os[k]? = some o → ∃ v, vs[k]? = some v ∧ RpO g F σ v o
  | _, _, _, _, .nil, h => by simp at h
  | _, _, 0, _, .cons a _, h => by simp at h; subst h; exact ⟨_, rfl, a⟩
  | _, _, k + 1, o, .cons _ b, h => by simpa using RpOs.get (k := k) b (by simpa using h)
theorem RpOs.len {g : Gx} {F : Hp} {σ : L2.St} : ∀ {vs : List V} {os : List Op}, RpOs g F σ vs os → vs.length = os.length
  | _, _, .nil => rfl
  | _, _, .cons _ b => by simp [RpOs.len b]
theorem slotsIn_mem {j : Nat} : ∀ {os : List Op} {k : Nat}, os[k]? = some (Op.slot j) → j ∈ slotsIn os
  | [], _, h => by simp at h
  | .d x :: r, 0, h => by simp at h
  | .d x :: r, k + 1, h => by
    have h' : r[k]? = some (Op.slot j) := by simpa using h
    exact slotsIn_mem (os := r) h'
  | .slot i :: r, 0, h => by simp at h; subst h; simp [slotsIn]
  | .slot i :: r, k + 1, h => by
    have h' : r[k]? = some (Op.slot j) := by simpa using h
    have := slotsIn_mem (os := r) h'
    simp [slotsIn, this]
theorem slotsIn_at {j : Nat} : ∀ {os : List Op}, j ∈ slotsIn os → ∃ k : Nat, os[k]? = some (Op.slot j)
  | .d x :: r, h => by
    obtain ⟨k, hk⟩ := slotsIn_at (os := r) h
    exact ⟨k + 1, by simpa using hk⟩
  | .slot i :: r, h => by
    simp only [slotsIn, List.mem_cons] at h
    rcases h with e | h
    · subst e; exact ⟨0, rfl⟩
    · obtain ⟨k, hk⟩ := slotsIn_at (os := r) h
      exact ⟨k + 1, by simpa using hk⟩
theorem slots_inj {j : Nat} : ∀ {os : List Op} {k l : Nat}, (slotsIn os).Nodup → os[k]? = some (.slot j) → os[l]? = some (.slot j) → k = l
  | [], _, _, _, h, _ => by simp at h
  | .d x :: r, 0, _, _, h, _ => by simp at h
  | .d x :: r, k + 1, 0, _, _, h => by simp at h
  | .d x :: r, k + 1, l + 1, n, h1, h2 => by rw [slots_inj (k := k) (l := l) (os := r) n (by simpa using h1) (by simpa using h2)]
  | .slot i :: r, 0, 0, _, _, _ => rfl
  | .slot i :: r, 0, l + 1, n, h1, h2 => by
    simp at h1; subst h1
    exact absurd (slotsIn_mem (k := l) (os := r) (by simpa using h2)) (List.nodup_cons.mp n).1
  | .slot i :: r, k + 1, 0, n, h1, h2 => by
    simp at h2; subst h2
    exact absurd (slotsIn_mem (k := k) (os := r) (by simpa using h1)) (List.nodup_cons.mp n).1
  | .slot i :: r, k + 1, l + 1, n, h1, h2 => by rw [slots_inj (k := k) (l := l) (os := r) (List.nodup_cons.mp n).2 (by simpa using h1) (by simpa using h2)]
/-- what stands in a slot behind a call: what the callee left there, or what stood -/
theorem putBack_get {i : Nat} {s : S} : ∀ {os : List Op} {δo δ : Dl}, (putBack os δo δ)[i]? = some (some s) → (∃ k : Nat, os[k]? = some (Op.slot i) ∧ δo[k]? = some (some s)) ∨ (i ∉ slotsIn os ∧ δ[i]? = some (some s)) ∨ (δo.length < os.length)
  | [], δo, δ, h => by
    cases δo <;> exact .inr (.inl ⟨by simp [slotsIn], h⟩)
  | .d x :: r, [], δ, h => .inr (.inr (by simp))
  | .slot j :: r, [], δ, h => .inr (.inr (by simp))
  | .d x :: r, y :: ys, δ, h => by
    rcases putBack_get (os := r) (δo := ys) h with ⟨k, h1, h2⟩ | ⟨h1, h2⟩ | h3
    · exact .inl ⟨k + 1, by simpa using h1, by simpa using h2⟩
    · exact .inr (.inl ⟨h1, h2⟩)
    · exact .inr (.inr (by simpa using h3))
  | .slot j :: r, y :: ys, δ, h => by
    rcases get_set_of h with ⟨e1, e2⟩ | ⟨ne, h'⟩
    · subst e1; exact .inl ⟨0, rfl, by subst e2; rfl⟩
    · rcases putBack_get (os := r) (δo := ys) h' with ⟨k, h1, h2⟩ | ⟨h1, h2⟩ | h3
      · exact .inl ⟨k + 1, by simpa using h1, by simpa using h2⟩
      · exact .inr (.inl ⟨by simp only [slotsIn, List.mem_cons, not_or]; exact ⟨fun z => ne z.symm, h1⟩, h2⟩)
      · exact .inr (.inr (by simpa using h3))
theorem map_some_get {vs : List V} {k : Nat} {v : V} : (vs.map some)[k]? = some (some v) ↔ vs[k]? = some v := by
  rw [List.getElem?_map]
  cases vs[k]? <;> simp
theorem map_some_get' {ss : List S} {k : Nat} {v : S} : (ss.map some)[k]? = some (some v) ↔ ss[k]? = some v := by
  rw [List.getElem?_map]
  cases ss[k]? <;> simp
section
variable {g : Gx} {O F H : Hp} {σ : L2.St} {δ : Dl} {vs : List V} {os : List Op} {ss : List S}
open Classical in
/-- what the caller keeps from the callee -/
noncomputable def outO (O H : Hp) (σ : L2.St) (δ : Dl) (os : List Op) : Hp := fun a => if ∃ (j : Nat) (xs : List D), δ[j]? = some (some (.own xs)) ∧ σ[j]? = some (some (.ref a)) ∧ j ∉ slotsIn os then H a else O a
theorem outO_in {a : Addr} {j : Nat} {xs : List D} (h1 : δ[j]? = some (some (.own xs))) (h2 : σ[j]? = some (some (.ref a))) (h3 : j ∉ slotsIn os) : outO O H σ δ os a = H a := if_pos ⟨j, xs, h1, h2, h3⟩
theorem outO_cases (a : Addr) : ((∃ (j : Nat) (xs : List D), δ[j]? = some (some (.own xs)) ∧ σ[j]? = some (some (.ref a)) ∧ j ∉ slotsIn os) ∧ outO O H σ δ os a = H a) ∨ ((¬ ∃ (j : Nat) (xs : List D), δ[j]? = some (some (.own xs)) ∧ σ[j]? = some (some (.ref a)) ∧ j ∉ slotsIn os) ∧ outO O H σ δ os a = O a) := by
  by_cases h : ∃ (j : Nat) (xs : List D), δ[j]? = some (some (.own xs)) ∧ σ[j]? = some (some (.ref a)) ∧ j ∉ slotsIn os
  · exact .inl ⟨h, if_pos h⟩
  · exact .inr ⟨h, if_neg h⟩
theorem Ms.own_at (M : Ms g O F H σ δ) {j : Nat} {xs : List D} {a : Addr} (h1 : δ[j]? = some (some (.own xs))) (h2 : σ[j]? = some (some (.ref a))) : ∃ vs, H a = some (.lst vs) ∧ RpA g F vs xs ∧ F a = none ∧ O a = none := by
  obtain ⟨v, ev, b, us, rfl, r⟩ := M.sl j _ h1
  rw [h2] at ev; cases ev
  exact ⟨us, r⟩
theorem outO_none (M : Ms g O F H σ δ) {a : Addr} (h : outO O H σ δ os a = none) : O a = none := by
  rcases outO_cases (O := O) (H := H) (σ := σ) (δ := δ) (os := os) a with ⟨⟨j, xs, h1, h2, _⟩, _⟩ | ⟨_, e⟩
  · exact (M.own_at h1 h2).choose_spec.2.2.2
  · rw [← e]; exact h
theorem Ms.entry (M : Ms g O F H σ δ) (r : RpOs g F σ vs os) (e : ssOf δ os = some ss) (nd : (slotsIn os).Nodup) : Ms g (outO O H σ δ os) F H (vs.map some) (ss.map some) := by
  refine ⟨M.fh, fun a o h => ?_, fun a => ?_, fun k s h => ?_, fun k l xs ys v h1 h2 h3 h4 => ?_⟩
  · rcases outO_cases (O := O) (H := H) (σ := σ) (δ := δ) (os := os) a with ⟨_, e⟩ | ⟨_, e⟩
    · rw [← e]; exact h
    · rw [e] at h; exact M.oh _ _ h
  · rcases outO_cases (O := O) (H := H) (σ := σ) (δ := δ) (os := os) a with ⟨⟨j, xs, h1, h2, _⟩, e⟩ | ⟨_, e⟩
    · exact .inl (M.own_at h1 h2).choose_spec.2.2.1
    · rw [e]; exact M.dj a
  · rw [map_some_get'] at h
    have hk : k < os.length := by rw [← ssOf_len e]; exact (List.getElem?_eq_some_iff.mp h).1
    obtain ⟨o, ho⟩ := idx hk
    obtain ⟨v, hv, rv⟩ := r.get ho
    refine ⟨v, map_some_get.mpr hv, ?_⟩
    rcases ssOf_get e ho with ⟨x, rfl, hs⟩ | ⟨j, xs, rfl, hj, hs⟩
    · rw [h] at hs; cases hs; exact rv
    · rw [h] at hs; cases hs
      have rv' : σ[j]? = some (some v) := rv
      obtain ⟨w, ew, a, us, rfl, e1, e2, e3, e4⟩ := M.sl j _ hj
      rw [rv'] at ew; cases ew
      refine ⟨a, us, rfl, e1, e2, e3, ?_⟩
      rcases outO_cases (O := O) (H := H) (σ := σ) (δ := δ) (os := os) a with ⟨⟨j', ys, h1, h2, h3⟩, _⟩ | ⟨_, e⟩
      · have := M.ap j j' xs ys _ hj h1 rv' h2
        subst this
        exact absurd (slotsIn_mem ho) h3
      · rw [e]; exact e4
  · rw [map_some_get'] at h1 h2
    rw [map_some_get] at h3 h4
    have hk : k < os.length := by rw [← ssOf_len e]; exact (List.getElem?_eq_some_iff.mp h1).1
    have hl : l < os.length := by rw [← ssOf_len e]; exact (List.getElem?_eq_some_iff.mp h2).1
    obtain ⟨o, ho⟩ := idx hk
    obtain ⟨p, hp⟩ := idx hl
    obtain ⟨v1, hv1, rv1⟩ := r.get ho
    obtain ⟨v2, hv2, rv2⟩ := r.get hp
    rw [h3] at hv1; cases hv1
    rw [h4] at hv2; cases hv2
    rcases ssOf_get e ho with ⟨x, rfl, hs⟩ | ⟨j, zs, rfl, hj, hs⟩
    · rw [h1] at hs; cases hs
    rcases ssOf_get e hp with ⟨x, rfl, hs2⟩ | ⟨j', zs', rfl, hj', hs2⟩
    · rw [h2] at hs2; cases hs2
    have := M.ap j j' _ _ _ hj hj' rv1 rv2
    subst this
    exact slots_inj nd ho hp
theorem Ms.exit {F' H' : Hp} {δo : Dl} (M : Ms g O F H σ δ) (r : RpOs g F σ vs os) (e : ssOf δ os = some ss) (nd : (slotsIn os).Nodup) (hl : os.length ≤ δo.length) (s : Same F F') (M' : Ms g (outO O H σ δ os) F' H' (vs.map some) δo) :
    Ms g O F' H' σ (putBack os δo δ) := by
  have lentown : ∀ {k : Nat} {j : Nat}, os[k]? = some (.slot j) → ∃ xs, δ[j]? = some (some (.own xs)) := fun ho => by
    rcases ssOf_get e ho with ⟨x, z, _⟩ | ⟨j', xs, z, hj, _⟩
    · cases z
    · cases z; exact ⟨xs, hj⟩
  refine ⟨M'.fh, fun a o h => ?_, fun a => ?_, fun i t h => ?_, fun i j xs ys v h1 h2 h3 h4 => ?_⟩
  · rcases outO_cases (O := O) (H := H) (σ := σ) (δ := δ) (os := os) a with ⟨⟨j, xs, h1, h2, _⟩, _⟩ | ⟨_, e⟩
    · have := (M.own_at h1 h2).choose_spec.2.2.2
      rw [this] at h; cases h
    · exact M'.oh _ _ (by rw [e]; exact h)
  · rcases M'.dj a with h | h
    · exact .inl h
    · exact .inr (outO_none M h)
  · rcases putBack_get h with ⟨k, ho, hk⟩ | ⟨hn, hd⟩ | hz
    · obtain ⟨v, hv, rv⟩ := r.get ho
      obtain ⟨w, hw, rw'⟩ := M'.sl k t hk
      rw [map_some_get] at hw
      rw [hv] at hw; cases hw
      refine ⟨v, rv, ?_⟩
      cases t with
      | d x => exact rw'
      | own xs =>
        obtain ⟨a, us, rfl, e1, e2, e3, e4⟩ := rw'
        exact ⟨a, us, rfl, e1, e2, e3, outO_none M e4⟩
    · obtain ⟨v, ev, rv⟩ := M.sl i t hd
      refine ⟨v, ev, ?_⟩
      cases t with
      | d x => exact Rp.mono s _ _ rv
      | own xs =>
        obtain ⟨a, us, rfl, e1, e2, e3, e4⟩ := rv
        have eo : outO O H σ δ os a = some (.lst us) := by rw [outO_in hd ev hn]; exact e1
        exact ⟨a, us, rfl, M'.oh _ _ eo, e2.mono s _ _, (M'.dj a).resolve_right (by rw [eo]; exact fun z => nomatch z), e4⟩
    · omega
  · have own : ∀ {i : Nat} {xs : List D}, (putBack os δo δ)[i]? = some (some (.own xs)) → ∃ zs, δ[i]? = some (some (.own zs)) := fun h => by
      rcases putBack_get h with ⟨k, ho, _⟩ | ⟨_, hd⟩ | hz
      · exact lentown ho
      · exact ⟨_, hd⟩
      · omega
    obtain ⟨z1, e1⟩ := own h1
    obtain ⟨z2, e2⟩ := own h2
    exact M.ap i j z1 z2 v e1 e2 h3 h4
theorem RpT.exit {F' H' : Hp} {δo : Dl} {v : V} {t : S} (M : Ms g O F H σ δ) (r : RpOs g F σ vs os) (hl : os.length ≤ δo.length) (h : RpT g (outO O H σ δ os) F' H' (vs.map some) δo v t) : RpT g O F' H' σ (putBack os δo δ) v t := by
  cases t with
  | d x => exact h
  | own xs =>
    obtain ⟨⟨a, us, rfl, e1, e2, e3, e4⟩, ap⟩ := h
    refine ⟨⟨a, us, rfl, e1, e2, e3, outO_none M e4⟩, fun i ys hi hs => ?_⟩
    rcases putBack_get hi with ⟨k, ho, hk⟩ | ⟨hn, hd⟩ | hz
    · obtain ⟨w, hw, rw'⟩ := r.get ho
      have rw2 : σ[i]? = some (some w) := rw'
      rw [hs] at rw2; cases rw2
      exact ap k ys hk (map_some_get.mpr hw)
    · rw [outO_in hd hs hn] at e4
      obtain ⟨us', h1, _⟩ := M.own_at hd hs
      rw [h1] at e4; cases e4
    · omega
end
end Ev

set_option Elab.async false
set_option linter.all false
set_option maxRecDepth 100000
namespace Ev
open PySem PySem.Spec PyProof.Rows L2

/-- the end of a call: the callee runs on what the operands are worth -/
def callEnd (fn : Fn) (os : List Op) : M R := fun δ => match ssOf δ os with
  | none => none
  | some ss => if ndp (slotsIn os) then match fn ss with
    | none => none
    | some (.ok s δo) => if os.length ≤ δo.length then some (.ok s.toR (putBack os δo δ)) else none
    | some (.err e δo) => if os.length ≤ δo.length then some (.err e (putBack os δo δ)) else none
  else none
/-- f(..): dd the defaults behind the written arguments -/
def callD (fn : Fn) (as : List Ag) (dd : List D) : M R := bindM (agsM as) fun os => callEnd fn (os ++ dd.map Op.d)
theorem RpT.toR {g : Gx} {O F H : Hp} {σ : L2.St} {δ : Dl} {v : V} {s : S} (h : RpT g O F H σ δ v s) : RpR g O F H σ δ v s.toR := by cases s <;> exact h
theorem callEnd_ok {g : Gx} {E : WS} {O F H : Hp} {σ : L2.St} {δ : Dl} {n : Nat} {fn : Fn} {os : List Op} {vs : List V} {Q : VK} (M : Ms g O F H σ δ) (r : RpOs g F σ vs os) (hn : os.length = n)
    (w : wp g O F σ δ (callEnd fn os) (fun F' H' δ' r => ∀ v, RpR g O F' H' σ δ' v r → Q v H') (eE g (E σ))) : spOf g n fn vs H Q (E σ) := by
  unfold wp at w
  unfold callEnd at w
  cases es : ssOf δ os with
  | none => rw [es] at w; exact w.elim
  | some ss =>
    rw [es] at w
    simp only at w
    by_cases nd : ndp (slotsIn os) = true
    · rw [if_pos nd] at w
      have nd' := ndp_ok nd
      refine ⟨by rw [r.len, hn], outO O H σ δ os, F, ss, by rw [ssOf_len es, hn], M.entry r es nd', ?_⟩
      unfold wp
      simp only
      cases ef : fn ss with
      | none => rw [ef] at w; exact w.elim
      | some x =>
        rw [ef] at w
        cases x with
        | ok s δo =>
          simp only at w
          by_cases hl : os.length ≤ δo.length
          · rw [if_pos hl] at w
            intro F' H' s' M' v hv
            exact w F' H' s' (M.exit r es nd' hl s' M') v (hv.exit M r hl).toR
          · rw [if_neg hl] at w; exact w.elim
        | err e δo =>
          simp only at w
          by_cases hl : os.length ≤ δo.length
          · rw [if_pos hl] at w
            intro F' H' s' M' c dd hc
            exact w F' H' s' (M.exit r es nd' hl s' M') c dd hc
          · rw [if_neg hl] at w; exact w.elim
    · rw [if_neg nd] at w; exact w.elim
section
variable {X : Cx} {E : WS} {e : Expr} {es : List Expr} {x : Str} {p pos : Pos}
theorem pa_ag_nil : PA X [] (tOs (gx X) E (agsM [])) := pa_nil.imp fun σ H Q ⟨O, F, δ, M, w⟩ => wp_ret M w [] .nil
theorem pa_ag_val {m : M R} {as : List Ag} (h : PE X e (tR (gx X) E m)) (hr : PA X es (tOs (gx X) E (agsM as))) (hs : starEach (e :: es) X.env = (false, eval e X.env) :: starEach es X.env) : PA X (e :: es) (tOs (gx X) E (agsM (.val m :: as))) := by
  refine (pa_cons (pr_dat h) hr hs).imp fun σ H Q ⟨O, F, δ, M, w⟩ => ⟨O, F, δ, M, wp_mono (wp_bind w) fun F1 H1 δ1 x s1 M1 w1 v hv => ?_⟩
  exact ⟨O, F1, δ1, M1, wp_mono (wp_bind w1) fun F2 H2 δ2 xs s2 M2 w2 vs hvs => wp_ret M2 w2 _ (.cons (Rp.mono s2 _ _ hv) hvs)⟩
theorem pa_ag_rf {j : Nat} {as : List Ag} (h : PE X e (tR (gx X) E (slotM j))) (hr : PA X es (tOs (gx X) E (agsM as))) (hs : starEach (e :: es) X.env = (false, eval e X.env) :: starEach es X.env) : PA X (e :: es) (tOs (gx X) E (agsM (.rf j :: as))) := by
  refine (pa_cons (pr_opd h) hr hs).imp fun σ H Q ⟨O, F, δ, M, w⟩ => ⟨O, F, δ, M, wp_mono (wp_bind w) fun F1 H1 δ1 x s1 M1 w1 v hv => ?_⟩
  exact ⟨O, F1, δ1, M1, wp_mono (wp_bind w1) fun F2 H2 δ2 xs s2 M2 w2 vs hvs => wp_ret M2 w2 _ (.cons (hv.mono s2) hvs)⟩
theorem RpOs.append {g : Gx} {F : Hp} {σ : L2.St} : ∀ {vs ws : List V} {os ps : List Op}, RpOs g F σ vs os → RpOs g F σ ws ps → RpOs g F σ (vs ++ ws) (os ++ ps)
  | _, _, _, _, .nil, h => h
  | _, _, _, _, .cons a b, h => .cons a (RpOs.append b h)
/-- a global def that may be called -/
structure Has (X : Cx) (E : WS) (x : Str) (n : Nat) (fn : Fn) : Prop where
  ex : ∃ (f : Addr) (fd : FuncData) (ps : List Str) (k : Nat), FnOk X.prog X.w X.K X.mg X.base (L2.CX X.prog X.w) k f fd ps (spOf (gx X) n fn) ∧ ps.length = n ∧ Room k X.A ∧ X.mg x = some (.ref f) ∧ PySem.W.keepIn X.K (.ref f) = true ∧ Binds X.K fd ps []
  px : ∀ σ, PassesAt (L2.CX X.prog X.w) X σ (E σ)
theorem agsM_len : ∀ {as : List Ag} {δ δ' : Dl} {os : List Op}, agsM as δ = some (.ok os δ') → os.length = as.length
  | [], _, _, _, h => by cases h; rfl
  | .val m :: as, _, _, _, h => by
    obtain ⟨x, δ1, _, h⟩ := bind_ok h
    obtain ⟨xs, δ2, h2, h⟩ := bind_ok h
    cases h
    rw [List.length_cons, List.length_cons, agsM_len h2]
  | .rf j :: as, _, _, _, h => by
    obtain ⟨x, δ1, _, h⟩ := bind_ok h
    obtain ⟨xs, δ2, h2, h⟩ := bind_ok h
    cases h
    rw [List.length_cons, List.length_cons, agsM_len h2]
theorem wp_lenA {g : Gx} {O F : Hp} {σ : L2.St} {δ : Dl} {as : List Ag} {ok : Hp → Hp → Dl → List Op → Prop} {er} (h : wp g O F σ δ (agsM as) ok er) : wp g O F σ δ (agsM as) (fun F' H' δ' xs => xs.length = as.length ∧ ok F' H' δ' xs) er := by
  unfold wp at h ⊢
  cases e : agsM as δ with
  | none => rw [e] at h; exact h
  | some r => cases r with
    | err x d => rw [e] at h; exact h
    | ok xs d => rw [e] at h; exact fun F' H' s M => ⟨agsM_len e, h F' H' s M⟩
theorem pr_call {n : Nat} {fn : Fn} {as : List Ag} (hh : Has X E x n fn) (hg : Gl X x) (ha : PA X (e :: es) (tOs (gx X) E (agsM as))) (hl : as.length = n) (hdb : (x == ("__debug__" : Str)) = false) (he : starEach (e :: es) X.env = (false, eval e X.env) :: starEach es X.env) (hpl : (backTo pos (starEach es X.env)).any (·.1) = false) :
    PE X (.Call (.Name x p) (e :: es) [] pos) (tR (gx X) E (callD fn as [])) := by
  obtain ⟨⟨f, fd, ps, k, F, hps, hr, hm, hk, hb⟩, hx⟩ := hh
  refine (pe_callSD (E := E) F hr hg hm hk hb (.nil) hx ha hdb he hpl).imp fun σ H Q ⟨O, F, δ, M, w⟩ => ⟨O, F, δ, M, wp_mono (wp_lenA (wp_bind w)) fun F1 H1 δ1 os s1 M1 w1 vs hv => ?_⟩
  have w2 := w1.2
  simp only [List.map_nil, List.append_nil] at w2
  show spOf (gx X) n fn (vs ++ []) H1 Q (E σ)
  rw [List.append_nil]
  exact callEnd_ok M1 hv (by rw [w1.1, hl]) w2
end

/-! ### a def's body as a function -/
def outs : List S → Dl → Option Dl
  | [], _ => some []
  | .d x :: r, _ :: δ => (outs r δ).map (some (.d x) :: ·)
  | .own _ :: r, some (.own ys) :: δ => (outs r δ).map (some (.own ys) :: ·)
  | _, _ => none
def lentIs : List Nat → Nat → List S → Bool
  | _, _, [] => true
  | L, i, .d _ :: r => !L.contains i && lentIs L (i + 1) r
  | L, i, .own _ :: r => L.contains i && lentIs L (i + 1) r
/-- n parameters, k more names, L the parameters by reference -/
def bodyFn (n k : Nat) (L : List Nat) (m : M Fl) : Fn := fun ss => if ss.length = n ∧ lentIs L 0 ss = true then match m (ss.map some ++ List.replicate k none) with
  | some (.ok (.ret s) δ) => (outs ss δ).map fun o => .ok s o
  | some (.ok .next δ) => (outs ss δ).map fun o => .ok (.d .non) o
  | some (.err e δ) => (outs ss δ).map fun o => .err e o
  | _ => none
  else none
theorem outs_get : ∀ {ss : List S} {δ o : Dl} {i : Nat} {t : S}, outs ss δ = some o → o[i]? = some (some t) → (∃ x, ss[i]? = some (.d x) ∧ t = .d x) ∨ (∃ xs ys, ss[i]? = some (.own xs) ∧ t = .own ys ∧ δ[i]? = some (some (.own ys)))
  | [], _, _, _, _, h, h2 => by simp [outs] at h; subst h; simp at h2
  | .d x :: r, [], _, _, _, h, _ => by simp [outs] at h
  | .d x :: r, y :: δ, o, i, t, h, h2 => by
    simp only [outs, Option.map_eq_some_iff] at h
    obtain ⟨o', h1, rfl⟩ := h
    cases i with
    | zero => simp at h2; subst h2; exact .inl ⟨x, rfl, rfl⟩
    | succ i => simpa using outs_get (i := i) h1 (by simpa using h2)
  | .own xs :: r, [], _, _, _, h, _ => by simp [outs] at h
  | .own xs :: r, none :: δ, _, _, _, h, _ => by simp [outs] at h
  | .own xs :: r, some (.d _) :: δ, _, _, _, h, _ => by simp [outs] at h
  | .own xs :: r, some (.own ys) :: δ, o, i, t, h, h2 => by
    simp only [outs, Option.map_eq_some_iff] at h
    obtain ⟨o', h1, rfl⟩ := h
    cases i with
    | zero => simp at h2; subst h2; exact .inr ⟨xs, ys, rfl, rfl, rfl⟩
    | succ i => simpa using outs_get (i := i) h1 (by simpa using h2)
theorem lentIs_at : ∀ {ss : List S} {L : List Nat} {k i : Nat} {xs : List D}, lentIs L k ss = true → ss[i]? = some (.own xs) → k + i ∈ L
  | [], _, _, _, _, _, h => by simp at h
  | .d x :: r, L, k, 0, _, _, h => by simp at h
  | .d x :: r, L, k, i + 1, xs, h, h2 => by
    simp only [lentIs, Bool.and_eq_true] at h
    have := lentIs_at (i := i) (xs := xs) h.2 (by simpa using h2)
    rw [show k + (i + 1) = k + 1 + i by omega]; exact this
  | .own ys :: r, L, k, 0, _, h, _ => by
    simp only [lentIs, Bool.and_eq_true, List.contains_eq_mem, decide_eq_true_eq] at h
    simpa using h.1
  | .own ys :: r, L, k, i + 1, xs, h, h2 => by
    simp only [lentIs, Bool.and_eq_true] at h
    have := lentIs_at (i := i) (xs := xs) h.2 (by simpa using h2)
    rw [show k + (i + 1) = k + 1 + i by omega]; exact this
theorem start_get {N : List Str} {vs : List V} {i : Nat} {v : V} : (L2.start N vs)[i]? = some (some v) ↔ vs[i]? = some v := by
  unfold L2.start
  by_cases h : i < vs.length
  · rw [List.getElem?_append_left (by simpa using h), List.getElem?_map]
    cases vs[i]? <;> simp
  · rw [List.getElem?_append_right (by simpa using h), List.getElem?_eq_none (l := vs) (by omega)]
    simp only [List.length_map]
    constructor
    · intro z
      have := List.mem_of_getElem? z
      rw [List.mem_replicate] at this
      cases this.2
    · intro z; cases z
theorem init_get {ss : List S} {k i : Nat} {s : S} : (ss.map some ++ List.replicate k none)[i]? = some (some s) ↔ ss[i]? = some s := by
  by_cases h : i < ss.length
  · rw [List.getElem?_append_left (by simpa using h), List.getElem?_map]
    cases ss[i]? <;> simp
  · rw [List.getElem?_append_right (by simpa using h), List.getElem?_eq_none (l := ss) (by omega)]
    simp only [List.length_map]
    constructor
    · intro z
      have := List.mem_of_getElem? z
      rw [List.mem_replicate] at this
      cases this.2
    · intro z; cases z
section
variable {g : Gx} {O F H : Hp} {N : List Str} {vs : List V} {ss : List S} {k : Nat}
theorem Ms.start (M : Ms g O F H (vs.map some) (ss.map some)) : Ms g O F H (L2.start N vs) (ss.map some ++ List.replicate k none) := by
  refine ⟨M.fh, M.oh, M.dj, fun i s h => ?_, fun i j xs ys v h1 h2 h3 h4 => ?_⟩
  · rw [init_get] at h
    obtain ⟨v, ev, r⟩ := M.sl i s (map_some_get'.mpr h)
    exact ⟨v, start_get.mpr (map_some_get.mp ev), r⟩
  · rw [init_get] at h1 h2
    rw [start_get] at h3 h4
    exact M.ap i j xs ys v (map_some_get'.mpr h1) (map_some_get'.mpr h2) (map_some_get.mpr h3) (map_some_get.mpr h4)
theorem Ms.finish {F' H' : Hp} {L : List Nat} {σ' : L2.St} {δ' o : Dl} (M : Ms g O F H (vs.map some) (ss.map some)) (s : Same F F') (hl : lentIs L 0 ss = true) (kp : Keep L (L2.start N vs) σ') (M' : Ms g O F' H' σ' δ') (ho : outs ss δ' = some o) : Ms g O F' H' (vs.map some) o := by
  have lent : ∀ {i : Nat} {xs : List D} {v : V}, ss[i]? = some (.own xs) → vs[i]? = some v → σ'[i]? = some (some v) := fun h1 h2 => by
    rw [kp.2 _ (by simpa using lentIs_at hl h1)]
    exact start_get.mpr h2
  refine ⟨M'.fh, M'.oh, M'.dj, fun i t h => ?_, fun i j xs ys v h1 h2 h3 h4 => ?_⟩
  · rcases outs_get ho h with ⟨x, e1, rfl⟩ | ⟨xs, ys, e1, rfl, e2⟩
    · obtain ⟨v, ev, r⟩ := M.sl i _ (map_some_get'.mpr e1)
      exact ⟨v, ev, Rp.mono s _ _ r⟩
    · obtain ⟨v, ev, r⟩ := M.sl i _ (map_some_get'.mpr e1)
      obtain ⟨w, ew, rw'⟩ := M'.sl i _ e2
      have := lent e1 (map_some_get.mp ev)
      rw [this] at ew; cases ew
      exact ⟨v, ev, rw'⟩
  · rcases outs_get ho h1 with ⟨x, _, z⟩ | ⟨xs1, ys1, e1, _, e2⟩
    · cases z
    rcases outs_get ho h2 with ⟨x, _, z⟩ | ⟨xs2, ys2, f1, _, f2⟩
    · cases z
    exact M'.ap i j _ _ v e2 f2 (lent e1 (map_some_get.mp h3)) (lent f1 (map_some_get.mp h4))
theorem RpT.finish {F' H' : Hp} {L : List Nat} {σ' : L2.St} {δ' o : Dl} {v : V} {t : S} (hl : lentIs L 0 ss = true) (kp : Keep L (L2.start N vs) σ') (ho : outs ss δ' = some o) (h : RpT g O F' H' σ' δ' v t) : RpT g O F' H' (vs.map some) o v t := by
  cases t with
  | d x => exact h
  | own xs =>
    refine ⟨h.1, fun i ys hi hs => ?_⟩
    rcases outs_get ho hi with ⟨x, _, z⟩ | ⟨xs1, ys1, e1, _, e2⟩
    · cases z
    · refine h.2 i _ e2 ?_
      rw [kp.2 _ (by simpa using lentIs_at hl e1)]
      exact start_get.mpr (map_some_get.mp hs)
end
/-- at a body's end: what it promised -/
theorem body_end {g : Gx} {N : List Str} {vs : List V} {H : Hp} {Q : VK} {E : XK} {n nk : Nat} {L : List Nat} {m : M Fl} (h : spOf g n (bodyFn n nk L m) vs H Q E) : tS g (fun _ => E) L m { nx := fun _ H' => Q .non H', rt := Q } (L2.start N vs) H := by
  obtain ⟨hl, O, F, ss, hs, M, h⟩ := h
  refine ⟨O, F, ss.map some ++ List.replicate nk none, M.start, ?_⟩
  unfold wp bodyFn at h
  simp only at h
  split at h
  · exact h.elim
  · rename_i t o e1
    split at e1
    · rename_i hc
      split at e1
      · rename_i t' δ' em
        rw [Option.map_eq_some_iff] at e1
        obtain ⟨o', eo, e1⟩ := e1
        cases e1
        unfold wps; rw [em]
        exact fun F' H' σ' s' kp M' v hv => h F' H' s' (M.finish s' hc.2 kp M' eo) v (hv.finish hc.2 kp eo)
      · rename_i δ' em
        rw [Option.map_eq_some_iff] at e1
        obtain ⟨o', eo, e1⟩ := e1
        cases e1
        unfold wps; rw [em]
        exact fun F' H' σ' s' kp M' => h F' H' s' (M.finish s' hc.2 kp M' eo) _ .non
      · rw [Option.map_eq_some_iff] at e1
        obtain ⟨o', eo, e1⟩ := e1
        cases e1
      · cases e1
    · cases e1
  · rename_i e o e1
    split at e1
    · rename_i hc
      split at e1
      · rw [Option.map_eq_some_iff] at e1
        obtain ⟨o', eo, e1⟩ := e1
        cases e1
      · rw [Option.map_eq_some_iff] at e1
        obtain ⟨o', eo, e1⟩ := e1
        cases e1
      · rename_i e' δ' em
        rw [Option.map_eq_some_iff] at e1
        obtain ⟨o', eo, e1⟩ := e1
        cases e1
        unfold wps; rw [em]
        exact fun F' H' σ' c dd s' kp M' hc' => h F' H' s' (M.finish s' hc.2 kp M' eo) c dd hc'
      · cases e1
    · cases e1
end Ev

set_option Elab.async false
set_option linter.all false
set_option maxRecDepth 100000
namespace Ev
open PySem PySem.Spec PyProof.Rows L2

/-! ### calls by any pattern: np written arguments, keywords ks, the defaults dd; sel: the parameters' places among them -/
def pick {α : Type} (sel : List Nat) (l : List α) : List α := sel.filterMap (l[·]?)
structure HasP (X : Cx) (E : WS) (x : Str) (n np : Nat) (ks : List Str) (dd : List D) (sel : List Nat) (fn : Fn) : Prop where
  ex : ∃ (f : Addr) (fd : FuncData) (ps : List Str) (k : Nat) (dvs : List V) (ds : List Value), FnOk X.prog X.w X.K X.mg X.base (L2.CX X.prog X.w) k f fd ps (spOf (gx X) n fn) ∧ ps.length = n ∧ Room k X.A ∧ X.mg x = some (.ref f) ∧ PySem.W.keepIn X.K (.ref f) = true ∧
    Vals dvs ds ∧ (∀ F, RpA (gx X) F dvs dd) ∧ ∀ (s : Shared) (us ws : List Value), X.K.In s.heap → us.length = np → ws.length = ks.length → BindsTo s fd ⟨us, ks.zip ws⟩ (ps.zip (pick sel (us ++ ws ++ ds)))
  sl : ∀ {α : Type} (l : List α), l.length = np + ks.length + dd.length → (pick sel l).length = n
  px : ∀ σ, PassesAt (L2.CX X.prog X.w) X σ (E σ)
def callG (fn : Fn) (sel : List Nat) (dd : List D) (as : List Ag) (kw : List (M R)) : M R := bindM (agsM as) fun os => bindM (argsM kw) fun zs => callEnd fn (pick sel (os ++ zs.map Op.d ++ dd.map Op.d))
theorem Vals.pick {xs : List V} {us : List Value} (r : Vals xs us) : ∀ sel : List Nat, Vals (Ev.pick sel xs) (Ev.pick sel us)
  | [] => .nil
  | i :: sel => by
    have ih := Vals.pick r sel
    unfold Ev.pick at ih ⊢
    rw [List.filterMap_cons, List.filterMap_cons]
    cases e : xs[i]? with
    | none => rw [r.none_of e]; exact ih
    | some x =>
      obtain ⟨u, eu, ru⟩ := r.get e
      rw [eu]; exact .cons ru ih
theorem RpOs.get' {g : Gx} {F : Hp} {σ : L2.St} : ∀ {vs : List V} {os : List Op} {k : Nat} {v : V}, RpOs g F σ vs os → vs[k]? = some v → ∃ o, os[k]? = some o ∧ RpO g F σ v o
  | _, _, _, _, .nil, h => by simp at h
  | _, _, 0, _, .cons a _, h => by simp at h; subst h; exact ⟨_, rfl, a⟩
  | _, _, k + 1, o, .cons _ b, h => by simpa using RpOs.get' (k := k) b (by simpa using h)
theorem RpOs.pick {g : Gx} {F : Hp} {σ : L2.St} {vs : List V} {os : List Op} (r : RpOs g F σ vs os) : ∀ sel : List Nat, RpOs g F σ (Ev.pick sel vs) (Ev.pick sel os)
  | [] => .nil
  | i :: sel => by
    have ih := RpOs.pick r sel
    unfold Ev.pick at ih ⊢
    rw [List.filterMap_cons, List.filterMap_cons]
    cases e : vs[i]? with
    | none =>
      have : os[i]? = none := by
        rw [List.getElem?_eq_none_iff] at e ⊢
        rw [← r.len]; exact e
      rw [this]; exact ih
    | some x =>
      obtain ⟨u, eu, ru⟩ := r.get' e
      rw [eu]; exact .cons ru ih
theorem RpA.ops {g : Gx} {F : Hp} {σ : L2.St} : ∀ {vs : List V} {ds : List D}, RpA g F vs ds → RpOs g F σ vs (ds.map Op.d)
  | _, _, .nil => .nil
  | _, _, .cons a b => .cons a b.ops
section
variable {X : Cx} {E : WS} {e : Expr} {es : List Expr} {kws : List Keyword} {x : Str} {p pos : Pos} {n np : Nat} {ks : List Str} {dd : List D} {sel : List Nat} {fn : Fn}
theorem pk_nil' : PK X [] (tAs (gx X) E (argsM [])) := ⟨fun po pins s σ H Q I ⟨O, F, δ, M, w⟩ => pk_nil.run po pins s σ H Q I (wp_ret M w [] .nil)⟩
theorem pk_cons' {m : M R} {ms : List (M R)} {nm : Option Str} {kpos : Pos} (h : PE X e (tR (gx X) E m)) (hr : PK X kws (tAs (gx X) E (argsM ms))) : PK X (⟨nm, e, kpos⟩ :: kws) (tAs (gx X) E (argsM (m :: ms))) := by
  refine ⟨fun po pins s σ H Q I w => (pk_cons (nm := nm) (kpos := kpos) (pr_dat h) hr).run po pins s σ H Q I ?_⟩
  obtain ⟨O, F, δ, M, w⟩ := w
  refine ⟨O, F, δ, M, wp_mono (wp_bind w) fun F1 H1 δ1 x s1 M1 w1 v hv => ?_⟩
  exact ⟨O, F1, δ1, M1, wp_mono (wp_bind w1) fun F2 H2 δ2 xs s2 M2 w2 vs hvs => wp_ret M2 w2 _ (.cons (Rp.mono s2 _ _ hv) hvs)⟩
theorem run_G {pins : List (Addr × Obj)} {σ : L2.St} {H O F : Hp} {δ : Dl} {s : Shared} {Q : VK} {us ws : List Value} {vs zs : List V} {os : List Op} {zd : List D} (I : Inv X pins σ H s) (hsl : ∀ {α : Type} (l : List α), l.length = np + ks.length + dd.length → (pick sel l).length = n)
    (hx : ∀ σ, PassesAt (L2.CX X.prog X.w) X σ (E σ)) {f : Addr} {fd : FuncData} {ps : List Str} {k : Nat} {dvs : List V} {ds : List Value} (Fo : FnOk X.prog X.w X.K X.mg X.base (L2.CX X.prog X.w) k f fd ps (spOf (gx X) n fn)) (hr : Room k X.A) (rd : Vals dvs ds) (rdd : ∀ F, RpA (gx X) F dvs dd)
    (hb : ∀ (s : Shared) (us ws : List Value), X.K.In s.heap → us.length = np → ws.length = ks.length → BindsTo s fd ⟨us, ks.zip ws⟩ (ps.zip (pick sel (us ++ ws ++ ds)))) (r : Vals vs us) (rz : Vals zs ws) (ln : vs.length = np) (lk : zs.length = ks.length) (M : Ms (gx X) O F H σ δ) (ro : RpOs (gx X) F σ vs os) (rzd : RpA (gx X) F zs zd)
    (w : wp (gx X) O F σ δ (callEnd fn (pick sel (os ++ zd.map Op.d ++ dd.map Op.d))) (fun F' H' δ' r => ∀ v, RpR (gx X) O F' H' σ δ' v r → Q v H') (eE (gx X) (E σ))) :
    wpAny (model X.prog X.w) X.A (call (.ref f) us (ks.zip ws)) (EP X pins σ Q) X.xe s := by
  have rfull : Vals (pick sel (vs ++ zs ++ dvs)) (pick sel (us ++ ws ++ ds)) := Vals.pick ((r.append rz).append rd) sel
  have ro2 : RpOs (gx X) F σ (pick sel (vs ++ zs ++ dvs)) (pick sel (os ++ zd.map Op.d ++ dd.map Op.d)) := RpOs.pick ((ro.append rzd.ops).append (rdd F).ops) sel
  have hl : (pick sel (os ++ zd.map Op.d ++ dd.map Op.d)).length = n := hsl _ (by rw [List.length_append, List.length_append, List.length_map, List.length_map, ← ro.len, ← rzd.length, ln, lk])
  have sp := callEnd_ok (n := n) M ro2 hl w
  refine wpAny_call (codeAny_mono (Fo.run X.A X.stack s H ⟨us, ks.zip ws⟩ _ _ Q (E σ) hr I.env0 (hb s us ws I.kIn (by rw [← r.length, ln]) (by rw [← rz.length, lk])) rfull sp) fun r s' hq => ?_)
  cases r with
  | error e => exact hx σ pins H s e s' I hq
  | ok fl =>
    cases fl with
    | ret u => exact I.after hq
    | next => exact False.elim hq
    | brk => exact False.elim hq
    | cont => exact False.elim hq
theorem pr_callG {as : List Ag} {kw : List (M R)} (hh : HasP X E x n np ks dd sel fn) (hg : Gl X x) (ha : PA X (e :: es) (tOs (gx X) E (agsM as))) (hkw : PK X kws (tAs (gx X) E (argsM kw))) (hl : as.length = np) (hlk : kw.length = ks.length) (hdb : (x == ("__debug__" : Str)) = false)
    (hall : (backToKw pos (keywordEach kws X.env)).all (·.1.isSome) = true) (hks : (backToKw pos (keywordEach kws X.env)).filterMap (·.1) = ks) (he : starEach (e :: es) X.env = (false, eval e X.env) :: starEach es X.env)
    (hpl : ((backTo pos (starEach (e :: es) X.env)).any (·.1) || (backToKw pos (keywordEach kws X.env)).any (·.1.isNone)) = false) :
    PE X (.Call (.Name x p) (e :: es) kws pos) (tR (gx X) E (callG fn sel dd as kw)) := by
  obtain ⟨⟨f, fd, ps, k, dvs, ds, Fo, hps, hr, hm, hk, rd, rdd, hb⟩, hsl, hx⟩ := hh
  refine ⟨fun pins s σ H Q I ⟨O, F, δ, M, w⟩ => ?_⟩
  refine wpAny_Call_Name_kw (ld_glob I hg hm ?_ hdb)
  refine PySem.W.callWith_KW (h₀ := X.base) I.ok.mod.kin hk hall (thn (ha.run pos pins s σ H (fun vs H1 => tAs (gx X) E (argsM kw) σ H1 fun zs H2 => ∃ F2 δ2 os zd, Ms (gx X) O F2 H2 σ δ2 ∧ RpOs (gx X) F2 σ vs os ∧ RpA (gx X) F2 zs zd ∧ os.length = np ∧ zd.length = ks.length ∧ wp (gx X) O F2 σ δ2 (callEnd fn (pick sel (os ++ zd.map Op.d ++ dd.map Op.d))) (fun F' H' δ' r => ∀ v, RpR (gx X) O F' H' σ δ' v r → Q v H') (eE (gx X) (E σ))) I ?_) fun us s1 ⟨vs, H1, I1, r, q⟩ => ?_) hpl he
  · exact ⟨O, F, δ, M, wp_mono (wp_lenA (wp_bind w)) fun F1 H1 δ1 os s1 M1 w1 vs hv => ⟨O, F1, δ1, M1, wp_mono (wp_len (wp_bind w1.2)) fun F2 H2 δ2 zd s2 M2 w2 zs hz => ⟨F2, δ2, os, zd, M2, hv.mono s2, hz, by rw [w1.1, hl], by rw [w2.1, hlk], w2.2⟩⟩⟩
  · refine thn (hkw.run pos pins s1 σ H1 _ I1 q) fun ws s2 ⟨zs, H2, I2, rz, F2, δ2, os, zd, M2, hv, hz, l1, l2, w2⟩ => ⟨I2.kIn, ?_⟩
    rw [hks]
    exact run_G I2 hsl hx Fo hr rd rdd hb r rz (by rw [hv.len, l1]) (by rw [hz.length, l2]) M2 hv hz w2
theorem pr_callG0 {kw : List (M R)} (hh : HasP X E x n np ks dd sel fn) (hg : Gl X x) (hkw : PK X kws (tAs (gx X) E (argsM kw))) (hl : np = 0) (hlk : kw.length = ks.length) (hdb : (x == ("__debug__" : Str)) = false)
    (hall : (backToKw pos (keywordEach kws X.env)).all (·.1.isSome) = true) (hks : (backToKw pos (keywordEach kws X.env)).filterMap (·.1) = ks)
    (hpl : ((backTo pos (starEach [] X.env)).any (·.1) || (backToKw pos (keywordEach kws X.env)).any (·.1.isNone)) = false) :
    PE X (.Call (.Name x p) [] kws pos) (tR (gx X) E (callG fn sel dd [] kw)) := by
  obtain ⟨⟨f, fd, ps, k, dvs, ds, Fo, hps, hr, hm, hk, rd, rdd, hb⟩, hsl, hx⟩ := hh
  refine ⟨fun pins s σ H Q I ⟨O, F, δ, M, w⟩ => ?_⟩
  refine wpAny_Call_Name_kw (ld_glob I hg hm ?_ hdb)
  refine PySem.W.callWith_KW0 (h₀ := X.base) I.ok.mod.kin hk hall (thn (hkw.run pos pins s σ H (fun zs H2 => ∃ F2 δ2 zd, Ms (gx X) O F2 H2 σ δ2 ∧ RpA (gx X) F2 zs zd ∧ zd.length = ks.length ∧ wp (gx X) O F2 σ δ2 (callEnd fn (pick sel (([] : List Op) ++ zd.map Op.d ++ dd.map Op.d))) (fun F' H' δ' r => ∀ v, RpR (gx X) O F' H' σ δ' v r → Q v H') (eE (gx X) (E σ))) I ?_) fun ws s2 ⟨zs, H2, I2, rz, F2, δ2, zd, M2, hz, l2, w2⟩ => ⟨I2.kIn, ?_⟩) hpl
  · have w1 := wp_bind w
    have w2 := wp_ret M w1
    exact ⟨O, F, δ, M, wp_mono (wp_len (wp_bind w2)) fun F2 H2 δ2 zd s2 M2 w2 zs hz => ⟨F2, δ2, zd, M2, hz, by rw [w2.1, hlk], w2.2⟩⟩
  · rw [hks]
    exact run_G (us := []) (vs := []) (os := []) I2 hsl hx Fo hr rd rdd hb .nil rz (by rw [hl]; rfl) (by rw [hz.length, l2]) M2 .nil hz w2
end

/-! ### isinstance with one type, with a written tuple of types -/
section
variable {X : Cx} {g : Gx} {E : WS} {a : Expr} {p pos tpos : Pos}
def isiD (ns : List String) (d : D) : Option S := match d.tyn with
  | some t => (kitAny' t ns).map fun b => .d (.bl b)
  | none => none
def isi1D (n : String) (d : D) : Option S := match d.tyn with
  | some t => (kitB t n).map fun b => .d (.bl b)
  | none => none
/-- a name of a built-in type -/
structure TyN (X : Cx) (e : Expr) (n : String) : Prop where
  pe : PE X e (tC (.ty n))
  st : starEach [e] X.env = [(false, eval e X.env)]
theorem pr_isi1 {b : Expr} {n : String} {ma : M R} (hg : Gl X "isinstance") (hm : X.mg "isinstance" = none) (hb : PE X b (tC (.ty n))) (ha : PE X a (tR (gx X) E ma)) (hs : starEach [a, b] X.env = (false, eval a X.env) :: starEach [b] X.env) (hs2 : starEach [b] X.env = [(false, eval b X.env)]) (hpl : (backTo pos (starEach [b] X.env)).any (·.1) = false) :
    PE X (.Call (.Name "isinstance" p) [a, b] [] pos) (tR (gx X) E (op1 (isi1D n) ma)) := by
  refine (pe_callB call_isi hg hm rfl (pa_cons (pr_opd ha) (pa_cons hb pa_nil hs2) hs) (by decide) (by decide) hs hpl).imp fun σ H Q w => ?_
  refine t_op1 (r := fun x H Q => rIsi X.K [x, .ty n] H Q) (fun O F H x d s Q fh bx ef q => ?_) w
  unfold isi1D at ef
  split at ef
  · rename_i t ht
    rw [Option.map_eq_some_iff] at ef
    obtain ⟨b, eb, rfl⟩ := ef
    exact ⟨x, .ty n, .type t, .type n, b, rfl, .ty n, bx.tyx fh ht, kit_ty eb, q_bl fh q⟩
  · cases ef
/-- a row of names of built-in types -/
theorem pa_tys : ∀ {es : List Expr} {ns : List String}, (Paired (fun e n => PE X e (tC (.ty n)) ∧ ∀ r : List Expr, starEach (e :: r) X.env = (false, eval e X.env) :: starEach r X.env) es ns) → PA X es (fun _ H Q => Q (ns.map V.ty) H)
  | _, _, .nil => pa_nil
  | _, _, .cons h t => (pa_cons h.1 (pa_tys t) (h.2 _)).imp fun σ H Q q => q
theorem pr_isiT {es : List Expr} {ns : List String} {k : Nat} {ma : M R} (hg : Gl X "isinstance") (hm : X.mg "isinstance" = none) (hb : Paired (fun e n => PE X e (tC (.ty n)) ∧ ∀ r : List Expr, starEach (e :: r) X.env = (false, eval e X.env) :: starEach r X.env) es ns) (hl : ns.length ≤ 1000) (ha : PE X a (tR (gx X) E ma))
    (hs : starEach [a, .Tuple es k tpos] X.env = (false, eval a X.env) :: starEach [.Tuple es k tpos] X.env) (hs2 : starEach [.Tuple es k tpos] X.env = [(false, eval (.Tuple es k tpos) X.env)]) (hpl : (backTo pos (starEach [.Tuple es k tpos] X.env)).any (·.1) = false) :
    PE X (.Call (.Name "isinstance" p) [a, .Tuple es k tpos] [] pos) (tR (gx X) E (op1 (isiD ns) ma)) := by
  refine (pe_callB call_isiT hg hm rfl (pa_cons (pr_opd ha) (pa_cons (pe_tup (pa_tys hb)) pa_nil hs2) hs) (by decide) (by decide) hs hpl).imp fun σ H Q w => ?_
  have key : O1 (gx X) (fun x H Q => ns.length ≤ sizeLine ∧ ∀ tp, H tp = none → rIsiT X.K [x, .ref tp] (upd H tp (.tup (ns.map V.ty))) Q) (isiD ns) := by
    intro O F H x d s Q fh bx ef q
    unfold isiD at ef
    split at ef
    · rename_i t ht
      rw [Option.map_eq_some_iff] at ef
      obtain ⟨b, eb, rfl⟩ := ef
      refine ⟨small_line hl, fun tp htp => ⟨x, tp, ns.map V.ty, .type t, ns.map Value.type, b, rfl, upd_same, ?_, ?_, kitAny'_ok eb, q _ _ _ (grow_tup fh htp) (.bl b)⟩⟩
      · clear hb hl eb q w
        induction ns with
        | nil => exact .nil
        | cons n r ih => exact .cons (.ty n) ih
      · have k := grow_tup (vs := ns.map V.ty) fh htp
        have bx' : Bw (gx X) O F (upd H tp (.tup (ns.map V.ty))) x d := by
          rcases bx with b1 | ⟨xs, rfl, a, vs, rfl, e1, e2, e3, e4⟩
          · exact .inl b1
          · exact .inr ⟨xs, rfl, a, vs, rfl, k.hh _ _ e1, e2, e3, e4⟩
        exact bx'.tyx (fun b o e => k.hh _ _ (fh _ _ e)) ht
    · cases ef
  obtain ⟨O, F, δ, M, z⟩ := t_op1 key w
  refine ⟨O, F, δ, M, wp_mono z fun F' H' δ' o s M' q v hv => ?_⟩
  obtain ⟨h1, h2⟩ := q v hv
  exact ⟨by rw [List.length_map]; exact h1, fun tp htp => h2 tp htp⟩
end
end Ev

set_option Elab.async false
set_option linter.all false
set_option maxRecDepth 100000
namespace Ev
open PySem PySem.Spec PyProof.Rows L2

/-! ### the compiler: what is known of a block -/
/-- a def that may be called: its name, how many parameters, which of them are lent, the ways it's called (np, keywords, defaults, places), what it does -/
structure FnI where
  x : Str
  n : Nat
  lent : List Nat
  pats : List (Nat × List Str × List D × List Nat)
  fn : Fn
structure Inf where
  N : List Str
  sc : Scope
  fc : Str → Bool
  L : List Nat
  fns : List FnI
  blt : List Str
  imp : List (Str × String)
structure InfOk (I : Inf) (X : Cx) (E : WS) : Prop where
  hN : X.N = I.N
  sc : X.env.scope = I.sc
  fc : X.fn = I.fc
  nd : I.N.Nodup
  calm : X.calm = true
  un : X.A.units + 64 < cLine
  blt : ∀ x ∈ I.blt, X.mg x = none
  imp : ∀ p ∈ I.imp, X.mg p.1 = some (.builtin p.2)
  fns : ∀ f ∈ I.fns, ∀ p ∈ f.pats, HasP X E f.x f.n p.1 p.2.1 p.2.2.1 p.2.2.2 f.fn
  pass : PassesOwn (model X.prog X.w) X.A X.env X.xe
abbrev CE (I : Inf) (e : Expr) := { m : M R // ∀ X E, InfOk I X E → PE X e (tR (gx X) E m) }
abbrev CT (I : Inf) (e : Expr) := { m : M Bool // ∀ X E, InfOk I X E → PT X e (tT (gx X) E m) }
abbrev CS (I : Inf) (st : Stmt) := { m : M Fl // ∀ X E, InfOk I X E → PS X st (tS (gx X) E I.L m) }
abbrev CI (I : Inf) (tg e : Expr) := { m : M (List D) // ∀ X E, InfOk I X E → PI X tg e (tI (gx X) E m) }
abbrev CG (I : Inf) (L : List Nat) (e : Expr) := { T : Tg // ∀ X E, InfOk I X E → PG X e (tG (gx X) L T) }
structure Rc where
  E : ∀ (I : Inf) (e : Expr), Option (CE I e)
  T : ∀ (I : Inf) (e : Expr), Option (CT I e)
  S : ∀ (I : Inf) (st : Stmt), Option (CS I st)

/-! names -/
def ixOf (x : Str) : List Str → Nat → Nat
  | [], n => n
  | y :: r, n => if y = x then n else ixOf x r (n + 1)
def kindIs (I : Inf) (x : Str) (k : NameKind) : Bool := I.sc.names.lookup x == some k
theorem kind_of {I : Inf} {x : Str} {k : NameKind} (h : I.sc.names.lookup x = some k) {X : Cx} {E : WS} (ok : InfOk I X E) : X.env.scope.names.lookup x = some k := by rw [ok.sc]; exact h
theorem Gl_of {I : Inf} {x : Str} (h : I.sc.names.lookup x = some .globalImplicit) {X : Cx} {E : WS} (ok : InfOk I X E) : Gl X x := kind_of h ok
/-- a name as a value -/
def cName (I : Inf) (x : Str) (pos : Pos) : Option (CE I (.Name x pos)) :=
  if hd : (x == ("__debug__" : Str)) = false ∧ (x == ("__classdict__" : Str)) = false then
    if hi : I.N[ixOf x I.N 0]? = some x then
      if hv : I.sc.names.lookup x = some .local ∨ I.sc.names.lookup x = some .cell ∨ I.sc.names.lookup x = some .free then
        some ⟨slotM (ixOf x I.N 0), fun X E ok => pr_name (by rw [ok.hN]; exact hi) (by unfold Vis; rw [ok.sc]; exact hv) hd.1 hd.2⟩
      else none
    else none
  else none
def cCmp (rc : Rc) (I : Inf) (a : Expr) (op : CmpOp) (b : Expr) (pos : Pos) : Option (CE I (.Compare a [op] [b] pos)) :=
  match h : cmpD op with
  | none => none
  | some f => if hm : behindInMarks op b = false then match rc.E I a, rc.E I b with
    | some ⟨ma, ha⟩, some ⟨mb, hb⟩ => some ⟨op2 f ma mb, fun X E ok => pr_cmp ok.un h (ha X E ok) (hb X E ok) hm⟩
    | _, _ => none
  else none
def tCmpC (rc : Rc) (I : Inf) (a : Expr) (op : CmpOp) (b : Expr) (pos : Pos) : Option (CT I (.Compare a [op] [b] pos)) :=
  match h : cmpD op with
  | none => none
  | some f => if hm : behindInMarks op b = false then match rc.E I a, rc.E I b with
    | some ⟨ma, ha⟩, some ⟨mb, hb⟩ => some ⟨blM (op2 f ma mb), fun X E ok => pt_cmp' ok.un h (ha X E ok) (hb X E ok) hm⟩
    | _, _ => none
  else none
def cBin (rc : Rc) (I : Inf) (a : Expr) (op : Operator) (b : Expr) (pos : Pos) : Option (CE I (.BinOp a op b pos)) :=
  match h : binD op with
  | none => none
  | some f => match rc.E I a, rc.E I b with
    | some ⟨ma, ha⟩, some ⟨mb, hb⟩ => some ⟨op2 f ma mb, fun X E ok => pr_bin h (ha X E ok) (hb X E ok)⟩
    | _, _ => none
/-! and, or -/
def cAnd (rc : Rc) (I : Inf) (pos : Pos) : ∀ es : List Expr, Option (CE I (.BoolOp .And es pos))
  | [] => none
  | [a] => match rc.E I a with
    | some ⟨m, h⟩ => some ⟨m, fun X E ok => pr_one (h X E ok)⟩
    | none => none
  | a :: b :: r => match rc.E I a, cAnd rc I pos (b :: r) with
    | some ⟨ma, ha⟩, some ⟨mb, hb⟩ => some ⟨andV ma mb, fun X E ok => pr_and (ha X E ok) (hb X E ok)⟩
    | _, _ => none
def cOr (rc : Rc) (I : Inf) (pos : Pos) : ∀ es : List Expr, Option (CE I (.BoolOp .Or es pos))
  | [] => none
  | [a] => match rc.E I a with
    | some ⟨m, h⟩ => some ⟨m, fun X E ok => pr_one (h X E ok)⟩
    | none => none
  | a :: b :: r => match rc.E I a, cOr rc I pos (b :: r) with
    | some ⟨ma, ha⟩, some ⟨mb, hb⟩ => some ⟨orV ma mb, fun X E ok => pr_or (ha X E ok) (hb X E ok)⟩
    | _, _ => none
abbrev CW (I : Inf) (e : Expr) := { m : M Bool // ∀ X E, InfOk I X E → PW X e (tT (gx X) E m) }
def tAndC (rc : Rc) (I : Inf) (pos : Pos) : ∀ es : List Expr, Option (CW I (.BoolOp .And es pos))
  | [] => none
  | [a] => match rc.T I a with
    | some ⟨m, h⟩ => some ⟨m, fun X E ok => pwt_one_and (h X E ok)⟩
    | none => none
  | a :: b :: r => match rc.T I a, tAndC rc I pos (b :: r) with
    | some ⟨ma, ha⟩, some ⟨mb, hb⟩ => some ⟨andM ma mb, fun X E ok => pwt_and (ha X E ok) (hb X E ok)⟩
    | _, _ => none
def tOrC (rc : Rc) (I : Inf) (pos : Pos) : ∀ es : List Expr, Option (CW I (.BoolOp .Or es pos))
  | [] => none
  | [a] => match rc.T I a with
    | some ⟨m, h⟩ => some ⟨m, fun X E ok => pwt_one_or (h X E ok)⟩
    | none => none
  | a :: b :: r => match rc.T I a, tOrC rc I pos (b :: r) with
    | some ⟨ma, ha⟩, some ⟨mb, hb⟩ => some ⟨orM ma mb, fun X E ok => pwt_or (ha X E ok) (hb X E ok)⟩
    | _, _ => none
/-! rows of arguments -/
def plainE : Expr → Bool
  | .Starred .. => false
  | _ => true
theorem star_of {e : Expr} {es : List Expr} {env : Env} (h : plainE e = true) : starEach (e :: es) env = (false, eval e env) :: starEach es env := by
  cases e <;> first | rfl | cases h
theorem noStar : ∀ {es : List Expr} {env : Env} {pos : Pos}, es.all plainE = true → (backTo pos (starEach es env)).any (·.1) = false
  | [], _, _, _ => rfl
  | e :: es, env, pos, h => by
    rw [List.all_cons, Bool.and_eq_true] at h
    rw [star_of h.1]
    have ih := noStar (es := es) (env := env) (pos := pos) h.2
    exact ih
abbrev CAs (I : Inf) (es : List Expr) := { ms : List (M R) // ms.length = es.length ∧ ∀ X E, InfOk I X E → PA X es (tAs (gx X) E (argsM ms)) ∧ PA X es (tOs (gx X) E (opsM ms)) }
def cArgs (rc : Rc) (I : Inf) : ∀ es : List Expr, Option (CAs I es)
  | [] => some ⟨[], rfl, fun X E ok => ⟨pa_args_nil, pa_ops_nil⟩⟩
  | e :: es => if hp : plainE e = true then match rc.E I e, cArgs rc I es with
    | some ⟨m, h⟩, some ⟨ms, hl, hs⟩ => some ⟨m :: ms, by rw [List.length_cons, List.length_cons, hl], fun X E ok => ⟨pa_args (h X E ok) (hs X E ok).1 (star_of hp), pa_ops (h X E ok) (hs X E ok).2 (star_of hp)⟩⟩
    | _, _ => none
  else none
/-- the arguments of a def: names in the lent places are handed by reference -/
abbrev CAg (I : Inf) (es : List Expr) := { as : List Ag // as.length = es.length ∧ ∀ X E, InfOk I X E → PA X es (tOs (gx X) E (agsM as)) }
def cAgs (rc : Rc) (I : Inf) (lent : List Nat) : Nat → ∀ es : List Expr, Option (CAg I es)
  | _, [] => some ⟨[], rfl, fun X E ok => pa_ag_nil⟩
  | k, e :: es => if hp : plainE e = true then match cAgs rc I lent (k + 1) es with
    | none => none
    | some ⟨as, hl, hs⟩ => if lent.contains k then match e, hp with
        | .Name x pos, hp =>
          if hd : (x == ("__debug__" : Str)) = false ∧ (x == ("__classdict__" : Str)) = false then
            if hi : I.N[ixOf x I.N 0]? = some x then
              if hv : I.sc.names.lookup x = some .local ∨ I.sc.names.lookup x = some .cell ∨ I.sc.names.lookup x = some .free then
                some ⟨.rf (ixOf x I.N 0) :: as, by rw [List.length_cons, List.length_cons, hl], fun X E ok => pa_ag_rf (pr_name (by rw [ok.hN]; exact hi) (by unfold Vis; rw [ok.sc]; exact hv) hd.1 hd.2) (hs X E ok) (star_of hp)⟩
              else none
            else none
          else none
        | _, _ => none
      else match rc.E I e with
        | some ⟨m, h⟩ => some ⟨.val m :: as, by rw [List.length_cons, List.length_cons, hl], fun X E ok => pa_ag_val (h X E ok) (hs X E ok) (star_of hp)⟩
        | none => none
  else none
/-- keywords -/
abbrev CKw (I : Inf) (kws : List Keyword) := { ms : List (M R) // ms.length = kws.length ∧ ∀ X E, InfOk I X E → PK X kws (tAs (gx X) E (argsM ms)) }
def cKws (rc : Rc) (I : Inf) : ∀ kws : List Keyword, Option (CKw I kws)
  | [] => some ⟨[], rfl, fun X E ok => pk_nil'⟩
  | ⟨nm, e, kp⟩ :: r => match rc.E I e, cKws rc I r with
    | some ⟨m, h⟩, some ⟨ms, hl, hs⟩ => some ⟨m :: ms, by rw [List.length_cons, List.length_cons, hl], fun X E ok => pk_cons' (h X E ok) (hs X E ok)⟩
    | _, _ => none
def kwNames (kws : List Keyword) : List Str := kws.filterMap (·.arg)
end Ev

set_option Elab.async false
set_option linter.all false
set_option maxRecDepth 100000
namespace Ev
open PySem PySem.Spec PyProof.Rows L2

/-! ### facts of the syntax -/
def notSlice : Expr → Bool
  | .Slice .. => false
  | _ => true
def notComp : Expr → Bool
  | .ListComp .. => false
  | .SetComp .. => false
  | .DictComp .. => false
  | _ => true
def notSet : Expr → Bool
  | .Set .. => false
  | _ => true
def notCall : Expr → Bool
  | .Call .. => false
  | _ => true
theorem plainIx_of {b : Expr} (h : notSlice b = true) : PlainIx b := by cases b <;> first | (intro _ _; rfl) | cases h
theorem swaps_of {e : Expr} {t : Option Expr} {l : Nat} {env : Env} (h : notComp e = true) : swapsWith e t l env = pure false := by cases e <;> first | rfl | cases h
theorem folded_of {e : Expr} {env : Env} (h : notSet e = true) : ∀ x, foldedSetIterable e env x = pure x := by cases e <;> first | (intro _; rfl) | cases h
theorem base_of {e : Expr} {n : Str} {env : Env} (h : notCall e = true) : attributeBase e n env (eval e env) = eval e env := by cases e <;> first | rfl | cases h
theorem assignEach_of {e : Expr} {es : List Expr} {env : Env} (h : plainE e = true) : assignEach (e :: es) env = (false, assign e env) :: assignEach es env := by cases e <;> first | rfl | cases h
theorem assignEach_len : ∀ {es : List Expr} {env : Env}, (assignEach es env).length = es.length
  | [], _ => rfl
  | e :: es, env => by
    cases hp : plainE e with
    | true => rw [assignEach_of hp, List.length_cons, List.length_cons, assignEach_len]
    | false =>
      cases e <;> first | (cases hp; done) | (show (assignEach es env).length + 1 = es.length + 1; rw [assignEach_len])
theorem assignEach_noStar : ∀ {es : List Expr} {env : Env}, es.all plainE = true → (assignEach es env).findIdx? (·.1) = none
  | [], _, _ => rfl
  | e :: es, env, h => by
    rw [List.all_cons, Bool.and_eq_true] at h
    rw [assignEach_of h.1, List.findIdx?_cons]
    simp [assignEach_noStar h.2]
def notTup : Expr → Bool
  | .Tuple .. => false
  | .List .. => false
  | _ => true
theorem stores_of {t e : Expr} {env : Env} (h : notTup t = true ∨ notTup e = true) : swappedStores [t] e env = pure none := by
  rcases h with h | h
  · cases t <;> first | rfl | cases h
  · cases t <;> cases e <;> first | rfl | cases h
def namesAt (env : Env) (ts : List Expr) : List Str := ts.filterMap fun
    | .Name id pos => if env.kindOf id == some .local && pos.line == (ts.head?.map (·.pos.line)).getD 0 then some id else none
    | _ => none
def hasStar (vs : List Expr) : Bool := vs.any fun | .Starred .. => true | _ => false
/-- two rows of a different look: no stores are swapped -/
def noSwapE (env : Env) (ts vs : List Expr) : Bool :=
  !(ts.length == 2 || ts.length == 3) || vs.length != ts.length || hasStar vs || (namesAt env ts).length != ts.length || (namesAt env ts).eraseDups.length != (namesAt env ts).length || vs.all (foldedForSure 8)
theorem noSwapE_of {ts vs : List Expr} {k k2 : Nat} {p p2 : Pos} {env : Env} (h : noSwapE env ts vs = true) : swappedStores [.Tuple ts k p] (.Tuple vs k2 p2) env = pure none := by
  unfold noSwapE at h
  unfold swappedStores
  show (if (!(ts.length == 2 || ts.length == 3) || vs.length != ts.length || env.blockKind != .function) = true then (pure none : Sem _) else if hasStar vs = true then pure none else
    if ((namesAt env ts).length != ts.length || (namesAt env ts).eraseDups.length != (namesAt env ts).length) = true then pure none else
    if vs.all (foldedForSure 8) = true then pure none else if vs.all (constantsAlone 8) = true then _ else _) = pure none
  simp only [Bool.or_eq_true] at h
  split
  · rfl
  · rename_i h1
    split
    · rfl
    · rename_i h2
      split
      · rfl
      · rename_i h3
        split
        · rfl
        · rename_i h4
          simp only [Bool.or_eq_true] at h1 h3
          rcases h with ((((h | h) | h) | h) | h) | h
          · exact absurd (.inl (.inl h)) h1
          · exact absurd (.inl (.inr h)) h1
          · exact absurd h h2
          · exact absurd (.inl h) h3
          · exact absurd (.inr h) h3
          · exact absurd h h4
def dumEnv (sc : Scope) : Env := envOfC "" sc 0 0 .none
theorem noSwap_of {sc : Scope} {ts vs : List Expr} {k k2 : Nat} {p p2 : Pos} {env : Env} (h : noSwapE (dumEnv sc) ts vs = true) (he : env.scope = sc) : swappedStores [.Tuple ts k p] (.Tuple vs k2 p2) env = pure none := by
  subst he; exact noSwapE_of (env := env) h
/-- plain local names on one line: they are -/
def swapE (env : Env) (ts vs : List Expr) : Bool :=
  (ts.length == 2 || ts.length == 3) && vs.length == ts.length && env.blockKind == .function && !hasStar vs && (namesAt env ts).length == ts.length && (namesAt env ts).eraseDups.length == (namesAt env ts).length && !vs.all (foldedForSure 8) && !vs.all (constantsAlone 8)
theorem swapE_of {ts vs : List Expr} {k k2 : Nat} {p p2 : Pos} {env : Env} (h : swapE env ts vs = true) : swappedStores [.Tuple ts k p] (.Tuple vs k2 p2) env = pure (some (namesAt env ts)) := by
  unfold swapE at h
  unfold swappedStores
  show (if (!(ts.length == 2 || ts.length == 3) || vs.length != ts.length || env.blockKind != .function) = true then (pure none : Sem _) else if hasStar vs = true then pure none else
    if ((namesAt env ts).length != ts.length || (namesAt env ts).eraseDups.length != (namesAt env ts).length) = true then pure none else
    if vs.all (foldedForSure 8) = true then pure none else if vs.all (constantsAlone 8) = true then _ else pure (some (namesAt env ts))) = _
  simp only [Bool.and_eq_true, Bool.not_eq_true'] at h
  obtain ⟨⟨⟨⟨⟨⟨⟨h1, h2⟩, h3⟩, h4⟩, h5⟩, h6⟩, h7⟩, h8⟩ := h
  rw [if_neg (by simp only [bne, h1, h2, h3]; decide), if_neg (by simp [h4]), if_neg (by simp only [bne, h5, h6]; decide), if_neg (by simp [h7]), if_neg (by simp [h8])]
theorem swap_of {sc : Scope} {ts vs : List Expr} {k k2 : Nat} {p p2 : Pos} {env : Env} (h : swapE (dumEnv sc) ts vs = true) (he : env.scope = sc) : swappedStores [.Tuple ts k p] (.Tuple vs k2 p2) env = pure (some (namesAt (dumEnv sc) ts)) := by
  subst he; exact swapE_of (env := env) h
theorem hall_of {kws : List Keyword} {pos : Pos} {env : Env} (h : kws.all (·.arg.isSome) = true) : (backToKw pos (keywordEach kws env)).all (·.1.isSome) = true := by
  induction kws with
  | nil => rfl
  | cons a r ih =>
    obtain ⟨n, v, p⟩ := a
    rw [List.all_cons, Bool.and_eq_true] at h
    show (n.isSome && (backToKw pos (keywordEach r env)).all (·.1.isSome)) = true
    rw [ih h.2, Bool.and_true]; exact h.1
theorem hks_of {kws : List Keyword} {pos : Pos} {env : Env} : (backToKw pos (keywordEach kws env)).filterMap (·.1) = kwNames kws := by
  unfold kwNames
  induction kws with
  | nil => rfl
  | cons a r ih =>
    obtain ⟨n, v, p⟩ := a
    show List.filterMap (·.1) ((n, _) :: backToKw pos (keywordEach r env)) = _
    cases n with
    | none => simpa using ih
    | some x => simpa using ih
theorem hnone_of {kws : List Keyword} {pos : Pos} {env : Env} (h : kws.all (·.arg.isSome) = true) : (backToKw pos (keywordEach kws env)).any (·.1.isNone) = false := by
  induction kws with
  | nil => rfl
  | cons a r ih =>
    obtain ⟨n, v, p⟩ := a
    rw [List.all_cons, Bool.and_eq_true] at h
    show (n.isNone || (backToKw pos (keywordEach r env)).any (·.1.isNone)) = false
    rw [ih h.2, Bool.or_false]
    have h1 := h.1
    cases n with
    | none => cases h1
    | some x => rfl
theorem kwNames_len {kws : List Keyword} (h : kws.all (·.arg.isSome) = true) : (kwNames kws).length = kws.length := by
  unfold kwNames
  induction kws with
  | nil => rfl
  | cons a r ih =>
    obtain ⟨n, v, p⟩ := a
    rw [List.all_cons, Bool.and_eq_true] at h
    have h1 := h.1
    cases n with
    | none => cases h1
    | some x => simpa using ih h.2

/-! ### calls -/
def findFn (x : Str) : List FnI → Option FnI
  | [] => none
  | f :: r => if f.x = x then some f else findFn x r
theorem findFn_mem {x : Str} : ∀ {l : List FnI} {f : FnI}, findFn x l = some f → f ∈ l ∧ f.x = x
  | [], _, h => by cases h
  | g :: r, f, h => by
    simp only [findFn] at h
    split at h
    · cases h; exact ⟨List.mem_cons_self .., by assumption⟩
    · obtain ⟨a, b⟩ := findFn_mem h; exact ⟨List.mem_cons_of_mem _ a, b⟩
def findPat (np : Nat) (ks : List Str) : List (Nat × List Str × List D × List Nat) → Option (List D × List Nat)
  | [] => none
  | (n, k, dd, sel) :: r => if n = np ∧ k = ks then some (dd, sel) else findPat np ks r
theorem findPat_mem {np : Nat} {ks : List Str} : ∀ {l : List (Nat × List Str × List D × List Nat)} {dd : List D} {sel : List Nat}, findPat np ks l = some (dd, sel) → (np, ks, dd, sel) ∈ l
  | [], _, _, h => by cases h
  | (n, k, d, s) :: r, dd, sel, h => by
    simp only [findPat] at h
    split at h
    · rename_i hc
      obtain ⟨rfl, rfl⟩ := hc
      cases h; exact List.mem_cons_self ..
    · exact List.mem_cons_of_mem _ (findPat_mem h)
def cCallFn (rc : Rc) (I : Inf) (x : Str) (p : Pos) (es : List Expr) (kws : List Keyword) (pos : Pos) : Option (CE I (.Call (.Name x p) es kws pos)) :=
  if hk : kws.all (·.arg.isSome) = true ∧ es.all plainE = true then
    if hg : I.sc.names.lookup x = some .globalImplicit ∧ (x == ("__debug__" : Str)) = false then
      match hf : findFn x I.fns with
      | none => none
      | some f => match hp : findPat es.length (kwNames kws) f.pats with
        | none => none
        | some (dd, sel) => match es, hk, hp, cAgs rc I f.lent 0 es, cKws rc I kws with
          | [], hk, hp, _, some ⟨ms, hl, hs⟩ => some ⟨callG f.fn sel dd [] ms, fun X E ok => by
              obtain ⟨h1, rfl⟩ := findFn_mem hf
              exact pr_callG0 (ok.fns f h1 _ (findPat_mem hp)) (Gl_of hg.1 ok) (hs X E ok) rfl (by rw [hl, kwNames_len hk.1]) hg.2 (hall_of hk.1) hks_of (by rw [hnone_of hk.1]; rfl)⟩
          | e :: es, hk, hp, some ⟨as, ha, hs⟩, some ⟨ms, hl, hm⟩ => some ⟨callG f.fn sel dd as ms, fun X E ok => by
              obtain ⟨h1, rfl⟩ := findFn_mem hf
              have hpl := hk.2
              rw [List.all_cons, Bool.and_eq_true] at hpl
              exact pr_callG (ok.fns f h1 _ (findPat_mem hp)) (Gl_of hg.1 ok) (hs X E ok) (hm X E ok) ha (by rw [hl, kwNames_len hk.1]) hg.2 (hall_of hk.1) hks_of (star_of hpl.1) (by rw [hnone_of hk.1, noStar hk.2]; rfl)⟩
          | _, _, _, _, _ => none
    else none
  else none

/-! built-in functions -/
structure Blt where
  x : Str
  ty : Bool
  id : String
  f : List D → Option S
  ok : ∀ X : Cx, X.calm = true → ∃ r, CallR X (if ty then .type id else .builtin id) r ∧ ON (gx X) r f
  boot : bootBuiltins x = some (if ty then .type id else .builtin id)
  nm : x ≠ "__name__"
  db : (x == ("__debug__" : Str)) = false
def blts : List Blt := [
  ⟨"len", false, "len", lenD, fun X hc => ⟨_, call_lenD, on_len⟩, rfl, by decide, by decide⟩,
  ⟨"abs", false, "abs", absD, fun X hc => ⟨_, call_abs, on_abs⟩, rfl, by decide, by decide⟩,
  ⟨"max", false, "max", max2D, fun X hc => ⟨_, call_max2 hc, on_max2⟩, rfl, by decide, by decide⟩,
  ⟨"min", false, "min", min2D, fun X hc => ⟨_, call_min2 hc, on_min2⟩, rfl, by decide, by decide⟩,
  ⟨"int", true, "int", intF, fun X hc => ⟨_, call_intD, on_int⟩, rfl, by decide, by decide⟩,
  ⟨"str", true, "str", strF, fun X hc => ⟨_, call_strD, on_str⟩, rfl, by decide, by decide⟩,
  ⟨"list", true, "list", listF, fun X hc => ⟨_, call_list_of, on_list⟩, rfl, by decide, by decide⟩,
  ⟨"tuple", true, "tuple", tupleF, fun X hc => ⟨_, call_tuple_of, on_tuple⟩, rfl, by decide, by decide⟩,
  ⟨"any", false, "any", boolsD (·.any id), fun X hc => ⟨_, cr_any hc, on_bools⟩, rfl, by decide, by decide⟩,
  ⟨"all", false, "all", boolsD (·.all id), fun X hc => ⟨_, cr_all hc, on_bools⟩, rfl, by decide, by decide⟩,
  ⟨"sum", false, "sum", sumD, fun X hc => ⟨_, cr_sum hc, on_sum⟩, rfl, by decide, by decide⟩]
def findBlt (x : Str) : List Blt → Option Blt
  | [] => none
  | b :: r => if b.x = x then some b else findBlt x r
theorem findBlt_x {x : Str} : ∀ {l : List Blt} {b : Blt}, findBlt x l = some b → b.x = x
  | [], _, h => by cases h
  | g :: r, f, h => by
    simp only [findBlt] at h
    split at h
    · cases h; assumption
    · exact findBlt_x h
def cCallBlt (rc : Rc) (I : Inf) (x : Str) (p : Pos) (es : List Expr) (pos : Pos) : Option (CE I (.Call (.Name x p) es [] pos)) :=
  if hg : I.sc.names.lookup x = some .globalImplicit ∧ I.blt.contains x = true ∧ es.all plainE = true then
    match hb : findBlt x blts with
    | none => none
    | some b => match es, hg, cArgs rc I es with
      | e :: es, hg, some ⟨ms, hl, hs⟩ => some ⟨opN b.f ms, fun X E ok => by
          have hx := findBlt_x hb
          subst hx
          obtain ⟨r, h1, h2⟩ := b.ok X ok.calm
          have hmg := ok.blt b.x (by simpa using hg.2.1)
          have hpl := hg.2.2
          rw [List.all_cons, Bool.and_eq_true] at hpl
          cases hty : b.ty with
          | true =>
            have hbo := b.boot
            rw [hty, if_pos rfl] at h1 hbo
            exact (pe_callTy h1 (Gl_of hg.1 ok) hmg hbo (hs X E ok).2 b.nm b.db (star_of hpl.1) (noStar hpl.2)).imp fun σ H Q w => t_opN h2 w
          | false =>
            have hbo := b.boot
            rw [hty, if_neg Bool.false_ne_true] at h1 hbo
            exact (pe_callB h1 (Gl_of hg.1 ok) hmg hbo (hs X E ok).2 b.nm b.db (star_of hpl.1) (noStar hpl.2)).imp fun σ H Q w => t_opN h2 w⟩
      | _, _, _ => none
  else none
/-! gcd, of math -/
def cCallGcd (rc : Rc) (I : Inf) (x : Str) (p : Pos) (es : List Expr) (pos : Pos) : Option (CE I (.Call (.Name x p) es [] pos)) :=
  if hg : I.sc.names.lookup x = some .globalImplicit ∧ (x == ("__debug__" : Str)) = false ∧ es.all plainE = true then
    if hi : (x, "math.gcd") ∈ I.imp then
      match es, hg, cArgs rc I es with
      | e :: es, hg, some ⟨ms, hl, hs⟩ => some ⟨opN gcdD ms, fun X E ok => by
          have hpl := hg.2.2
          rw [List.all_cons, Bool.and_eq_true] at hpl
          exact (pe_callBfun cr_gcd (Gl_of hg.1 ok) (ok.imp _ hi) (hs X E ok).2 hg.2.1 (star_of hpl.1) (noStar hpl.2)).imp fun σ H Q w => t_opN on_gcd w⟩
      | _, _, _ => none
    else none
  else none
end Ev

set_option Elab.async false
set_option linter.all false
set_option maxRecDepth 100000
namespace Ev
open PySem PySem.Spec PyProof.Rows L2

/-! ### isinstance -/
def tyNames : List String := ["int", "str", "bool", "list", "tuple", "dict", "set", "bytes"]
/-- a name of a built-in type -/
def tyOf (I : Inf) : Expr → Option String
  | .Name x _ => if I.sc.names.lookup x = some .globalImplicit ∧ I.blt.contains x = true ∧ x ≠ "__name__" ∧ (x == ("__debug__" : Str)) = false then
      (match bootBuiltins x with
       | some (.type n) => some n
       | _ => none)
    else none
  | _ => none
theorem tyOf_ok {I : Inf} {e : Expr} {n : String} (h : tyOf I e = some n) {X : Cx} {E : WS} (ok : InfOk I X E) : PE X e (tC (.ty n)) ∧ plainE e = true := by
  cases e <;> simp only [tyOf] at h <;> try (cases h; done)
  split at h
  · rename_i hc
    split at h
    · rename_i m hb
      cases h
      exact ⟨pe_bltn (Gl_of hc.1 ok) (ok.blt _ (by simpa using hc.2.1)) hb (v := .ty n) rfl hc.2.2.1 hc.2.2.2, rfl⟩
    · cases h
  · cases h
def tysOf (I : Inf) : List Expr → Option (List String)
  | [] => some []
  | e :: es => match tyOf I e, tysOf I es with
    | some n, some ns => some (n :: ns)
    | _, _ => none
theorem tysOf_ok {I : Inf} : ∀ {es : List Expr} {ns : List String}, tysOf I es = some ns → ∀ {X : Cx} {E : WS}, InfOk I X E → Paired (fun e n => PE X e (tC (.ty n)) ∧ ∀ r : List Expr, starEach (e :: r) X.env = (false, eval e X.env) :: starEach r X.env) es ns
  | [], _, h, _, _, _ => by cases h; exact .nil
  | e :: es, _, h, X, E, ok => by
    simp only [tysOf] at h
    split at h
    · rename_i h1 h2
      cases h
      obtain ⟨a, b⟩ := tyOf_ok h1 ok
      exact .cons ⟨a, fun r => star_of b⟩ (tysOf_ok h2 ok)
    · cases h
def cIsi (rc : Rc) (I : Inf) (p : Pos) (es : List Expr) (pos : Pos) : Option (CE I (.Call (.Name "isinstance" p) es [] pos)) :=
  if hg : I.sc.names.lookup ("isinstance" : Str) = some .globalImplicit ∧ I.blt.contains "isinstance" = true then
    match es with
    | [a, b] => if hp : plainE a = true then match rc.E I a with
      | none => none
      | some ⟨ma, ha⟩ => match h1 : tyOf I b with
        | some n => some ⟨op1 (isi1D n) ma, fun X E ok => by
            obtain ⟨hb, pb⟩ := tyOf_ok h1 ok
            exact pr_isi1 (Gl_of hg.1 ok) (ok.blt _ (by simpa using hg.2)) hb (ha X E ok) (star_of hp) (star_of pb) (noStar (by rw [List.all_cons, pb]; rfl))⟩
        | none => match b with
          | .Tuple ts k tp => match h2 : tysOf I ts with
            | some ns => if hl : ns.length ≤ 1000 then some ⟨op1 (isiD ns) ma, fun X E ok => pr_isiT (Gl_of hg.1 ok) (ok.blt _ (by simpa using hg.2)) (tysOf_ok h2 ok) hl (ha X E ok) (star_of hp) rfl rfl⟩ else none
            | none => none
          | _ => none
      else none
    | _ => none
  else none
def cCall (rc : Rc) (I : Inf) (x : Str) (p : Pos) (es : List Expr) (kws : List Keyword) (pos : Pos) : Option (CE I (.Call (.Name x p) es kws pos)) :=
  match cCallFn rc I x p es kws pos with
  | some c => some c
  | none => match kws with
    | [] => if h : x = "isinstance" then (cIsi rc I p es pos).map fun c => ⟨c.1, by subst h; exact c.2⟩
      else match cCallBlt rc I x p es pos with
        | some c => some c
        | none => cCallGcd rc I x p es pos
    | _ => none

/-! ### methods -/
theorem type_append : typeOf (.builtin "list.append") = pure (.type "method_descriptor") := PySem.F.type_list_append
def bitsD : D → Option S
  | .int i => some (.d (.int (Builtin.Int.intBits i : Nat)))
  | _ => none
def cMeth (rc : Rc) (I : Inf) (o : Expr) (name : Str) (ap : Pos) (es : List Expr) (pos : Pos) : Option (CE I (.Call (.Attribute o name ap) es [] pos)) :=
  if hb : notCall o = true ∧ (ap.endLine == pos.line) = true then
    match es with
    | [] => if hn : name = "bit_length" then match rc.E I o with
        | some ⟨m, h⟩ => some ⟨op1 bitsD m, fun X E ok => by
            subst hn
            refine (pe_bits (pr_opd (h X E ok)) (base_of hb.1) hb.2).imp fun σ H Q w => t_op1 (r := fun x H Q => ∃ i, x = .int i ∧ Q (.int (Builtin.Int.intBits i : Nat)) H) (fun O F H x d s Q fh bx ef q => ?_) w
            unfold bitsD at ef
            split at ef
            · cases ef; exact ⟨_, bx.int, q F H _ (Grow.refl fh) (.int _)⟩
            · cases ef⟩
        | none => none
      else none
    | [e] => if hn : name = "append" then match o, hb with
        | .Name x p, hb => if hd : (x == ("__debug__" : Str)) = false ∧ (x == ("__classdict__" : Str)) = false then
            if hi : I.N[ixOf x I.N 0]? = some x then
              if hv : I.sc.names.lookup x = some .local ∨ I.sc.names.lookup x = some .cell ∨ I.sc.names.lookup x = some .free then
                if hp : plainE e = true then match rc.E I e with
                  | some ⟨m, h⟩ => some ⟨meth (ixOf x I.N 0) appF [m], fun X E ok => by
                      subst hn
                      have hnm := pr_name (X := X) (E := E) (pos := p) (i := ixOf x I.N 0) (x := x) (by rw [ok.hN]; exact hi) (by unfold Vis; rw [ok.sc]; exact hv) hd.1 hd.2
                      exact (pe_bm PySem.F.plainAttrs_list PySem.F.slot_list_append PySem.F.type_list_append mt_append (pr_opd hnm) (pa_args (h X E ok) pa_args_nil (star_of hp)) rfl (by rw [star_of hp]; rfl) hb.2 (star_of hp) rfl).imp (t_meth om_append)⟩
                  | none => none
                else none
              else none
            else none
          else none
        | _, _ => none
      else none
    | _ => none
  else none

/-! ### displays, subscripts -/
def cTup (rc : Rc) (I : Inf) (es : List Expr) (k : Nat) (pos : Pos) : Option (CE I (.Tuple es k pos)) :=
  match cArgs rc I es with
  | some ⟨ms, hl, h⟩ => if hs : ms.length ≤ 1000 then some ⟨tupM ms, fun X E ok => pr_tup (h X E ok).1 hs⟩ else none
  | none => none
def cLst (rc : Rc) (I : Inf) (es : List Expr) (pos : Pos) : Option (CE I (.List es pos)) :=
  match cArgs rc I es with
  | some ⟨ms, hl, h⟩ => if hs : ms.length ≤ 1000 then some ⟨lstM ms, fun X E ok => pr_lst (h X E ok).1 hs⟩ else none
  | none => none
abbrev CO (I : Inf) (e : Option Expr) := { m : Option (M R) // ∀ X E, InfOk I X E → PO X e (tP (gx X) E (partM m)) }
def cPart (rc : Rc) (I : Inf) : ∀ e : Option Expr, Option (CO I e)
  | none => some ⟨none, fun X E ok => po_no⟩
  | some e => match rc.E I e with
    | some ⟨m, h⟩ => some ⟨some m, fun X E ok => po_is (h X E ok)⟩
    | none => none
def cSub (rc : Rc) (I : Inf) (a b : Expr) (pos : Pos) : Option (CE I (.Subscript a b pos)) :=
  match b with
  | .Slice lo hi none p2 => match rc.E I a, cPart rc I lo, cPart rc I hi with
    | some ⟨ma, ha⟩, some ⟨ml, hl⟩, some ⟨mh, hh⟩ => some ⟨slM ma ml mh slD, fun X E ok => pr_sl (ha X E ok) (hl X E ok) (hh X E ok)⟩
    | _, _, _ => none
  | b => if hn : notSlice b = true then match rc.E I a, rc.E I b with
    | some ⟨ma, ha⟩, some ⟨mb, hb⟩ => some ⟨op2 ixD ma mb, fun X E ok => pr_ix (ha X E ok) (hb X E ok) (plainIx_of hn)⟩
    | _, _ => none
    else none

/-! ### targets -/
abbrev CGs (I : Inf) (L : List Nat) (es : List Expr) := { Ts : List Tg // Ts.length = es.length ∧ ∀ X E, InfOk I X E → PGs X es (tGs (gx X) L Ts) }
/-- a name that may be bound -/
def storeOk (I : Inf) (L : List Nat) (x : Str) : Bool := decide (I.N[ixOf x I.N 0]? = some x) && (decide (I.sc.names.lookup x = some .local) || (decide (I.sc.names.lookup x = some .cell) && I.fc x)) && !L.contains (ixOf x I.N 0)
theorem storeOk_of {I : Inf} {L : List Nat} {x : Str} (h : storeOk I L x = true) {X : Cx} {E : WS} (ok : InfOk I X E) : X.N[ixOf x I.N 0]? = some x ∧ L2.Loc X.env.scope x ∧ ixOf x I.N 0 ∉ L ∧ (X.fn x = true ∨ X.env.scope.names.lookup x = some .local) := by
  simp only [storeOk, Bool.and_eq_true, Bool.or_eq_true, decide_eq_true_eq, Bool.not_eq_true', List.contains_eq_mem, decide_eq_false_iff_not] at h
  obtain ⟨⟨h1, h2⟩, h3⟩ := h
  refine ⟨by rw [ok.hN]; exact h1, ?_, h3, ?_⟩
  · unfold L2.Loc; rw [ok.sc]; exact h2.imp id (·.1)
  · rw [ok.sc, ok.fc]
    exact h2.elim .inr fun z => .inl z.2
def cTg (I : Inf) (L : List Nat) : Nat → ∀ e : Expr, Option (CG I L e)
  | 0, _ => none
  | n + 1, .Name x pos => if h : storeOk I L x = true then some ⟨.nm (ixOf x I.N 0), fun X E ok => by
      obtain ⟨h1, h2, h3, h4⟩ := storeOk_of h ok
      exact pg_nm (by rw [ok.hN]; exact ok.nd) h1 h2 h3 h4⟩ else none
  | n + 1, .Tuple es k pos =>
    let rec go : ∀ es : List Expr, Option (CGs I L es)
      | [] => some ⟨[], rfl, fun X E ok => pgs_nil'⟩
      | e :: r => if hp : plainE e = true then match cTg I L n e, go r with
        | some ⟨T, h⟩, some ⟨Ts, hl, hs⟩ => some ⟨T :: Ts, by rw [List.length_cons, List.length_cons, hl], fun X E ok => pgs_cons' (h X E ok) (hs X E ok) (by rw [assignEach_of hp]; rfl)⟩
        | _, _ => none
        else none
    if hp : es.all plainE = true then match go es with
      | some ⟨Ts, hl, h⟩ => some ⟨.tup Ts, fun X E ok => pg_tup' ok.calm (h X E ok) (by rw [assignEach_len, hl]) (assignEach_noStar hp)⟩
      | none => none
    else none
  | _, _ => none

/-! ### sources -/
def cDfl (rc : Rc) (I : Inf) (tg e : Expr) : Option (CI I tg e) := match rc.E I e with
    | some ⟨m, h⟩ => some ⟨srcM m, fun X E ok => pi_src (h X E ok)⟩
    | none => none
def cSrc (rc : Rc) (I : Inf) (tg : Expr) : ∀ e : Expr, Option (CI I tg e)
  | .Call (.Name x p) [a] [] pos => if hr : x = "range" ∧ I.sc.names.lookup x = some .globalImplicit ∧ I.blt.contains x = true ∧ plainE a = true then match rc.E I a with
      | some ⟨m, h⟩ => some ⟨rngM m, fun X E ok => by
          obtain ⟨rfl, h2, h3, h4⟩ := hr
          exact pi_rng1 (Gl_of h2 ok) (ok.blt _ (by simpa using h3)) (h X E ok) (star_of h4)⟩
      | none => none
    else if hr : x = "enumerate" ∧ I.sc.names.lookup x = some .globalImplicit ∧ I.blt.contains x = true ∧ plainE a = true then match tg, rc.E I a with
      | .Tuple elts kk tpos, some ⟨m, h⟩ => some ⟨enumM m, fun X E ok => by
          obtain ⟨rfl, h2, h3, h4⟩ := hr
          exact pi_enu (Gl_of h2 ok) (ok.blt _ (by simpa using h3)) (h X E ok) (star_of h4)⟩
      | _, _ => none
    else cDfl rc I tg _
  | .Call (.Name x p) [a, b] [] pos => if hr : x = "range" ∧ I.sc.names.lookup x = some .globalImplicit ∧ I.blt.contains x = true ∧ plainE a = true ∧ plainE b = true then match rc.E I a, rc.E I b with
      | some ⟨m, h⟩, some ⟨m2, h'⟩ => some ⟨rng2M m m2, fun X E ok => by
          obtain ⟨rfl, h2, h3, h4, h5⟩ := hr
          exact pi_rng2 (Gl_of h2 ok) (ok.blt _ (by simpa using h3)) (h X E ok) (h' X E ok) (by rw [star_of h4, star_of h5]; rfl) (star_of h5)⟩
      | _, _ => none
    else if hr : x = "zip" ∧ I.sc.names.lookup x = some .globalImplicit ∧ I.blt.contains x = true ∧ plainE a = true ∧ plainE b = true then match tg, rc.E I a, rc.E I b with
      | .Tuple elts kk tpos, some ⟨m, h⟩, some ⟨m2, h'⟩ => some ⟨zipM m m2, fun X E ok => by
          obtain ⟨rfl, h2, h3, h4, h5⟩ := hr
          exact pi_zi (Gl_of h2 ok) (ok.blt _ (by simpa using h3)) (h X E ok) (h' X E ok) (star_of h4) (star_of h5) (noStar (by rw [List.all_cons, h5]; rfl))⟩
      | _, _, _ => none
    else cDfl rc I tg _
  | e => cDfl rc I tg e
end Ev

set_option Elab.async false
set_option linter.all false
set_option maxRecDepth 100000
namespace Ev
open PySem PySem.Spec PyProof.Rows L2

/-! ### comprehensions -/
def ownOf (I : Inf) (scope : Scope) : List (Str × Nat) := scope.names.filterMap fun p => match p.2 with
  | .local => if I.N.contains p.1 then some (p.1, ixOf p.1 I.N 0) else none
  | .cell => if I.N.contains p.1 then some (p.1, ixOf p.1 I.N 0) else none
  | _ => none
def Inf.blk (I : Inf) (scope : Scope) : Inf := { I with sc := relS scope I.sc, fc := fun x => scope.names.lookup x == some .cell, L := [] }
theorem noCX {P : Program} {w : World} {outer : List Env} {H : Hp} {s : Shared} {u : Value} {s' : Shared} (h : L2.CX P w outer H s E0 u s') : False := by
  obtain ⟨_, _, _, _, _, _, _, _, _, _, _, _, z⟩ := h
  exact z
theorem blk_ok {I : Inf} {X : Cx} {E : WS} (ok : InfOk I X E) (scope : Scope) (s : Shared) (H : Hp) (C : Addr) (cl : List (Str × Addr)) (fp : List Addr) : InfOk (I.blk scope) (X.blk s H scope (compEnvC scope cl C X.env) fp) (fun _ => E0) where
  hN := ok.hN
  sc := by
    have : (compEnvC scope cl C X.env).scope = relS scope X.env.scope := rfl
    show (compEnvC scope cl C X.env).scope = relS scope I.sc
    rw [this, ok.sc]
  fc := rfl
  nd := ok.nd
  calm := ok.calm
  un := ok.un
  blt := ok.blt
  imp := ok.imp
  fns := fun f hf p hp => by
    obtain ⟨h1, h2, h3⟩ := ok.fns f hf p hp
    exact ⟨h1, h2, fun σ pins H s e s' I c => noCX c⟩
  pass := PassesOwn.never
abbrev CTs (I : Inf) (es : List Expr) := { m : M Bool // ∀ X E, InfOk I X E → PTs X es (tT (gx X) E m) }
def cIfs (rc : Rc) (I : Inf) : ∀ es : List Expr, Option (CTs I es)
  | [] => some ⟨retM true, fun X E ok => ⟨fun pins s σ H Q Iv ⟨O, F, δ, M, w⟩ => pts_nil.run pins s σ H Q Iv (wp_ret M w)⟩⟩
  | [c] => match rc.T I c with
    | some ⟨m, h⟩ => some ⟨m, fun X E ok => pts_one (h X E ok)⟩
    | none => none
  | _ => none
/-- the parts of a comprehension -/
structure LC (I : Inf) (elt tg iter : Expr) (ifs : List Expr) (scope : Scope) where
  T : Tg
  src : M (List D)
  tt : M Bool
  te : M R
  ok : blkC I.N I.sc scope (ownOf I scope) = true
  ns : notSet iter = true
  hi : ∀ X E, InfOk I X E → PI X tg iter (tI (gx X) E src)
  hg : ∀ X E, InfOk (I.blk scope) X E → PG X tg (tG (gx X) (outer I.N.length ((ownOf I scope).map (·.2))) T)
  ht : ∀ X E, InfOk (I.blk scope) X E → PTs X ifs (tT (gx X) E tt)
  he : ∀ X E, InfOk (I.blk scope) X E → PE X elt (tR (gx X) E te)
def cLC (rc : Rc) (I : Inf) (elt tg iter : Expr) (ifs : List Expr) (scope : Scope) : Option (LC I elt tg iter ifs scope) :=
  if h : blkC I.N I.sc scope (ownOf I scope) = true ∧ notSet iter = true then
    match cSrc rc I tg iter, cTg (I.blk scope) (outer I.N.length ((ownOf I scope).map (·.2))) 5 tg, cIfs rc (I.blk scope) ifs, rc.E (I.blk scope) elt with
    | some ⟨src, h1⟩, some ⟨T, h2⟩, some ⟨tt, h3⟩, some ⟨te, h4⟩ => some ⟨T, src, tt, te, h.1, h.2, h1, h2, h3, h4⟩
    | _, _, _, _ => none
  else none
def LC.m {I : Inf} {elt tg iter : Expr} {ifs : List Expr} {scope : Scope} (c : LC I elt tg iter ifs scope) : M R := compM ((ownOf I scope).map (·.2)) c.T c.src c.tt (datM c.te)
theorem LC.pe {I : Inf} {elt tg iter : Expr} {ifs : List Expr} {scope : Scope} (c : LC I elt tg iter ifs scope) {pos : Pos} (X : Cx) (E : WS) (ok : InfOk I X E) : PE X (.ListComp elt [⟨tg, iter, ifs, 0⟩] scope pos) (tR (gx X) E c.m) := by
  have hN : X.N.Nodup := by rw [ok.hN]; exact ok.nd
  refine pr_lc ok.calm hN (c.hi X E ok) (by rw [ok.hN, ok.sc]; exact blkOk_by c.ok) (fun s H C cl fp => ?_) (fun s H C cl fp => c.ht _ _ (blk_ok ok scope s H C cl fp)) (fun s H C cl fp => pr_dat (c.he _ _ (blk_ok ok scope s H C cl fp))) (folded_of c.ns)
  have := c.hg _ _ (blk_ok ok scope s H C cl fp)
  rw [ok.hN]; exact this
def cComp (rc : Rc) (I : Inf) (elt : Expr) (scope : Scope) (pos : Pos) : ∀ gs : List Comprehension, Option (CE I (.ListComp elt gs scope pos))
  | [⟨tg, iter, ifs, 0⟩] => match cLC rc I elt tg iter ifs scope with
    | some c => some ⟨c.m, fun X E ok => c.pe X E ok⟩
    | none => none
  | _ => none

/-! ### expressions -/
def stepE (rc : Rc) (I : Inf) : ∀ e : Expr, Option (CE I e)
  | .Constant (.int i) j pos => some ⟨cD (.int i), fun X E ok => pr_int⟩
  | .Constant (.str x) j pos => some ⟨cD (.str x), fun X E ok => pr_str⟩
  | .Constant (.bool b) j pos => some ⟨cD (.bl b), fun X E ok => pr_bl⟩
  | .Constant .none j pos => some ⟨cD .non, fun X E ok => pr_non⟩
  | .Name x pos => match cName I x pos with
    | some c => some c
    | none => match h : tyOf I (.Name x pos) with
      | some n => some ⟨cD (.ty n), fun X E ok => pr_c (tyOf_ok h ok).1 fun _ => .ty n⟩
      | none => none
  | .BinOp a op b pos => cBin rc I a op b pos
  | .Compare a [op] [b] pos => cCmp rc I a op b pos
  | .BoolOp .And es pos => cAnd rc I pos es
  | .BoolOp .Or es pos => cOr rc I pos es
  | .UnaryOp .Not a pos => match rc.E I a with
    | some ⟨m, h⟩ => some ⟨notV m, fun X E ok => pr_not (h X E ok)⟩
    | none => none
  | .UnaryOp .USub a pos => match rc.E I a with
    | some ⟨m, h⟩ => some ⟨op1 negD m, fun X E ok => pr_neg (h X E ok)⟩
    | none => none
  | .IfExp c a b pos => match rc.T I c, rc.E I a, rc.E I b with
    | some ⟨mc, hc⟩, some ⟨ma, ha⟩, some ⟨mb, hb⟩ => some ⟨ifM mc ma mb, fun X E ok => pr_if (hc X E ok) (ha X E ok) (hb X E ok)⟩
    | _, _, _ => none
  | .Tuple es k pos => cTup rc I es k pos
  | .List es pos => cLst rc I es pos
  | .Subscript a b pos => cSub rc I a b pos
  | .Call (.Name x p) es kws pos => cCall rc I x p es kws pos
  | .Call (.Attribute o n ap) es [] pos => cMeth rc I o n ap es pos
  | .ListComp elt gs scope pos => cComp rc I elt scope pos gs
  | _ => none
/-- an expression as a test, by its truth -/
def simpleT : Expr → Bool
  | .BoolOp .. => false
  | .Compare .. => false
  | .UnaryOp .Not _ _ => false
  | .Constant .. => false
  | .NamedExpr .. => false
  | .IfExp .. => false
  | .Tuple .. => false
  | .List .. => false
  | .Dict .. => false
  | .Set .. => false
  | .JoinedStr .. => false
  | .Lambda .. => false
  | _ => true
theorem simpleT_of {e : Expr} {env : Env} (h : simpleT e = true) : ∀ whole, isTrue e env whole = (do let v ← whole; standAt e.pos; holding [v] (truthy v)) := by
  intro whole
  cases e <;> first | rfl | (cases h; done) | skip
  rename_i op o p
  cases op <;> first | rfl | cases h
def stepT (rc : Rc) (I : Inf) : ∀ e : Expr, Option (CT I e)
  | .Compare a [op] [b] pos => tCmpC rc I a op b pos
  | .BoolOp .And es pos => match tAndC rc I pos es with
    | some ⟨m, h⟩ => some ⟨m, fun X E ok => (h X E ok).pt⟩
    | none => none
  | .BoolOp .Or es pos => match tOrC rc I pos es with
    | some ⟨m, h⟩ => some ⟨m, fun X E ok => (h X E ok).pt⟩
    | none => none
  | .UnaryOp .Not a pos => match rc.T I a with
    | some ⟨m, h⟩ => some ⟨notM m, fun X E ok => pt_not' (h X E ok)⟩
    | none => none
  | e => if hs : simpleT e = true then match rc.E I e with
    | some ⟨m, h⟩ => some ⟨truM m, fun X E ok => pt_tru (h X E ok) (simpleT_of hs)⟩
    | none => none
    else none
end Ev

set_option Elab.async false
set_option linter.all false
set_option maxRecDepth 100000
namespace Ev
open PySem PySem.Spec PyProof.Rows L2

theorem sole_of {e t : Expr} {l : Nat} {env : Env} (h : notComp e = true) : swapsWithSole [t] e l env = pure false := swaps_of (e := e) (t := some t) h
/-! ### statements -/
abbrev CSs (I : Inf) (es : List Stmt) := { m : M Fl // ∀ X E, InfOk I X E → PSs X es (tS (gx X) E I.L m) }
def cBody (rc : Rc) (I : Inf) : ∀ b : List Stmt, Option (CSs I b)
  | [] => some ⟨retM .next, fun X E ok => ps_nil'⟩
  | s :: r => match rc.S I s, cBody rc I r with
    | some ⟨m, h⟩, some ⟨n, k⟩ => some ⟨seqM m n, fun X E ok => ps_cons' (h X E ok) (k X E ok)⟩
    | _, _ => none
def swapLc (I : Inf) (y : Str) (py : Pos) (e : Expr) (scope : Scope) : Bool :=
  (dumEnv I.sc).blockKind == .function && (dumEnv I.sc).kindOf y == some .local && py.line == e.pos.line && !(scope.names.any fun (n, k) => n == y && (k == .local || k == .cell))
theorem swapLc_of {I : Inf} {y : Str} {py pos : Pos} {l : Nat} {elt : Expr} {gs : List Comprehension} {scope : Scope} {env : Env} {b : Bool} (h : swapLc I y py (.ListComp elt gs scope pos) scope = b) (he : env.scope = I.sc) : swapsWith (.ListComp elt gs scope pos) (some (.Name y py)) l env = pure b := by
  have : swapLc I y py (.ListComp elt gs scope pos) scope = (env.blockKind == .function && env.kindOf y == some .local && py.line == pos.line && !(scope.names.any fun (n, k) => n == y && (k == .local || k == .cell))) := by
    unfold swapLc Env.blockKind Env.kindOf
    rw [he]; rfl
  rw [← h, this]
  rfl
/-- x = e -/
def cSet (rc : Rc) (I : Inf) (x : Str) (px : Pos) (pos : Pos) : ∀ e : Expr, Option (CS I (.Assign [.Name x px] e pos))
  | .ListComp elt [⟨tg, iter, ifs, 0⟩] scope lp => if hs : storeOk I I.L x = true then
      if hsw : swapLc I x px (.ListComp elt [⟨tg, iter, ifs, 0⟩] scope lp) scope = true then
        if hl : I.sc.names.lookup x = some .local then match cLC rc I elt tg iter ifs scope with
          | some c => some ⟨setS (ixOf x I.N 0) c.m, fun X E ok => by
              obtain ⟨h1, h2, h3, h4⟩ := storeOk_of hs ok
              have hN : X.N.Nodup := by rw [ok.hN]; exact ok.nd
              refine pr_setLc ok.calm hN h1 (kind_of hl ok) h3 (swapLc_of hsw ok.sc) (c.hi X E ok) (by rw [ok.hN, ok.sc]; exact blkOk_by c.ok) (fun s H C cl fp => ?_) (fun s H C cl fp => c.ht _ _ (blk_ok ok scope s H C cl fp)) (fun s H C cl fp => pr_dat (c.he _ _ (blk_ok ok scope s H C cl fp))) (folded_of c.ns)
              have := c.hg _ _ (blk_ok ok scope s H C cl fp)
              rw [ok.hN]; exact this⟩
          | none => none
        else none
      else match rc.E I (.ListComp elt [⟨tg, iter, ifs, 0⟩] scope lp) with
        | some ⟨m, h⟩ => some ⟨setS (ixOf x I.N 0) m, fun X E ok => by
            obtain ⟨h1, h2, h3, h4⟩ := storeOk_of hs ok
            exact ps_set' (by rw [ok.hN]; exact ok.nd) h1 h2 h3 (h X E ok) (swapLc_of (Bool.eq_false_iff.mpr hsw) ok.sc) h4⟩
        | none => none
    else none
  | e => if hs : storeOk I I.L x = true ∧ notComp e = true then match rc.E I e with
    | some ⟨m, h⟩ => some ⟨setS (ixOf x I.N 0) m, fun X E ok => by
        obtain ⟨h1, h2, h3, h4⟩ := storeOk_of hs.1 ok
        exact ps_set' (by rw [ok.hN]; exact ok.nd) h1 h2 h3 (h X E ok) (swaps_of hs.2) h4⟩
    | none => none
    else none
/-- a, b = x, y -/
def locOk (I : Inf) (x : Str) : Bool := decide (I.N[ixOf x I.N 0]? = some x) && decide (I.sc.names.lookup x = some .local) && !I.L.contains (ixOf x I.N 0)
theorem locOk_of {I : Inf} {x : Str} (h : locOk I x = true) {X : Cx} {E : WS} (ok : InfOk I X E) : X.N[ixOf x I.N 0]? = some x ∧ X.env.scope.names.lookup x = some .local ∧ ixOf x I.N 0 ∉ I.L := by
  simp only [locOk, Bool.and_eq_true, decide_eq_true_eq, Bool.not_eq_true', List.contains_eq_mem, decide_eq_false_iff_not] at h
  exact ⟨by rw [ok.hN]; exact h.1.1, by rw [ok.sc]; exact h.1.2, h.2⟩
def cPar (rc : Rc) (I : Inf) (kt : Nat) (pt : Pos) (k2 : Nat) (pt2 : Pos) (pos : Pos) : ∀ ts vs : List Expr, Option (CS I (.Assign [.Tuple ts kt pt] (.Tuple vs k2 pt2) pos))
  | [.Name x px, .Name y py], [a, b] => if h : locOk I x = true ∧ locOk I y = true ∧ ixOf x I.N 0 ≠ ixOf y I.N 0 ∧ plainE a = true ∧ plainE b = true ∧ swapE (dumEnv I.sc) [.Name x px, .Name y py] [a, b] = true ∧ namesAt (dumEnv I.sc) [.Name x px, .Name y py] = [x, y] then
      match rc.E I a, rc.E I b with
      | some ⟨ma, ha⟩, some ⟨mb, hb⟩ => some ⟨parM [ixOf x I.N 0, ixOf y I.N 0] [ma, mb], fun X E ok => by
          obtain ⟨h1, h2, h3, h4, h5, h6, h7⟩ := h
          obtain ⟨a1, a2, a3⟩ := locOk_of h1 ok
          obtain ⟨b1, b2, b3⟩ := locOk_of h2 ok
          exact ps_par' ok.calm (by rw [ok.hN]; exact ok.nd) a1 b1 h3 a3 b3 a2 b2 (pa_args (ha X E ok) (pa_args (hb X E ok) pa_args_nil (star_of h5)) (star_of h4)) (by rw [swap_of h6 ok.sc, h7]) rfl⟩
      | _, _ => none
    else none
  | [.Name x px, .Name y py, .Name z pz], [a, b, c] => if h : (locOk I x = true ∧ locOk I y = true ∧ locOk I z = true) ∧ (ixOf x I.N 0 ≠ ixOf y I.N 0 ∧ ixOf x I.N 0 ≠ ixOf z I.N 0 ∧ ixOf y I.N 0 ≠ ixOf z I.N 0) ∧ (plainE a = true ∧ plainE b = true ∧ plainE c = true) ∧ swapE (dumEnv I.sc) [.Name x px, .Name y py, .Name z pz] [a, b, c] = true ∧ namesAt (dumEnv I.sc) [.Name x px, .Name y py, .Name z pz] = [x, y, z] then
      match rc.E I a, rc.E I b, rc.E I c with
      | some ⟨ma, ha⟩, some ⟨mb, hb⟩, some ⟨mc, hc⟩ => some ⟨parM [ixOf x I.N 0, ixOf y I.N 0, ixOf z I.N 0] [ma, mb, mc], fun X E ok => by
          obtain ⟨⟨h1, h2, h3⟩, ⟨d1, d2, d3⟩, ⟨p1, p2, p3⟩, h6, h7⟩ := h
          obtain ⟨a1, a2, a3⟩ := locOk_of h1 ok
          obtain ⟨b1, b2, b3⟩ := locOk_of h2 ok
          obtain ⟨c1, c2, c3⟩ := locOk_of h3 ok
          exact ps_par3' ok.calm (by rw [ok.hN]; exact ok.nd) a1 b1 c1 d1 d2 d3 a3 b3 c3 a2 b2 c2 (pa_args (ha X E ok) (pa_args (hb X E ok) (pa_args (hc X E ok) pa_args_nil (star_of p3)) (star_of p2)) (star_of p1)) (by rw [swap_of h6 ok.sc, h7]) rfl⟩
      | _, _, _ => none
    else none
  | _, _ => none
/-- a tuple of targets = e -/
def cUnp (rc : Rc) (I : Inf) (ts : List Expr) (kt : Nat) (pt : Pos) (pos : Pos) (e : Expr) (hw : ∀ env : Env, env.scope = I.sc → swappedStores [.Tuple ts kt pt] e env = pure none) : Option (CS I (.Assign [.Tuple ts kt pt] e pos)) :=
  if hc : notComp e = true then match cTg I I.L 5 (.Tuple ts kt pt), rc.E I e with
    | some ⟨T, hT⟩, some ⟨m, h⟩ => some ⟨asgM T m, fun X E ok => ps_asg' (h X E ok) (hT X E ok) (sole_of hc) (hw _ ok.sc) rfl⟩
    | _, _ => none
  else none
def cAsg (rc : Rc) (I : Inf) (pos : Pos) : ∀ (t e : Expr), Option (CS I (.Assign [t] e pos))
  | .Name x px, e => cSet rc I x px pos e
  | .Tuple ts kt pt, .Tuple vs k2 pt2 => match cPar rc I kt pt k2 pt2 pos ts vs with
    | some c => some c
    | none => if h : noSwapE (dumEnv I.sc) ts vs = true then cUnp rc I ts kt pt pos (.Tuple vs k2 pt2) fun env he => noSwap_of h he else none
  | .Tuple ts kt pt, e => if h : notTup e = true then cUnp rc I ts kt pt pos e fun env he => stores_of (.inr h) else none
  | .Subscript (.Name x p) i tp, e => if hd : (x == ("__debug__" : Str)) = false ∧ (x == ("__classdict__" : Str)) = false ∧ notSlice i = true ∧ notComp e = true then
      if hi : I.N[ixOf x I.N 0]? = some x then
        if hv : I.sc.names.lookup x = some .local ∨ I.sc.names.lookup x = some .cell ∨ I.sc.names.lookup x = some .free then
          match rc.E I e, rc.E I i with
          | some ⟨me, he⟩, some ⟨mi, hi'⟩ => some ⟨setIx (ixOf x I.N 0) me mi, fun X E ok => by
              refine ps_setIx (by rw [ok.hN]; exact hi) (by unfold Vis; rw [ok.sc]; exact hv) hd.1 hd.2.1 (he X E ok) (hi' X E ok) ?_ (sole_of hd.2.2.2) rfl rfl
              have hns := hd.2.2.1
              intro v
              cases i <;> first | rfl | cases hns⟩
          | _, _ => none
        else none
      else none
    else none
  | _, _ => none
def cFor (rc : Rc) (I : Inf) (tg iter : Expr) (b : List Stmt) (pos : Pos) : Option (CS I (.For tg iter b [] pos)) :=
  if hn : notSet iter = true then match cTg I I.L 5 tg, cSrc rc I tg iter, cBody rc I b with
    | some ⟨T, hT⟩, some ⟨src, hs⟩, some ⟨m, h⟩ => some ⟨forS T src m, fun X E ok => ps_for' ok.pass ok.calm (hs X E ok) (hT X E ok) (h X E ok) (folded_of hn)⟩
    | _, _, _ => none
  else none
/-- the fuel of a while -/
def fuel : Nat := 1000000
def stepS (rc : Rc) (I : Inf) : ∀ s : Stmt, Option (CS I s)
  | .Assign [t] e pos => cAsg rc I pos t e
  | .Expr e pos => if h : notComp e = true then match rc.E I e with
    | some ⟨m, k⟩ => some ⟨dropM m, fun X E ok => ps_expr' (k X E ok) (swaps_of h)⟩
    | none => none
    else none
  | .Return (some e) pos => match rc.E I e with
    | some ⟨m, k⟩ => some ⟨retS m, fun X E ok => ps_ret' (k X E ok)⟩
    | none => none
  | .Return none pos => some ⟨retM (.ret (.d .non)), fun X E ok => ps_retN'⟩
  | .If c p q pos => match rc.T I c, cBody rc I p, cBody rc I q with
    | some ⟨mc, hc⟩, some ⟨ma, ha⟩, some ⟨mb, hb⟩ => some ⟨ifS mc ma mb, fun X E ok => ps_if' (hc X E ok) (ha X E ok) (hb X E ok)⟩
    | _, _, _ => none
  | .For tg iter b [] pos => cFor rc I tg iter b pos
  | .While c b [] pos => match rc.T I c, cBody rc I b with
    | some ⟨mc, hc⟩, some ⟨m, h⟩ => some ⟨whileM fuel mc m, fun X E ok => ps_while' fuel ok.pass (hc X E ok) (h X E ok)⟩
    | _, _ => none
  | .Pass pos => some ⟨retM .next, fun X E ok => ps_pass'⟩
  | .Break pos => some ⟨retM .brk, fun X E ok => ps_break'⟩
  | .Continue pos => some ⟨retM .cont, fun X E ok => ps_cont'⟩
  | _ => none
/-! what no rule serves is never come to -/
theorem pe_nope {X : Cx} {E : WS} {e : Expr} : PE X e (tR (gx X) E nopeM) := ⟨fun _ _ _ _ _ _ ⟨_, _, _, _, w⟩ => w.elim⟩
theorem pt_nope {X : Cx} {E : WS} {e : Expr} : PT X e (tT (gx X) E nopeM) := ⟨fun _ _ _ _ _ _ ⟨_, _, _, _, w⟩ => w.elim⟩
theorem ps_nope {X : Cx} {E : WS} {L : List Nat} {e : Stmt} : PS X e (tS (gx X) E L nopeM) := ⟨fun _ _ _ _ _ _ ⟨_, _, _, _, w⟩ => w.elim⟩
def orE {I : Inf} {e : Expr} : Option (CE I e) → Option (CE I e)
  | some c => some c
  | none => some ⟨nopeM, fun X E ok => pe_nope⟩
def orT {I : Inf} {e : Expr} : Option (CT I e) → Option (CT I e)
  | some c => some c
  | none => some ⟨nopeM, fun X E ok => pt_nope⟩
def orS {I : Inf} {e : Stmt} : Option (CS I e) → Option (CS I e)
  | some c => some c
  | none => some ⟨nopeM, fun X E ok => ps_nope⟩
def rcs : Nat → Rc
  | 0 => ⟨fun _ _ => none, fun _ _ => none, fun _ _ => none⟩
  | n + 1 => ⟨fun I e => orE (stepE (rcs n) I e), fun I e => orT (stepT (rcs n) I e), fun I s => orS (stepS (rcs n) I s)⟩

/-! ### a def -/
structure DefI where
  x : Str
  qual : Str
  ps : List Str
  N : List Str
  L : List Nat
def infOf (d : DefI) (sc : Scope) (fns : List FnI) (blt : List Str) (imp : List (Str × String)) : Inf := ⟨d.N, sc, fun _ => true, d.L, fns, blt, imp⟩
/-- the def's body, compiled -/
def cDef (d : DefI) (st : Stmt) (fns : List FnI) (blt : List Str) (imp : List (Str × String)) : Option (CSs (infOf d (defScope st) fns blt imp) (defBody st)) := cBody (rcs 24) (infOf d (defScope st) fns blt imp) (defBody st)
def scopeOk (d : DefI) (sc : Scope) : Bool :=
  (match sc.kind with | .function => true | _ => false) && !sc.isCoroutine && !sc.isGenerator && decide d.N.Nodup && decide (d.N.take d.ps.length = d.ps) &&
  (d.ps.all fun x => decide (sc.names.lookup x = some .local) || decide (sc.names.lookup x = some .cell)) && (sc.names.all fun y => match y.2 with | .free => false | _ => true)
theorem scopeOk_of {d : DefI} {sc : Scope} (h : scopeOk d sc = true) : FnScope d.N d.ps sc := by
  simp only [scopeOk, Bool.and_eq_true, Bool.not_eq_true', decide_eq_true_eq, List.all_eq_true, Bool.or_eq_true] at h
  obtain ⟨⟨⟨⟨⟨⟨h1, h2⟩, h3⟩, h4⟩, h5⟩, h6⟩, h7⟩ := h
  refine ⟨?_, h2, h3, h4, h5, h6, fun y hy z => ?_⟩
  · cases e : sc.kind <;> rw [e] at h1 <;> first | rfl | cases h1
  · have := h7 y hy
    rw [z] at this; cases this
/-- a global def as it stands: what it does, and how it may be called -/
structure Glob (P : Program) (w : World) (K : PySem.W.Frag) (mg : Str → Option Value) (base : Heap) (k : Nat) (f : FnI) : Prop where
  ex : ∃ (a : Addr) (fd : FuncData) (ps : List Str), FnOk P w K mg base (L2.CX P w) k a fd ps (spOf ⟨K, mg⟩ f.n f.fn) ∧ ps.length = f.n ∧ mg f.x = some (.ref a) ∧ PySem.W.keepIn K (.ref a) = true ∧
    ∀ p ∈ f.pats, (∃ (dvs : List V) (ds : List Value), Vals dvs ds ∧ (∀ F, RpA ⟨K, mg⟩ F dvs p.2.2.1) ∧ ∀ (s : Shared) (us ws : List Value), K.In s.heap → us.length = p.1 → ws.length = p.2.1.length → BindsTo s fd ⟨us, p.2.1.zip ws⟩ (ps.zip (pick p.2.2.2 (us ++ ws ++ ds)))) ∧
      ∀ {α : Type} (l : List α), l.length = p.1 + p.2.1.length + p.2.2.1.length → (pick p.2.2.2 l).length = f.n
theorem Glob.mono {P : Program} {w : World} {K : PySem.W.Frag} {mg : Str → Option Value} {base : Heap} {k j : Nat} {f : FnI} (g : Glob P w K mg base k f) (h : k ≤ j) : Glob P w K mg base j f := by
  obtain ⟨a, fd, ps, h1, h2⟩ := g.ex
  exact ⟨a, fd, ps, h1.mono h, h2⟩
end Ev

set_option Elab.async false
set_option linter.all false
set_option maxRecDepth 100000
namespace Ev
open PySem PySem.Spec PyProof.Rows L2

/-! ### the head: facts by names, and one Bool more -/
abbrev AlE : Type := He.AlD × Bool
def obsE (fa : List He.Fa) (fn : List He.DefD) (ex : PySem.W.Frag → Bool) (K : PySem.W.Frag) : AlE := (He.obsD fa fn K, ex K)
def SaysE (fa : List He.Fa) (fn : List He.DefD) (ex : PySem.W.Frag → Bool) (K : PySem.W.Frag) : Prop := obsE fa fn ex K = (He.valD fn, true)
def obsEG (n : Nat) (fa : List He.Fa) (fn : List He.DefD) (ex : PySem.W.Frag → Bool) (g : Addr → Option Obj) : AlE := obsE fa fn ex (He.frG g (He.asD g n))
def hookE (n : Nat) (fa : List He.Fa) (fn : List He.DefD) (ex : PySem.W.Frag → Bool) : PySem.W.Hook where
  α := AlE
  obs := fun s => obsEG n fa fn ex s.heap.get?
  val := fun _ => (He.valD fn, true)
  says := fun _ h => ∃ K : PySem.W.Frag, K.In h ∧ SaysE fa fn ex K
  of := fun _ _ e => ⟨_, He.frG_in, e⟩
  keeps := fun _ _ _ ⟨K, hK, c⟩ k => ⟨K, PySem.W.Frag.In.keeps hK k, c⟩
theorem obsEG_eq {n : Nat} {fa : List He.Fa} {fn : List He.DefD} {ex : PySem.W.Frag → Bool} {g : Addr → Option Obj} {s : Shared} (h : ∀ a, g a = s.heap.get? a) : obsEG n fa fn ex g = (hookE n fa fn ex).obs s := by
  have : g = s.heap.get? := funext h
  rw [this]; rfl
theorem SaysE.d {fa : List He.Fa} {fn : List He.DefD} {ex : PySem.W.Frag → Bool} {K : PySem.W.Frag} (c : SaysE fa fn ex K) : He.SaysD fa fn K := congrArg (fun z : AlE => z.1) c
theorem SaysE.ex {fa : List He.Fa} {fn : List He.DefD} {ex : PySem.W.Frag → Bool} {K : PySem.W.Frag} (c : SaysE fa fn ex K) : ex K = true := congrArg (fun z : AlE => z.2) c
/-- names that stand for built-in functions -/
def impB (l : List (Str × String)) (K : PySem.W.Frag) : Bool := l.all fun p => He.eqO (PySem.W.nsIn K mainGlobals p.1) (some (some (.builtin p.2)))

/-! ### a def as it stands, and how it may be called -/
def defD (d : DefI) (st : Stmt) (dfl : List He.Dv) (kwd : List (Str × He.Dv)) : He.DefD := ⟨(d.x, none), d.x, d.qual, defArgs st, defBody st, defScope st, dfl, kwd⟩
section
variable {P : Program} {w : World} {K : PySem.W.Frag} {mg : Str → Option Value} {base : Heap}
/-- a way to call a def: how its arguments are bound -/
def PatOk (K : PySem.W.Frag) (mg : Str → Option Value) (fd : FuncData) (ps : List Str) (p : Nat × List Str × List D × List Nat) : Prop :=
  (∃ (dvs : List V) (ds : List Value), Vals dvs ds ∧ (∀ F, RpA ⟨K, mg⟩ F dvs p.2.2.1) ∧ ∀ (s : Shared) (us ws : List Value), K.In s.heap → us.length = p.1 → ws.length = p.2.1.length → BindsTo s fd ⟨us, p.2.1.zip ws⟩ (ps.zip (pick p.2.2.2 (us ++ ws ++ ds)))) ∧
      ∀ {α : Type} (l : List α), l.length = p.1 + p.2.1.length + p.2.2.1.length → (pick p.2.2.2 l).length = ps.length
theorem pick_len {α : Type} {sel : List Nat} {l : List α} {n : Nat} (h : sel.all (· < n) = true) (hl : l.length = n) : (pick sel l).length = sel.length := by
  unfold pick
  induction sel with
  | nil => rfl
  | cons a r ih =>
    rw [List.all_cons, Bool.and_eq_true, decide_eq_true_eq] at h
    obtain ⟨x, hx⟩ := idx (l := l) (i := a) (by rw [hl]; exact h.1)
    rw [List.filterMap_cons, hx, List.length_cons, List.length_cons, ih h.2]
/-- every parameter is written -/
theorem pat_plain {x qual : Str} {a : Arguments} {b : List Stmt} {sc : Scope} {dvs : List V} {kws : List (Str × V)} {f : Addr} {fd : FuncData} {ps : List Str} {np : Nat} {ks : List Str} {sel : List Nat} (F : FunD K x qual a b sc dvs kws f fd) (hd : dvs = [])
    (h : ∀ (kV doc pm : Value) (an : Option Addr) (cdv ct : Value) (us ws : List Value), us.length = np → ws.length = ks.length → bindArgs (PySem.W.fnOf x qual a b sc .none kV doc pm an cdv ct) ⟨us, ks.zip ws⟩ = pure (ps.zip (pick sel (us ++ ws ++ []))))
    (hs : sel.all (· < np + ks.length) = true) (hl : sel.length = ps.length) : PatOk K mg fd ps (np, ks, [], sel) := by
  obtain ⟨oc, od, dV, kV, doc, pm, an, cdv, ct, osl, rfl, _, _, hD, _⟩ := F.ex
  have e : dV = .none := by
    rcases hD with ⟨_, e⟩ | ⟨z, _⟩
    · exact e
    · exact absurd hd z
  subst e
  refine ⟨⟨[], [], .nil, fun _ => .nil, fun s us ws X h1 h2 => .of_eq (h kV doc pm an cdv ct us ws h1 h2)⟩, fun l hl' => ?_⟩
  rw [pick_len hs (by simpa using hl'), hl]
/-- the last defaults fill up -/
theorem pat_dfl {x qual : Str} {a : Arguments} {b : List Stmt} {sc : Scope} {dvs : List V} {kws : List (Str × V)} {f : Addr} {fd : FuncData} {ps : List Str} {np : Nat} {ks : List Str} {sel : List Nat} {dd : List D} (F : FunD K x qual a b sc dvs kws f fd) (j : Nat) (hd : dvs ≠ [])
    (hr : ∀ F, RpA ⟨K, mg⟩ F (dvs.drop j) dd)
    (h : ∀ (T : Addr) (kV doc pm : Value) (an : Option Addr) (cdv ct : Value) (us ws its : List Value), us.length = np → ws.length = ks.length → its.length = dvs.length → ∃ k, bindArgs (PySem.W.fnOf x qual a b sc (.ref T) kV doc pm an cdv ct) ⟨us, ks.zip ws⟩ = seqItems? (.ref T) >>= k ∧ k (some its.toArray) = pure (ps.zip (pick sel (us ++ ws ++ its.drop j))))
    (hs : sel.all (· < np + ks.length + dd.length) = true) (hl : sel.length = ps.length) : PatOk K mg fd ps (np, ks, dd, sel) := by
  obtain ⟨oc, od, dV, kV, doc, pm, an, cdv, ct, osl, rfl, lk, hcd, hD, hK⟩ := F.ex
  rcases hD with ⟨e, _⟩ | ⟨_, T, o, its, m, rfl, lT, oT, rT⟩
  · exact absurd e hd
  · refine ⟨⟨dvs.drop j, its.drop j, rT.drop j, hr, fun s us ws X h1 h2 => ?_⟩, fun l hl' => ?_⟩
    · obtain ⟨k, e1, e2⟩ := h T kV doc pm an cdv ct us ws its h1 h2 rT.length.symm
      refine BindsTo.of_looks fun M => ?_
      rw [e1]
      exact looks_items X lT oT (PySem.W.Looks.of_pure e2)
    · rw [pick_len hs (by simpa using hl'), hl]
theorem fn_okD {x qual : Str} {st : Stmt} {f : Addr} {fd : FuncData} {N ps : List Str} {k nk : Nat} {L : List Nat} {m : M Fl} {dvs : List V} {kws : List (Str × V)} (Fu : FunD K x qual (defArgs st) (defBody st) (defScope st) dvs kws f fd) (Sc : FnScope N ps (defScope st))
    (hbody : ∀ (cdv : Value) (A : Around) (outer : List Env) (s : Shared) (H : Hp) (E : XK), Room k (A.deeper (envOfC qual (defScope st) s.heap.objs.size f cdv)) →
      PSs (cxOf (L2.CX P w) P w K mg base N qual (defScope st) f cdv A outer s H E) (defBody st) (tS ⟨K, mg⟩ (fun _ => E) L m)) :
    FnOk P w K mg base (L2.CX P w) (k + 1) f fd ps (spOf ⟨K, mg⟩ ps.length (bodyFn ps.length nk L m)) := by
  refine Fu.ok Sc (fun vs H Q E h => h.1) fun cdv A outer s H vs Q E hr h => ⟨_, hbody cdv A outer s H E hr, body_end h⟩
/-- THE RULE: a def of the text, compiled -/
theorem fnok_of {d : DefI} {st : Stmt} {a : Addr} {fd : FuncData} {fns : List FnI} {blt : List Str} {imp : List (Str × String)} {k : Nat} {m : M Fl} {dvs : List V} {kws : List (Str × V)} (Fu : FunD K d.x d.qual (defArgs st) (defBody st) (defScope st) dvs kws a fd) (hs : scopeOk d (defScope st) = true)
    (hblt : ∀ x ∈ blt, mg x = none) (himp : ∀ p ∈ imp, mg p.1 = some (.builtin p.2)) (hfn : ∀ g ∈ fns, Glob P w K mg base k g) (hc : (cDef d st fns blt imp).map (·.1) = some m) (nk : Nat) :
    FnOk P w K mg base (L2.CX P w) (k + 1) a fd d.ps (spOf ⟨K, mg⟩ d.ps.length (bodyFn d.ps.length nk d.L m)) := by
  rw [Option.map_eq_some_iff] at hc
  obtain ⟨c, hc, rfl⟩ := hc
  have Sc := scopeOk_of hs
  refine fn_okD Fu Sc fun cdv A outer s H E hr => ?_
  refine c.2 (cxOf (L2.CX P w) P w K mg base d.N d.qual (defScope st) a cdv A outer s H E) (fun _ => E) ?_
  have tk : Takes (cxOf (L2.CX P w) P w K mg base d.N d.qual (defScope st) a cdv A outer s H E) (fun cls dd _ H => E cls dd H) := takes_of rfl rfl rfl rfl
  refine ⟨rfl, rfl, rfl, Sc.nd, rfl, hr.units, hblt, himp, fun g hg p hp => ?_, PassesOwn.leaving⟩
  obtain ⟨a', fd', ps', h1, h2, h3, h4, h5⟩ := (hfn g hg).ex
  obtain ⟨⟨dvs', ds', r1, r2, r3⟩, sl⟩ := h5 p hp
  exact ⟨⟨a', fd', ps', k, dvs', ds', h1, h2, hr, h3, h4, r1, r2, r3⟩, sl, fun σ => passAt tk σ⟩
/-- .. as it may be called -/
theorem glob_of {d : DefI} {st : Stmt} {a : Addr} {fd : FuncData} {fns : List FnI} {blt : List Str} {imp : List (Str × String)} {k : Nat} {m : M Fl} {dvs : List V} {kws : List (Str × V)} (pats : List (Nat × List Str × List D × List Nat)) (Fu : FunD K d.x d.qual (defArgs st) (defBody st) (defScope st) dvs kws a fd) (hs : scopeOk d (defScope st) = true)
    (hblt : ∀ x ∈ blt, mg x = none) (himp : ∀ p ∈ imp, mg p.1 = some (.builtin p.2)) (hfn : ∀ g ∈ fns, Glob P w K mg base k g) (hc : (cDef d st fns blt imp).map (·.1) = some m) (hm : mg d.x = some (.ref a)) (hp : ∀ p ∈ pats, PatOk K mg fd d.ps p) (nk : Nat) (lent : List Nat) :
    Glob P w K mg base (k + 1) ⟨d.x, d.ps.length, lent, pats, bodyFn d.ps.length nk d.L m⟩ :=
  ⟨a, fd, d.ps, fnok_of Fu hs hblt himp hfn hc nk, rfl, hm, Fu.kp, hp⟩
/-- a def that is never come to -/
theorem glob_none {x : Str} {n : Nat} {lent : List Nat} {pats : List (Nat × List Str × List D × List Nat)} {a : Addr} {fd : FuncData} {ps : List Str} (hm : mg x = some (.ref a)) (hk : PySem.W.keepIn K (.ref a) = true) (hn : ps.length = n) (hp : ∀ p ∈ pats, PatOk K mg fd ps p) (k : Nat) : Glob P w K mg base k ⟨x, n, lent, pats, fun _ => none⟩ := by
  subst hn
  refine ⟨a, fd, ps, ⟨fun vs H Q E h => h.1, fun A outer s H args us vs Q E hr e0 hb r h => ?_⟩, rfl, hm, hk, hp⟩
  obtain ⟨_, O, F, ss, _, _, z⟩ := h
  exact z.elim
end
/-! short words for the generated rows -/
section
variable {P : Program} {w : World} {K : PySem.W.Frag} {mg : Str → Option Value} {base : Heap} {k : Nat}
theorem gl_nil : ∀ g ∈ ([] : List FnI), Glob P w K mg base k g := fun _ h => nomatch h
theorem gl_cons {f : FnI} {fs : List FnI} (h : Glob P w K mg base k f) (r : ∀ g ∈ fs, Glob P w K mg base k g) : ∀ g ∈ f :: fs, Glob P w K mg base k g := fun g hg => (List.mem_cons.mp hg).elim (fun e => e ▸ h) (r g)
theorem bl_nil : ∀ x ∈ ([] : List Str), mg x = none := fun _ h => nomatch h
theorem bl_cons {x : Str} {xs : List Str} (h : mg x = none) (r : ∀ y ∈ xs, mg y = none) : ∀ y ∈ x :: xs, mg y = none := fun y hy => (List.mem_cons.mp hy).elim (fun e => e ▸ h) (r y)
theorem im_nil : ∀ p ∈ ([] : List (Str × String)), mg p.1 = some (.builtin p.2) := fun _ h => nomatch h
theorem pt_nil {fd : FuncData} {ps : List Str} : ∀ p ∈ ([] : List (Nat × List Str × List D × List Nat)), PatOk K mg fd ps p := fun _ h => nomatch h
theorem pt_cons {fd : FuncData} {ps : List Str} {p : Nat × List Str × List D × List Nat} {l : List (Nat × List Str × List D × List Nat)} (h : PatOk K mg fd ps p) (r : ∀ q ∈ l, PatOk K mg fd ps q) : ∀ q ∈ p :: l, PatOk K mg fd ps q := fun q hq => (List.mem_cons.mp hq).elim (fun e => e ▸ h) (r q)
theorem imp_ok {l : List (Str × String)} {h : Heap} (c : impB l K = true) (X : K.In h) (G : h.Ns mainGlobals mg) : ∀ p ∈ l, mg p.1 = some (.builtin p.2) := fun p hp => PySem.W.mg_of X G (He.eqO_ok (List.all_eq_true.mp c p hp))
end
theorem scrA {g : Gx} {F : Hp} : ∀ ns : List Int, RpA g F (ns.map V.int) (ns.map D.int)
  | [] => .nil
  | n :: r => .cons (.int n) (scrA r)
/-- what the law is to do -/
def spLaw (K : PySem.W.Frag) : Sp := fun vs H Q _ => ∃ (a : Addr) (ns : List Int), vs = [.ref a] ∧ SqL K H a (ns.map V.int) ∧ ns.length ≤ 63 ∧ (∀ z ∈ ns, Builtin.Int.intBits z ≤ 1048576) ∧ ∀ H', Q (.bl true) H'
/-- the law's def by data is true of every script -/
def TrueFn (fn : Fn) : Prop := ∀ ns : List Int, ns.length ≤ 63 → (∀ z ∈ ns, Builtin.Int.intBits z ≤ 1048576) → ∃ δ', fn [.d (.scr (ns.map D.int))] = some (.ok (.d (.bl true)) δ')
theorem law_sp {g : Gx} {fn : Fn} (hm : TrueFn fn) (vs : List V) (H : Hp) (Q : VK) (E : XK) (h : spLaw g.K vs H Q E) : spOf g 1 fn vs H Q E := by
  obtain ⟨a, ns, rfl, hS, hl, hb, hQ⟩ := h
  obtain ⟨δ', h⟩ := hm ns hl hb
  refine ⟨rfl, fun _ => none, H, [.d (.scr (ns.map D.int))], rfl, ⟨Same.refl _, (fun _ _ z => nomatch z), fun _ => .inr rfl, fun i s hi => ?_, fun i j xs ys v h1 => ?_⟩, ?_⟩
  · cases i with
    | zero => cases hi; exact ⟨_, rfl, .scr hS (scrA ns)⟩
    | succ i => cases hi
  · cases i with
    | zero => cases h1
    | succ i => cases h1
  · unfold wp
    simp only [h]
    intro F' H' s M v hv
    cases hv; exact hQ _
theorem walk {l : PySem.W.OpenLaw} {q : Program} {loose : List Str} {XP : (Str → Option Value) → Heap → Prop} {YP : World → Heap → Prop} {d : DefRec} {K : Params → PySem.W.Frag} {k : Nat} {x : Str} (hn : l.most = some 63) (hdf : d.params.defaults = []) (hr : Room k callerA)
    (hY : ∀ (w : World) (h : Heap), YP w h → (K w.params).In h)
    (F : ∀ (w : World) (mg : Str → Option Value) (fa : Addr) (h : Heap), (K w.params).In h → h.Ns mainGlobals mg → mg d.name = some (.ref fa) →
      ∃ fd : FuncData, (∀ (s : Shared) (u : Value), BindsTo s fd ⟨[u], []⟩ [(x, u)]) ∧ ∀ base : Heap, FnOk l.prog w (K w.params) mg base (L2.CX l.prog w) k fa fd [x] (spLaw (K w.params))) :
    PySem.W.WalkO q loose XP YP l.row.toRowW d [] (fun f vs => PySem.call f vs) :=
  L2.walk_ofB (n := 63) (k := k) (x := x) (CX := fun w => L2.CX l.prog w) (sp := fun w => spLaw (K w.params)) hn (by decide) hdf hr hY (fun w mg fa h X G hm => by
    obtain ⟨fd, h1, h2⟩ := F w mg fa h X G hm
    exact ⟨fd, h1, fun base _ _ => h2 base⟩) (fun w H a ns hl hb _ hS => ⟨a, ns, rfl, hS, hl, hb, fun _ => rfl⟩) fun w H s e s' h => by
    obtain ⟨_, _, _, _, _, _, _, _, _, _, _, _, z⟩ := h
    exact z
end Ev

set_option Elab.async false
set_option linter.all false
set_option maxRecDepth 100000
namespace Ev
open PySem PySem.Spec PyProof.Rows L2
def lessD := ltD fun i j => decide (i < j)
def lesseqD := ltD fun i j => decide (i ≤ j)
def moreD := ltD fun i j => decide (j < i)
def moreeqD := ltD fun i j => decide (j ≤ i)
def topS (i : Nat) : Stmt := PySem.Challenge.pw_brookworks_k02_numbers_reckoned.main.body.getD i (.Pass ⟨0, 0, 0, 0⟩)
def d_num_of : DefI := ⟨"num_of", "num_of", ["number", "parts"], ["number", "parts", "common"], []⟩
def blt_num_of : List Str := []
def imp_num_of : List (Str × String) := [("gcd", "math.gcd")]
def fns_num_of : List FnI := []
def m_num_of : M Fl := (seqM (setS 2 (opN gcdD [(slotM 0), (slotM 1)])) (seqM (retS (tupM [(op2 fdivD (slotM 0) (slotM 2)), (op2 fdivD (slotM 1) (slotM 2))])) (retM .next)))
def f_num_of : FnI := ⟨"num_of", 2, [], [(2, [], [], [0, 1]), (1, [], [(.int 1)], [0, 1]), (0, ["number", "parts"], [], [0, 1])], bodyFn 2 1 [] m_num_of⟩
theorem c_num_of : (cDef d_num_of (topS 2) fns_num_of blt_num_of imp_num_of).map (·.1) = some m_num_of := by kernel_rfl
theorem s_num_of : scopeOk d_num_of (defScope (topS 2)) = true := by decide +kernel
def d_sum_of : DefI := ⟨"sum_of", "sum_of", ["one", "other"], ["one", "other", "parts"], []⟩
def blt_sum_of : List Str := ["max"]
def imp_sum_of : List (Str × String) := []
def fns_sum_of : List FnI := [f_num_of]
def m_sum_of : M Fl := (seqM (setS 2 (opN max2D [(op2 ixD (slotM 0) (cD (.int 1))), (op2 ixD (slotM 1) (cD (.int 1)))])) (seqM (retS (callG f_num_of.fn [0, 1] [] [.val (op2 addD (op2 mulD (op2 ixD (slotM 0) (cD (.int 0))) (op2 fdivD (slotM 2) (op2 ixD (slotM 0) (cD (.int 1))))) (op2 mulD (op2 ixD (slotM 1) (cD (.int 0))) (op2 fdivD (slotM 2) (op2 ixD (slotM 1) (cD (.int 1)))))), .val (slotM 2)] [])) (retM .next)))
def f_sum_of : FnI := ⟨"sum_of", 2, [], [(2, [], [], [0, 1])], bodyFn 2 1 [] m_sum_of⟩
theorem c_sum_of : (cDef d_sum_of (topS 3) fns_sum_of blt_sum_of imp_sum_of).map (·.1) = some m_sum_of := by kernel_rfl
theorem s_sum_of : scopeOk d_sum_of (defScope (topS 3)) = true := by decide +kernel
def d_less_of : DefI := ⟨"less_of", "less_of", ["one", "other"], ["one", "other"], []⟩
def blt_less_of : List Str := []
def imp_less_of : List (Str × String) := []
def fns_less_of : List FnI := [f_sum_of]
def m_less_of : M Fl := (seqM (retS (callG f_sum_of.fn [0, 1] [] [.val (slotM 0), .val (tupM [(op1 negD (op2 ixD (slotM 1) (cD (.int 0)))), (op2 ixD (slotM 1) (cD (.int 1)))])] [])) (retM .next))
def f_less_of : FnI := ⟨"less_of", 2, [], [(2, [], [], [0, 1])], bodyFn 2 0 [] m_less_of⟩
theorem c_less_of : (cDef d_less_of (topS 4) fns_less_of blt_less_of imp_less_of).map (·.1) = some m_less_of := by kernel_rfl
theorem s_less_of : scopeOk d_less_of (defScope (topS 4)) = true := by decide +kernel
def d_times_of : DefI := ⟨"times_of", "times_of", ["one", "other"], ["one", "other"], []⟩
def blt_times_of : List Str := []
def imp_times_of : List (Str × String) := []
def fns_times_of : List FnI := [f_num_of]
def m_times_of : M Fl := (seqM (retS (callG f_num_of.fn [0, 1] [] [.val (op2 mulD (op2 ixD (slotM 0) (cD (.int 0))) (op2 ixD (slotM 1) (cD (.int 0)))), .val (op2 mulD (op2 ixD (slotM 0) (cD (.int 1))) (op2 ixD (slotM 1) (cD (.int 1))))] [])) (retM .next))
def f_times_of : FnI := ⟨"times_of", 2, [], [(2, [], [], [0, 1])], bodyFn 2 0 [] m_times_of⟩
theorem c_times_of : (cDef d_times_of (topS 5) fns_times_of blt_times_of imp_times_of).map (·.1) = some m_times_of := by kernel_rfl
theorem s_times_of : scopeOk d_times_of (defScope (topS 5)) = true := by decide +kernel
def d_is_below : DefI := ⟨"is_below", "is_below", ["one", "other"], ["one", "other"], []⟩
def blt_is_below : List Str := []
def imp_is_below : List (Str × String) := []
def fns_is_below : List FnI := []
def m_is_below : M Fl := (seqM (retS (op2 lessD (op2 mulD (op2 ixD (slotM 0) (cD (.int 0))) (op2 ixD (slotM 1) (cD (.int 1)))) (op2 mulD (op2 ixD (slotM 1) (cD (.int 0))) (op2 ixD (slotM 0) (cD (.int 1)))))) (retM .next))
def f_is_below : FnI := ⟨"is_below", 2, [], [(2, [], [], [0, 1])], bodyFn 2 0 [] m_is_below⟩
theorem c_is_below : (cDef d_is_below (topS 6) fns_is_below blt_is_below imp_is_below).map (·.1) = some m_is_below := by kernel_rfl
theorem s_is_below : scopeOk d_is_below (defScope (topS 6)) = true := by decide +kernel
def d_least_num : DefI := ⟨"least_num", "least_num", ["some"], ["some", "least", "one"], []⟩
def blt_least_num : List Str := []
def imp_least_num : List (Str × String) := []
def fns_least_num : List FnI := [f_is_below]
def m_least_num : M Fl := (seqM (setS 1 (op2 ixD (slotM 0) (cD (.int 0)))) (seqM (forS (.nm 2) (srcM (slotM 0)) (seqM (ifS (truM (callG f_is_below.fn [0, 1] [] [.val (slotM 2), .val (slotM 1)] [])) (seqM (setS 1 (slotM 2)) (retM .next)) (retM .next)) (retM .next))) (seqM (retS (slotM 1)) (retM .next))))
def f_least_num : FnI := ⟨"least_num", 1, [], [(1, [], [], [0])], bodyFn 1 2 [] m_least_num⟩
theorem c_least_num : (cDef d_least_num (topS 7) fns_least_num blt_least_num imp_least_num).map (·.1) = some m_least_num := by kernel_rfl
theorem s_least_num : scopeOk d_least_num (defScope (topS 7)) = true := by decide +kernel
def d_most_num : DefI := ⟨"most_num", "most_num", ["some"], ["some", "most", "one"], []⟩
def blt_most_num : List Str := []
def imp_most_num : List (Str × String) := []
def fns_most_num : List FnI := [f_is_below]
def m_most_num : M Fl := (seqM (setS 1 (op2 ixD (slotM 0) (cD (.int 0)))) (seqM (forS (.nm 2) (srcM (slotM 0)) (seqM (ifS (truM (callG f_is_below.fn [0, 1] [] [.val (slotM 1), .val (slotM 2)] [])) (seqM (setS 1 (slotM 2)) (retM .next)) (retM .next)) (retM .next))) (seqM (retS (slotM 1)) (retM .next))))
def f_most_num : FnI := ⟨"most_num", 1, [], [(1, [], [], [0])], bodyFn 1 2 [] m_most_num⟩
theorem c_most_num : (cDef d_most_num (topS 8) fns_most_num blt_most_num imp_most_num).map (·.1) = some m_most_num := by kernel_rfl
theorem s_most_num : scopeOk d_most_num (defScope (topS 8)) = true := by decide +kernel
def d_figures_of : DefI := ⟨"figures_of", "figures_of", ["one"], ["one"], []⟩
def blt_figures_of : List Str := []
def imp_figures_of : List (Str × String) := []
def fns_figures_of : List FnI := []
def m_figures_of : M Fl := (seqM (retS (op2 subD (op1 bitsD (op2 ixD (slotM 0) (cD (.int 1)))) (cD (.int 1)))) (retM .next))
def f_figures_of : FnI := ⟨"figures_of", 1, [], [(1, [], [], [0])], bodyFn 1 0 [] m_figures_of⟩
theorem c_figures_of : (cDef d_figures_of (topS 9) fns_figures_of blt_figures_of imp_figures_of).map (·.1) = some m_figures_of := by kernel_rfl
theorem s_figures_of : scopeOk d_figures_of (defScope (topS 9)) = true := by decide +kernel
def d_cut_of : DefI := ⟨"cut_of", "cut_of", ["one", "figures"], ["one", "figures", "spare"], []⟩
def blt_cut_of : List Str := []
def imp_cut_of : List (Str × String) := []
def fns_cut_of : List FnI := [f_num_of, f_figures_of]
def m_cut_of : M Fl := (seqM (setS 2 (op2 subD (callG f_figures_of.fn [0] [] [.val (slotM 0)] []) (slotM 1))) (seqM (ifS (blM (op2 lesseqD (slotM 2) (cD (.int 0)))) (seqM (retS (slotM 0)) (retM .next)) (retM .next)) (seqM (retS (callG f_num_of.fn [0, 1] [] [.val (op2 shrD (op2 ixD (slotM 0) (cD (.int 0))) (slotM 2)), .val (op2 shrD (op2 ixD (slotM 0) (cD (.int 1))) (slotM 2))] [])) (retM .next))))
def f_cut_of : FnI := ⟨"cut_of", 2, [], [(2, [], [], [0, 1])], bodyFn 2 1 [] m_cut_of⟩
theorem c_cut_of : (cDef d_cut_of (topS 10) fns_cut_of blt_cut_of imp_cut_of).map (·.1) = some m_cut_of := by kernel_rfl
theorem s_cut_of : scopeOk d_cut_of (defScope (topS 10)) = true := by decide +kernel
def d_l_dip : DefI := ⟨"_law_dip", "_law_dip", ["_law_script", "_law_k"], ["_law_script", "_law_k", "_law_cell"], []⟩
def blt_l_dip : List Str := ["abs", "int", "len"]
def imp_l_dip : List (Str × String) := []
def fns_l_dip : List FnI := []
def m_l_dip : M Fl := (seqM (setS 2 (ifM (blM (op2 lessD (slotM 1) (opN lenD [(slotM 0)]))) (op2 ixD (slotM 0) (slotM 1)) (cD (.int 0)))) (seqM (retS (lstM [(op2 mulD (opN absD [(slotM 2)]) (opN intF [(op2 moreeqD (opN absD [(slotM 2)]) (op2 powD (cD (.int 10)) (cD (.int 18))))])), (op2 addD (op2 addD (op2 modD (slotM 2) (cD (.int 2305843009213693951))) (op2 mulD (cD (.int 39373)) (slotM 1))) (cD (.int 17))), (cD (.int 0))])) (retM .next)))
def f_l_dip : FnI := ⟨"_law_dip", 2, [], [(2, [], [], [0, 1])], bodyFn 2 1 [] m_l_dip⟩
theorem c_l_dip : (cDef d_l_dip (topS 12) fns_l_dip blt_l_dip imp_l_dip).map (·.1) = some m_l_dip := by kernel_rfl
theorem s_l_dip : scopeOk d_l_dip (defScope (topS 12)) = true := by decide +kernel
def d_l_take : DefI := ⟨"_law_take", "_law_take", ["_law_box", "_law_many"], ["_law_box", "_law_many", "_law_once", "_law_pair", "_law_found"], [0]⟩
def blt_l_take : List Str := []
def imp_l_take : List (Str × String) := []
def fns_l_take : List FnI := []
def m_l_take : M Fl := (seqM (ifS (blM (op2 moreD (op2 ixD (slotM 0) (cD (.int 0))) (cD (.int 0)))) (seqM (setS 4 (op2 modD (op2 ixD (slotM 0) (cD (.int 0))) (slotM 1))) (seqM (setIx 0 (op2 fdivD (op2 ixD (slotM 0) (cD (.int 0))) (slotM 1)) (cD (.int 0))) (seqM (retS (slotM 4)) (retM .next)))) (retM .next)) (seqM (setIx 0 (op2 addD (op2 ixD (slotM 0) (cD (.int 2))) (cD (.int 1))) (cD (.int 2))) (seqM (setS 2 (op2 modD (op2 powD (op2 addD (op2 ixD (slotM 0) (cD (.int 1))) (op2 mulD (cD (.int 39373)) (op2 ixD (slotM 0) (cD (.int 2))))) (cD (.int 5))) (cD (.int 2147483647)))) (seqM (setS 3 (op2 modD (op2 mulD (op2 addD (op2 addD (slotM 2) (op2 ixD (slotM 0) (cD (.int 2)))) (op2 fdivD (op2 ixD (slotM 0) (cD (.int 1))) (cD (.int 1000003)))) (op2 addD (op2 addD (op2 modD (slotM 2) (cD (.int 40009))) (cD (.int 7))) (op2 ixD (slotM 0) (cD (.int 2))))) (cD (.int 2147483629)))) (seqM (retS (op2 modD (op2 fdivD (op2 modD (op2 addD (op2 mulD (slotM 3) (cD (.int 48271))) (slotM 2)) (cD (.int 2147483587))) (cD (.int 64))) (slotM 1))) (retM .next))))))
def f_l_take : FnI := ⟨"_law_take", 2, [0], [(2, [], [], [0, 1])], bodyFn 2 3 [0] m_l_take⟩
theorem c_l_take : (cDef d_l_take (topS 13) fns_l_take blt_l_take imp_l_take).map (·.1) = some m_l_take := by kernel_rfl
theorem s_l_take : scopeOk d_l_take (defScope (topS 13)) = true := by decide +kernel
def d_l_folded : DefI := ⟨"_law_folded", "_law_folded", ["_law_script", "_law_many"], ["_law_script", "_law_many", "_law_cells", "_law_k", "_law_cell"], []⟩
def blt_l_folded : List Str := ["enumerate", "list"]
def imp_l_folded : List (Str × String) := []
def fns_l_folded : List FnI := []
def m_l_folded : M Fl := (seqM (setS 2 (opN listF [(slM (slotM 0) none (some (slotM 1)) slD)])) (seqM (forS (.tup [(.nm 3), (.nm 4)]) (enumM (slM (slotM 0) (some (slotM 1)) (some (cD (.int 63))) slD)) (seqM (setIx 2 (op2 addD (op2 ixD (slotM 2) (op2 modD (slotM 3) (slotM 1))) (op2 mulD (slotM 4) (op2 addD (slotM 3) (cD (.int 2))))) (op2 modD (slotM 3) (slotM 1))) (retM .next))) (seqM (retS (slotM 2)) (retM .next))))
def f_l_folded : FnI := ⟨"_law_folded", 2, [], [(2, [], [], [0, 1])], bodyFn 2 3 [] m_l_folded⟩
theorem c_l_folded : (cDef d_l_folded (topS 14) fns_l_folded blt_l_folded imp_l_folded).map (·.1) = some m_l_folded := by kernel_rfl
theorem s_l_folded : scopeOk d_l_folded (defScope (topS 14)) = true := by decide +kernel
def d_l_one_of : DefI := ⟨"_law_one_of", "_law_one_of", ["_law_box", "_law_pool"], ["_law_box", "_law_pool"], [0]⟩
def blt_l_one_of : List Str := ["len"]
def imp_l_one_of : List (Str × String) := []
def fns_l_one_of : List FnI := [f_l_take]
def m_l_one_of : M Fl := (seqM (retS (op2 ixD (slotM 1) (callG f_l_take.fn [0, 1] [] [.rf 0, .val (opN lenD [(slotM 1)])] []))) (retM .next))
def f_l_one_of : FnI := ⟨"_law_one_of", 2, [0], [(2, [], [], [0, 1])], bodyFn 2 0 [0] m_l_one_of⟩
theorem c_l_one_of : (cDef d_l_one_of (topS 15) fns_l_one_of blt_l_one_of imp_l_one_of).map (·.1) = some m_l_one_of := by kernel_rfl
theorem s_l_one_of : scopeOk d_l_one_of (defScope (topS 15)) = true := by decide +kernel
def d_l_same : DefI := ⟨"_law_same", "_law_same", ["_law_found", "_law_due"], ["_law_found", "_law_due", "_law_key", "_law_one", "_law_two"], []⟩
def blt_l_same : List Str := ["all", "bool", "dict", "int", "isinstance", "len", "list", "str", "tuple", "zip"]
def imp_l_same : List (Str × String) := []
def fI_l_same (fn : Fn) : FnI := ⟨"_law_same", 2, [], [(2, [], [], [0, 1])], fn⟩
def fns_l_same (fn : Fn) : List FnI := [fI_l_same fn]
def m_l_same (fn : Fn) : M Fl := (seqM (ifS (truM (op1 (isi1D "dict") (slotM 1))) (seqM (ifS (orM (notM (truM (op1 (isi1D "dict") (slotM 0)))) (blM (op2 neD nopeM nopeM))) (seqM (retS (cD (.bl false))) (retM .next)) (retM .next)) (seqM (retS (opN (boolsD (·.all id)) [(compM [2] (.nm 2) (srcM (slotM 1)) (retM true) (datM (callG fn [0, 1] [] [.val (op2 ixD (slotM 0) (slotM 2)), .val (op2 ixD (slotM 1) (slotM 2))] [])))])) (retM .next))) (retM .next)) (seqM (ifS (truM (op1 (isiD ["list", "tuple"]) (slotM 1))) (seqM (ifS (orM (blM (op2 neD (op1 (isi1D "list") (slotM 0)) (op1 (isi1D "list") (slotM 1)))) (blM (op2 neD (op1 (isi1D "tuple") (slotM 0)) (op1 (isi1D "tuple") (slotM 1))))) (seqM (retS (cD (.bl false))) (retM .next)) (retM .next)) (seqM (retS (andV (op2 eqD (opN lenD [(slotM 0)]) (opN lenD [(slotM 1)])) (opN (boolsD (·.all id)) [(compM [3, 4] (.tup [(.nm 3), (.nm 4)]) (zipM (slotM 0) (slotM 1)) (retM true) (datM (callG fn [0, 1] [] [.val (slotM 3), .val (slotM 4)] [])))]))) (retM .next))) (retM .next)) (seqM (ifS (orM (blM (op2 isD (slotM 1) (cD .non))) (blM (op2 isD (slotM 0) (cD .non)))) (seqM (retS (andV (op2 isD (slotM 1) (cD .non)) (op2 isD (slotM 0) (cD .non)))) (retM .next)) (retM .next)) (seqM (ifS (orM (truM (op1 (isi1D "bool") (slotM 1))) (truM (op1 (isi1D "str") (slotM 1)))) (seqM (retS (andV (op2 eqD (op1 (isi1D "bool") (slotM 0)) (op1 (isi1D "bool") (slotM 1))) (op2 eqD (slotM 0) (slotM 1)))) (retM .next)) (retM .next)) (seqM (retS (andV (op1 (isi1D "int") (slotM 0)) (andV (notV (op1 (isi1D "bool") (slotM 0))) (op2 eqD (slotM 0) (slotM 1))))) (retM .next))))))
def fn_l_same : Nat → Fn
  | 0 => fun _ => none
  | n + 1 => bodyFn 2 3 [] (m_l_same (fn_l_same n))
theorem c_l_same (fn : Fn) : (cDef d_l_same (topS 16) (fns_l_same fn) blt_l_same imp_l_same).map (·.1) = some (m_l_same fn) := by kernel_rfl
def f_l_same : FnI := fI_l_same (fn_l_same 40)
theorem s_l_same : scopeOk d_l_same (defScope (topS 16)) = true := by decide +kernel
def d_l_num : DefI := ⟨"_law_num", "_law_num", ["_law_top", "_law_low"], ["_law_top", "_law_low", "_law_common"], []⟩
def blt_l_num : List Str := ["min"]
def imp_l_num : List (Str × String) := []
def fns_l_num : List FnI := []
def m_l_num : M Fl := (seqM (ifS (blM (op2 eqD (slotM 0) (cD (.int 0)))) (seqM (retS (tupM [(cD (.int 0)), (cD (.int 1))])) (retM .next)) (retM .next)) (seqM (setS 2 (opN min2D [(slotM 1), (op2 andD (slotM 0) (op2 subD (cD (.int 0)) (slotM 0)))])) (seqM (retS (tupM [(op2 fdivD (slotM 0) (slotM 2)), (op2 fdivD (slotM 1) (slotM 2))])) (retM .next))))
def f_l_num : FnI := ⟨"_law_num", 2, [], [(2, [], [], [0, 1])], bodyFn 2 1 [] m_l_num⟩
theorem c_l_num : (cDef d_l_num (topS 17) fns_l_num blt_l_num imp_l_num).map (·.1) = some m_l_num := by kernel_rfl
theorem s_l_num : scopeOk d_l_num (defScope (topS 17)) = true := by decide +kernel
def d_l_add : DefI := ⟨"_law_add", "_law_add", ["_law_one", "_law_two"], ["_law_one", "_law_two"], []⟩
def blt_l_add : List Str := []
def imp_l_add : List (Str × String) := []
def fns_l_add : List FnI := [f_l_num]
def m_l_add : M Fl := (seqM (retS (callG f_l_num.fn [0, 1] [] [.val (op2 addD (op2 mulD (op2 ixD (slotM 0) (cD (.int 0))) (op2 ixD (slotM 1) (cD (.int 1)))) (op2 mulD (op2 ixD (slotM 1) (cD (.int 0))) (op2 ixD (slotM 0) (cD (.int 1))))), .val (op2 mulD (op2 ixD (slotM 0) (cD (.int 1))) (op2 ixD (slotM 1) (cD (.int 1))))] [])) (retM .next))
def f_l_add : FnI := ⟨"_law_add", 2, [], [(2, [], [], [0, 1])], bodyFn 2 0 [] m_l_add⟩
theorem c_l_add : (cDef d_l_add (topS 18) fns_l_add blt_l_add imp_l_add).map (·.1) = some m_l_add := by kernel_rfl
theorem s_l_add : scopeOk d_l_add (defScope (topS 18)) = true := by decide +kernel
def d_l_sub : DefI := ⟨"_law_sub", "_law_sub", ["_law_one", "_law_two"], ["_law_one", "_law_two"], []⟩
def blt_l_sub : List Str := []
def imp_l_sub : List (Str × String) := []
def fns_l_sub : List FnI := [f_l_add]
def m_l_sub : M Fl := (seqM (retS (callG f_l_add.fn [0, 1] [] [.val (slotM 0), .val (tupM [(op2 subD (cD (.int 0)) (op2 ixD (slotM 1) (cD (.int 0)))), (op2 ixD (slotM 1) (cD (.int 1)))])] [])) (retM .next))
def f_l_sub : FnI := ⟨"_law_sub", 2, [], [(2, [], [], [0, 1])], bodyFn 2 0 [] m_l_sub⟩
theorem c_l_sub : (cDef d_l_sub (topS 19) fns_l_sub blt_l_sub imp_l_sub).map (·.1) = some m_l_sub := by kernel_rfl
theorem s_l_sub : scopeOk d_l_sub (defScope (topS 19)) = true := by decide +kernel
def d_l_mul : DefI := ⟨"_law_mul", "_law_mul", ["_law_one", "_law_two"], ["_law_one", "_law_two"], []⟩
def blt_l_mul : List Str := []
def imp_l_mul : List (Str × String) := []
def fns_l_mul : List FnI := [f_l_num]
def m_l_mul : M Fl := (seqM (retS (callG f_l_num.fn [0, 1] [] [.val (op2 mulD (op2 ixD (slotM 0) (cD (.int 0))) (op2 ixD (slotM 1) (cD (.int 0)))), .val (op2 mulD (op2 ixD (slotM 0) (cD (.int 1))) (op2 ixD (slotM 1) (cD (.int 1))))] [])) (retM .next))
def f_l_mul : FnI := ⟨"_law_mul", 2, [], [(2, [], [], [0, 1])], bodyFn 2 0 [] m_l_mul⟩
theorem c_l_mul : (cDef d_l_mul (topS 20) fns_l_mul blt_l_mul imp_l_mul).map (·.1) = some m_l_mul := by kernel_rfl
theorem s_l_mul : scopeOk d_l_mul (defScope (topS 20)) = true := by decide +kernel
def d_l_below : DefI := ⟨"_law_below", "_law_below", ["_law_one", "_law_two"], ["_law_one", "_law_two"], []⟩
def blt_l_below : List Str := []
def imp_l_below : List (Str × String) := []
def fns_l_below : List FnI := []
def m_l_below : M Fl := (seqM (retS (op2 lessD (op2 mulD (op2 ixD (slotM 0) (cD (.int 0))) (op2 ixD (slotM 1) (cD (.int 1)))) (op2 mulD (op2 ixD (slotM 1) (cD (.int 0))) (op2 ixD (slotM 0) (cD (.int 1)))))) (retM .next))
def f_l_below : FnI := ⟨"_law_below", 2, [], [(2, [], [], [0, 1])], bodyFn 2 0 [] m_l_below⟩
theorem c_l_below : (cDef d_l_below (topS 21) fns_l_below blt_l_below imp_l_below).map (·.1) = some m_l_below := by kernel_rfl
theorem s_l_below : scopeOk d_l_below (defScope (topS 21)) = true := by decide +kernel
def d_l_floor : DefI := ⟨"_law_floor", "_law_floor", ["_law_one", "_law_places"], ["_law_one", "_law_places", "_law_unit", "_law_turn"], []⟩
def blt_l_floor : List Str := ["range"]
def imp_l_floor : List (Str × String) := []
def fns_l_floor : List FnI := [f_l_num]
def m_l_floor : M Fl := (seqM (setS 2 (cD (.int 1))) (seqM (forS (.nm 3) (rngM (slotM 1)) (seqM (setS 2 (op2 mulD (slotM 2) (cD (.int 2)))) (retM .next))) (seqM (retS (callG f_l_num.fn [0, 1] [] [.val (op2 fdivD (op2 mulD (op2 ixD (slotM 0) (cD (.int 0))) (slotM 2)) (op2 ixD (slotM 0) (cD (.int 1)))), .val (slotM 2)] [])) (retM .next))))
def f_l_floor : FnI := ⟨"_law_floor", 2, [], [(2, [], [], [0, 1])], bodyFn 2 2 [] m_l_floor⟩
theorem c_l_floor : (cDef d_l_floor (topS 22) fns_l_floor blt_l_floor imp_l_floor).map (·.1) = some m_l_floor := by kernel_rfl
theorem s_l_floor : scopeOk d_l_floor (defScope (topS 22)) = true := by decide +kernel
def d_l_power : DefI := ⟨"_law_power", "_law_power", ["_law_many"], ["_law_many", "_law_found", "_law_turn"], []⟩
def blt_l_power : List Str := ["range"]
def imp_l_power : List (Str × String) := []
def fns_l_power : List FnI := []
def m_l_power : M Fl := (seqM (setS 1 (cD (.int 1))) (seqM (forS (.nm 2) (rngM (slotM 0)) (seqM (setS 1 (op2 mulD (slotM 1) (cD (.int 2)))) (retM .next))) (seqM (retS (slotM 1)) (retM .next))))
def f_l_power : FnI := ⟨"_law_power", 1, [], [(1, [], [], [0])], bodyFn 1 2 [] m_l_power⟩
theorem c_l_power : (cDef d_l_power (topS 23) fns_l_power blt_l_power imp_l_power).map (·.1) = some m_l_power := by kernel_rfl
theorem s_l_power : scopeOk d_l_power (defScope (topS 23)) = true := by decide +kernel
def d_l_any : DefI := ⟨"_law_any", "_law_any", ["_law_box"], ["_law_box", "_law_pool", "_law_top"], [0]⟩
def blt_l_any : List Str := []
def imp_l_any : List (Str × String) := []
def fns_l_any : List FnI := [f_l_power, f_l_take, f_l_one_of]
def m_l_any : M Fl := (seqM (setS 1 (lstM [(op2 subD (callG f_l_take.fn [0, 1] [] [.rf 0, .val (cD (.int 9))] []) (cD (.int 4))), (op2 subD (callG f_l_take.fn [0, 1] [] [.rf 0, .val (cD (.int 1999))] []) (cD (.int 999))), (op2 subD (callG f_l_take.fn [0, 1] [] [.rf 0, .val (op2 powD (cD (.int 10)) (cD (.int 18)))] []) (op2 mulD (cD (.int 5)) (op2 powD (cD (.int 10)) (cD (.int 17))))), (cD (.int 0)), (cD (.int 96))])) (seqM (setS 2 (callG f_l_one_of.fn [0, 1] [] [.rf 0, .val (slotM 1)] [])) (seqM (retS (tupM [(slotM 2), (callG f_l_power.fn [0] [] [.val (op2 ixD (lstM [(cD (.int 0)), (cD (.int 0)), (cD (.int 1)), (cD (.int 2)), (cD (.int 4)), (cD (.int 6)), (callG f_l_take.fn [0, 1] [] [.rf 0, .val (cD (.int 41))] [])]) (callG f_l_take.fn [0, 1] [] [.rf 0, .val (cD (.int 7))] []))] [])])) (retM .next))))
def f_l_any : FnI := ⟨"_law_any", 1, [0], [(1, [], [], [0])], bodyFn 1 2 [0] m_l_any⟩
theorem c_l_any : (cDef d_l_any (topS 24) fns_l_any blt_l_any imp_l_any).map (·.1) = some m_l_any := by kernel_rfl
theorem s_l_any : scopeOk d_l_any (defScope (topS 24)) = true := by decide +kernel
def d_l_size : DefI := ⟨"_law_size", "_law_size", ["_law_one"], ["_law_one", "_law_turn", "_law_low_of", "_law_found"], []⟩
def blt_l_size : List Str := ["range"]
def imp_l_size : List (Str × String) := []
def fns_l_size : List FnI := []
def m_l_size : M Fl := (seqM (parM [2, 3] [(op2 ixD (slotM 0) (cD (.int 1))), (cD (.int 0))]) (seqM (forS (.nm 1) (rngM (cD (.int 100))) (seqM (ifS (blM (op2 moreD (slotM 2) (cD (.int 1)))) (seqM (parM [2, 3] [(op2 fdivD (slotM 2) (cD (.int 2))), (op2 addD (slotM 3) (cD (.int 1)))]) (retM .next)) (retM .next)) (retM .next))) (seqM (retS (slotM 3)) (retM .next))))
def f_l_size : FnI := ⟨"_law_size", 1, [], [(1, [], [], [0])], bodyFn 1 3 [] m_l_size⟩
theorem c_l_size : (cDef d_l_size (topS 25) fns_l_size blt_l_size imp_l_size).map (·.1) = some m_l_size := by kernel_rfl
theorem s_l_size : scopeOk d_l_size (defScope (topS 25)) = true := by decide +kernel
def d_l_cut_right : DefI := ⟨"_law_cut_right", "_law_cut_right", ["_law_one", "_law_figures"], ["_law_one", "_law_figures", "_law_found", "_law_part", "_law_fine"], []⟩
def blt_l_cut_right : List Str := []
def imp_l_cut_right : List (Str × String) := []
def fns_l_cut_right : List FnI := [f_l_same, f_l_floor, f_l_size, f_l_below, f_l_add, f_l_num, f_l_power, f_cut_of]
def m_l_cut_right : M Fl := (seqM (setS 2 (callG f_cut_of.fn [0, 1] [] [.val (slotM 0), .val (slotM 1)] [])) (seqM (setS 3 (tupM [(cD (.int 1)), (callG f_l_power.fn [0] [] [.val (slotM 1)] [])])) (seqM (setS 4 (andV (notV (callG f_l_below.fn [0, 1] [] [.val (slotM 0), .val (slotM 2)] [])) (callG f_l_below.fn [0, 1] [] [.val (slotM 0), .val (callG f_l_add.fn [0, 1] [] [.val (slotM 2), .val (callG f_l_num.fn [0, 1] [] [.val (op2 ixD (slotM 3) (cD (.int 0))), .val (op2 ixD (slotM 3) (cD (.int 1)))] [])] [])] []))) (seqM (retS (andV (slotM 4) (andV (op2 lesseqD (callG f_l_size.fn [0] [] [.val (slotM 2)] []) (slotM 1)) (callG f_l_same.fn [0, 1] [] [.val (slotM 2), .val (callG f_l_floor.fn [0, 1] [] [.val (slotM 0), .val (slotM 1)] [])] [])))) (retM .next)))))
def f_l_cut_right : FnI := ⟨"_law_cut_right", 2, [], [(2, [], [], [0, 1])], bodyFn 2 3 [] m_l_cut_right⟩
theorem c_l_cut_right : (cDef d_l_cut_right (topS 26) fns_l_cut_right blt_l_cut_right imp_l_cut_right).map (·.1) = some m_l_cut_right := by kernel_rfl
theorem s_l_cut_right : scopeOk d_l_cut_right (defScope (topS 26)) = true := by decide +kernel
def d_l_pair_right : DefI := ⟨"_law_pair_right", "_law_pair_right", ["_law_box"], ["_law_box", "_law_two", "_law_found", "_law_due", "_law_one", "_law_a", "_law_b", "_law_c", "_law_d", "_law_figures"], [0]⟩
def blt_l_pair_right : List Str := ["all"]
def imp_l_pair_right : List (Str × String) := []
def fns_l_pair_right : List FnI := [f_l_take, f_l_cut_right, f_l_same, f_l_mul, f_l_below, f_l_size, f_times_of, f_is_below, f_figures_of, f_l_num, f_l_add, f_l_sub, f_num_of, f_sum_of, f_less_of, f_l_any]
def m_l_pair_right : M Fl := (seqM (asgM (.tup [(.tup [(.nm 5), (.nm 6)]), (.tup [(.nm 7), (.nm 8)])]) (tupM [(callG f_l_any.fn [0] [] [.rf 0] []), (callG f_l_any.fn [0] [] [.rf 0] [])])) (seqM (asgM (.tup [(.nm 4), (.nm 1)]) (tupM [(callG f_l_num.fn [0, 1] [] [.val (slotM 5), .val (slotM 6)] []), (callG f_l_num.fn [0, 1] [] [.val (slotM 7), .val (slotM 8)] [])])) (seqM (setS 1 (ifM (blM (op2 eqD (callG f_l_take.fn [0, 1] [] [.rf 0, .val (cD (.int 5))] []) (cD (.int 0)))) (slotM 4) (slotM 1))) (seqM (setS 2 (lstM [(callG f_num_of.fn [0, 1] [] [.val (slotM 5), .val (slotM 6)] []), (callG f_num_of.fn [0, 1] [(.int 1)] [.val (slotM 5)] []), (callG f_num_of.fn [0, 1] [] [] [(slotM 7), (slotM 8)]), (callG f_sum_of.fn [0, 1] [] [.val (slotM 4), .val (slotM 1)] []), (callG f_less_of.fn [0, 1] [] [.val (slotM 4), .val (slotM 1)] [])])) (seqM (setS 3 (lstM [(slotM 4), (callG f_l_num.fn [0, 1] [] [.val (slotM 5), .val (cD (.int 1))] []), (callG f_l_num.fn [0, 1] [] [.val (slotM 7), .val (slotM 8)] []), (callG f_l_add.fn [0, 1] [] [.val (slotM 4), .val (slotM 1)] []), (callG f_l_sub.fn [0, 1] [] [.val (slotM 4), .val (slotM 1)] [])])) (seqM (setS 2 (op2 addD (slotM 2) (lstM [(callG f_times_of.fn [0, 1] [] [.val (slotM 4), .val (slotM 1)] []), (callG f_is_below.fn [0, 1] [] [.val (slotM 4), .val (slotM 1)] []), (callG f_is_below.fn [0, 1] [] [.val (slotM 1), .val (slotM 4)] []), (callG f_figures_of.fn [0] [] [.val (slotM 4)] [])]))) (seqM (setS 3 (op2 addD (slotM 3) (lstM [(callG f_l_mul.fn [0, 1] [] [.val (slotM 4), .val (slotM 1)] []), (callG f_l_below.fn [0, 1] [] [.val (slotM 4), .val (slotM 1)] []), (callG f_l_below.fn [0, 1] [] [.val (slotM 1), .val (slotM 4)] []), (callG f_l_size.fn [0] [] [.val (slotM 4)] [])]))) (seqM (ifS (notM (truM (callG f_l_same.fn [0, 1] [] [.val (slotM 2), .val (slotM 3)] []))) (seqM (retS (cD (.bl false))) (retM .next)) (retM .next)) (seqM (retS (opN (boolsD (·.all id)) [(compM [9] (.nm 9) (srcM (tupM [(cD (.int 0)), (cD (.int 1)), (cD (.int 8)), (callG f_l_take.fn [0, 1] [] [.rf 0, .val (cD (.int 51))] [])])) (retM true) (datM (callG f_l_cut_right.fn [0, 1] [] [.val (slotM 4), .val (slotM 9)] [])))])) (retM .next))))))))))
def f_l_pair_right : FnI := ⟨"_law_pair_right", 1, [0], [(1, [], [], [0])], bodyFn 1 9 [0] m_l_pair_right⟩
theorem c_l_pair_right : (cDef d_l_pair_right (topS 27) fns_l_pair_right blt_l_pair_right imp_l_pair_right).map (·.1) = some m_l_pair_right := by kernel_rfl
theorem s_l_pair_right : scopeOk d_l_pair_right (defScope (topS 27)) = true := by decide +kernel
def d_l_lists_right : DefI := ⟨"_law_lists_right", "_law_lists_right", ["_law_box"], ["_law_box", "_law_pool", "_law_turn", "_law_one", "_law_low", "_law_high", "_law_kept"], [0]⟩
def blt_l_lists_right : List Str := ["list", "range"]
def imp_l_lists_right : List (Str × String) := []
def fns_l_lists_right : List FnI := [f_l_same, f_least_num, f_most_num, f_l_below, f_l_take, f_l_num]
def m_l_lists_right : M Fl := (seqM (setS 1 (lstM [])) (seqM (forS (.nm 2) (rngM (op2 addD (cD (.int 1)) (callG f_l_take.fn [0, 1] [] [.rf 0, .val (cD (.int 6))] []))) (seqM (dropM (meth 1 appF [(callG f_l_num.fn [0, 1] [] [.val (op2 subD (callG f_l_take.fn [0, 1] [] [.rf 0, .val (cD (.int 21))] []) (cD (.int 10))), .val (op2 ixD (lstM [(cD (.int 1)), (cD (.int 2)), (cD (.int 8))]) (callG f_l_take.fn [0, 1] [] [.rf 0, .val (cD (.int 3))] []))] [])])) (retM .next))) (seqM (parM [4, 5, 6] [(op2 ixD (slotM 1) (cD (.int 0))), (op2 ixD (slotM 1) (cD (.int 0))), (opN listF [(slotM 1)])]) (seqM (forS (.nm 3) (srcM (slotM 1)) (seqM (setS 4 (ifM (truM (callG f_l_below.fn [0, 1] [] [.val (slotM 3), .val (slotM 4)] [])) (slotM 3) (slotM 4))) (seqM (setS 5 (ifM (truM (callG f_l_below.fn [0, 1] [] [.val (slotM 5), .val (slotM 3)] [])) (slotM 3) (slotM 5))) (retM .next)))) (seqM (retS (andV (callG f_l_same.fn [0, 1] [] [.val (lstM [(callG f_least_num.fn [0] [] [.val (slotM 1)] []), (callG f_most_num.fn [0] [] [.val (slotM 1)] [])]), .val (lstM [(slotM 4), (slotM 5)])] []) (op2 eqD (slotM 1) (slotM 6)))) (retM .next))))))
def f_l_lists_right : FnI := ⟨"_law_lists_right", 1, [0], [(1, [], [], [0])], bodyFn 1 6 [0] m_l_lists_right⟩
theorem c_l_lists_right : (cDef d_l_lists_right (topS 28) fns_l_lists_right blt_l_lists_right imp_l_lists_right).map (·.1) = some m_l_lists_right := by kernel_rfl
theorem s_l_lists_right : scopeOk d_l_lists_right (defScope (topS 28)) = true := by decide +kernel
def d_law : DefI := ⟨"law", "law", ["_law_script"], ["_law_script", "_law_cells", "_law_k", "_law_box", "_law_turn"], []⟩
def blt_law : List Str := ["all", "len", "range"]
def imp_law : List (Str × String) := []
def fns_law : List FnI := [f_l_lists_right, f_l_pair_right, f_l_dip, f_l_folded]
def m_law : M Fl := (seqM (setS 1 (callG f_l_folded.fn [0, 1] [] [.val (slotM 0), .val (cD (.int 4))] [])) (seqM (forS (.nm 2) (rngM (op2 addD (cD (.int 1)) (opN lenD [(slotM 1)]))) (seqM (setS 3 (callG f_l_dip.fn [0, 1] [] [.val (slotM 1), .val (slotM 2)] [])) (seqM (ifS (notM (truM (opN (boolsD (·.all id)) [(compM [4] (.nm 4) (rngM (cD (.int 12))) (retM true) (datM (andV (callG f_l_pair_right.fn [0] [] [.rf 3] []) (callG f_l_lists_right.fn [0] [] [.rf 3] []))))]))) (seqM (retS (cD (.bl false))) (retM .next)) (retM .next)) (retM .next)))) (seqM (retS (cD (.bl true))) (retM .next))))
def f_law : FnI := ⟨"law", 1, [], [], bodyFn 1 4 [] m_law⟩
theorem c_law : (cDef d_law (topS 29) fns_law blt_law imp_law).map (·.1) = some m_law := by kernel_rfl
theorem s_law : scopeOk d_law (defScope (topS 29)) = true := by decide +kernel
end Ev

set_option Elab.async false
set_option linter.all false
set_option maxRecDepth 100000
namespace Ev
open PySem PySem.Spec PyProof.Rows L2
def faL : List He.Fa := [.glo "num_of", .glo "sum_of", .glo "less_of", .glo "times_of", .glo "is_below", .glo "least_num", .glo "most_num", .glo "figures_of", .glo "cut_of", .glo "_law_dip", .glo "_law_take", .glo "_law_folded", .glo "_law_one_of", .glo "_law_same", .glo "_law_num", .glo "_law_add", .glo "_law_sub", .glo "_law_mul", .glo "_law_below", .glo "_law_floor", .glo "_law_power", .glo "_law_any", .glo "_law_size", .glo "_law_cut_right", .glo "_law_pair_right", .glo "_law_lists_right", .glo "law", .free "abs", .free "all", .free "bool", .free "dict", .free "enumerate", .free "int", .free "isinstance", .free "len", .free "list", .free "max", .free "min", .free "range", .free "str", .free "tuple", .free "zip"]
def fnL : List He.DefD := [defD d_num_of (topS 2) [.int 1] [], defD d_sum_of (topS 3) [] [], defD d_less_of (topS 4) [] [], defD d_times_of (topS 5) [] [], defD d_is_below (topS 6) [] [], defD d_least_num (topS 7) [] [], defD d_most_num (topS 8) [] [], defD d_figures_of (topS 9) [] [], defD d_cut_of (topS 10) [] [], defD d_l_dip (topS 12) [] [], defD d_l_take (topS 13) [] [], defD d_l_folded (topS 14) [] [], defD d_l_one_of (topS 15) [] [], defD d_l_same (topS 16) [] [], defD d_l_num (topS 17) [] [], defD d_l_add (topS 18) [] [], defD d_l_sub (topS 19) [] [], defD d_l_mul (topS 20) [] [], defD d_l_below (topS 21) [] [], defD d_l_floor (topS 22) [] [], defD d_l_power (topS 23) [] [], defD d_l_any (topS 24) [] [], defD d_l_size (topS 25) [] [], defD d_l_cut_right (topS 26) [] [], defD d_l_pair_right (topS 27) [] [], defD d_l_lists_right (topS 28) [] [], defD d_law (topS 29) [] []]
def impL : List (Str × String) := [("gcd", "math.gcd")]
section
variable {P : Program} {w : World} {K : PySem.W.Frag} {mg : Str → Option Value} {base : Heap} {h : Heap}
theorem gg_num_of (X : K.In h) (G : h.Ns mainGlobals mg) (c : SaysE faL fnL (impB impL) K)  : Glob P w K mg base 1 f_num_of := by
  obtain ⟨fd, F⟩ := c.d.def_ 0 (d := defD d_num_of (topS 2) [.int 1] []) rfl
  exact glob_of (d := d_num_of) (st := topS 2) (m := m_num_of) (blt := blt_num_of) (imp := imp_num_of) (fns := fns_num_of) _ F s_num_of bl_nil (fun p hp => imp_ok c.ex X G p (by simpa [imp_num_of, impL] using hp)) gl_nil c_num_of (He.glo_ok X G (c.d.fact 0 rfl)) (pt_cons (pat_dfl F 1 (List.cons_ne_nil _ _) (fun _ => .nil) (fun _ _ _ _ _ _ _ us ws its h1 h2 h3 => match us, ws, its, h1, h2, h3 with | [_, _], [], [_], _, _, _ => ⟨_, by with_unfolding_all rfl, by with_unfolding_all rfl⟩) rfl rfl) (pt_cons (pat_dfl F 0 (List.cons_ne_nil _ _) (fun _ => .cons (.int _) .nil) (fun _ _ _ _ _ _ _ us ws its h1 h2 h3 => match us, ws, its, h1, h2, h3 with | [_], [], [_], _, _, _ => ⟨_, by with_unfolding_all rfl, by with_unfolding_all rfl⟩) rfl rfl) (pt_cons (pat_dfl F 1 (List.cons_ne_nil _ _) (fun _ => .nil) (fun _ _ _ _ _ _ _ us ws its h1 h2 h3 => match us, ws, its, h1, h2, h3 with | [], [_, _], [_], _, _, _ => ⟨_, by with_unfolding_all rfl, by with_unfolding_all rfl⟩) rfl rfl) pt_nil))) _ _
theorem gg_sum_of (X : K.In h) (G : h.Ns mainGlobals mg) (c : SaysE faL fnL (impB impL) K) (g_num_of : Glob P w K mg base 1 f_num_of) : Glob P w K mg base 2 f_sum_of := by
  obtain ⟨fd, F⟩ := c.d.def_ 1 (d := defD d_sum_of (topS 3) [] []) rfl
  exact glob_of (d := d_sum_of) (st := topS 3) (m := m_sum_of) (blt := blt_sum_of) (imp := imp_sum_of) (fns := fns_sum_of) _ F s_sum_of (bl_cons (He.free_ok X G (c.d.fact 36 rfl)) bl_nil) im_nil (gl_cons (g_num_of.mono (by decide)) gl_nil) c_sum_of (He.glo_ok X G (c.d.fact 1 rfl)) (pt_cons (pat_plain F rfl (fun _ _ _ _ _ _ us ws h1 h2 => match us, ws, h1, h2 with | [_, _], [], _, _ => rfl) rfl rfl) pt_nil) _ _
theorem gg_less_of (X : K.In h) (G : h.Ns mainGlobals mg) (c : SaysE faL fnL (impB impL) K) (g_sum_of : Glob P w K mg base 2 f_sum_of) : Glob P w K mg base 3 f_less_of := by
  obtain ⟨fd, F⟩ := c.d.def_ 2 (d := defD d_less_of (topS 4) [] []) rfl
  exact glob_of (d := d_less_of) (st := topS 4) (m := m_less_of) (blt := blt_less_of) (imp := imp_less_of) (fns := fns_less_of) _ F s_less_of bl_nil im_nil (gl_cons (g_sum_of.mono (by decide)) gl_nil) c_less_of (He.glo_ok X G (c.d.fact 2 rfl)) (pt_cons (pat_plain F rfl (fun _ _ _ _ _ _ us ws h1 h2 => match us, ws, h1, h2 with | [_, _], [], _, _ => rfl) rfl rfl) pt_nil) _ _
theorem gg_times_of (X : K.In h) (G : h.Ns mainGlobals mg) (c : SaysE faL fnL (impB impL) K) (g_num_of : Glob P w K mg base 1 f_num_of) : Glob P w K mg base 2 f_times_of := by
  obtain ⟨fd, F⟩ := c.d.def_ 3 (d := defD d_times_of (topS 5) [] []) rfl
  exact glob_of (d := d_times_of) (st := topS 5) (m := m_times_of) (blt := blt_times_of) (imp := imp_times_of) (fns := fns_times_of) _ F s_times_of bl_nil im_nil (gl_cons (g_num_of.mono (by decide)) gl_nil) c_times_of (He.glo_ok X G (c.d.fact 3 rfl)) (pt_cons (pat_plain F rfl (fun _ _ _ _ _ _ us ws h1 h2 => match us, ws, h1, h2 with | [_, _], [], _, _ => rfl) rfl rfl) pt_nil) _ _
theorem gg_is_below (X : K.In h) (G : h.Ns mainGlobals mg) (c : SaysE faL fnL (impB impL) K)  : Glob P w K mg base 1 f_is_below := by
  obtain ⟨fd, F⟩ := c.d.def_ 4 (d := defD d_is_below (topS 6) [] []) rfl
  exact glob_of (d := d_is_below) (st := topS 6) (m := m_is_below) (blt := blt_is_below) (imp := imp_is_below) (fns := fns_is_below) _ F s_is_below bl_nil im_nil gl_nil c_is_below (He.glo_ok X G (c.d.fact 4 rfl)) (pt_cons (pat_plain F rfl (fun _ _ _ _ _ _ us ws h1 h2 => match us, ws, h1, h2 with | [_, _], [], _, _ => rfl) rfl rfl) pt_nil) _ _
theorem gg_least_num (X : K.In h) (G : h.Ns mainGlobals mg) (c : SaysE faL fnL (impB impL) K) (g_is_below : Glob P w K mg base 1 f_is_below) : Glob P w K mg base 2 f_least_num := by
  obtain ⟨fd, F⟩ := c.d.def_ 5 (d := defD d_least_num (topS 7) [] []) rfl
  exact glob_of (d := d_least_num) (st := topS 7) (m := m_least_num) (blt := blt_least_num) (imp := imp_least_num) (fns := fns_least_num) _ F s_least_num bl_nil im_nil (gl_cons (g_is_below.mono (by decide)) gl_nil) c_least_num (He.glo_ok X G (c.d.fact 5 rfl)) (pt_cons (pat_plain F rfl (fun _ _ _ _ _ _ us ws h1 h2 => match us, ws, h1, h2 with | [_], [], _, _ => rfl) rfl rfl) pt_nil) _ _
theorem gg_most_num (X : K.In h) (G : h.Ns mainGlobals mg) (c : SaysE faL fnL (impB impL) K) (g_is_below : Glob P w K mg base 1 f_is_below) : Glob P w K mg base 2 f_most_num := by
  obtain ⟨fd, F⟩ := c.d.def_ 6 (d := defD d_most_num (topS 8) [] []) rfl
  exact glob_of (d := d_most_num) (st := topS 8) (m := m_most_num) (blt := blt_most_num) (imp := imp_most_num) (fns := fns_most_num) _ F s_most_num bl_nil im_nil (gl_cons (g_is_below.mono (by decide)) gl_nil) c_most_num (He.glo_ok X G (c.d.fact 6 rfl)) (pt_cons (pat_plain F rfl (fun _ _ _ _ _ _ us ws h1 h2 => match us, ws, h1, h2 with | [_], [], _, _ => rfl) rfl rfl) pt_nil) _ _
theorem gg_figures_of (X : K.In h) (G : h.Ns mainGlobals mg) (c : SaysE faL fnL (impB impL) K)  : Glob P w K mg base 1 f_figures_of := by
  obtain ⟨fd, F⟩ := c.d.def_ 7 (d := defD d_figures_of (topS 9) [] []) rfl
  exact glob_of (d := d_figures_of) (st := topS 9) (m := m_figures_of) (blt := blt_figures_of) (imp := imp_figures_of) (fns := fns_figures_of) _ F s_figures_of bl_nil im_nil gl_nil c_figures_of (He.glo_ok X G (c.d.fact 7 rfl)) (pt_cons (pat_plain F rfl (fun _ _ _ _ _ _ us ws h1 h2 => match us, ws, h1, h2 with | [_], [], _, _ => rfl) rfl rfl) pt_nil) _ _
theorem gg_cut_of (X : K.In h) (G : h.Ns mainGlobals mg) (c : SaysE faL fnL (impB impL) K) (g_num_of : Glob P w K mg base 1 f_num_of) (g_figures_of : Glob P w K mg base 1 f_figures_of) : Glob P w K mg base 2 f_cut_of := by
  obtain ⟨fd, F⟩ := c.d.def_ 8 (d := defD d_cut_of (topS 10) [] []) rfl
  exact glob_of (d := d_cut_of) (st := topS 10) (m := m_cut_of) (blt := blt_cut_of) (imp := imp_cut_of) (fns := fns_cut_of) _ F s_cut_of bl_nil im_nil (gl_cons (g_num_of.mono (by decide)) (gl_cons (g_figures_of.mono (by decide)) gl_nil)) c_cut_of (He.glo_ok X G (c.d.fact 8 rfl)) (pt_cons (pat_plain F rfl (fun _ _ _ _ _ _ us ws h1 h2 => match us, ws, h1, h2 with | [_, _], [], _, _ => rfl) rfl rfl) pt_nil) _ _
theorem gg_l_dip (X : K.In h) (G : h.Ns mainGlobals mg) (c : SaysE faL fnL (impB impL) K)  : Glob P w K mg base 1 f_l_dip := by
  obtain ⟨fd, F⟩ := c.d.def_ 9 (d := defD d_l_dip (topS 12) [] []) rfl
  exact glob_of (d := d_l_dip) (st := topS 12) (m := m_l_dip) (blt := blt_l_dip) (imp := imp_l_dip) (fns := fns_l_dip) _ F s_l_dip (bl_cons (He.free_ok X G (c.d.fact 27 rfl)) (bl_cons (He.free_ok X G (c.d.fact 32 rfl)) (bl_cons (He.free_ok X G (c.d.fact 34 rfl)) bl_nil))) im_nil gl_nil c_l_dip (He.glo_ok X G (c.d.fact 9 rfl)) (pt_cons (pat_plain F rfl (fun _ _ _ _ _ _ us ws h1 h2 => match us, ws, h1, h2 with | [_, _], [], _, _ => rfl) rfl rfl) pt_nil) _ _
theorem gg_l_take (X : K.In h) (G : h.Ns mainGlobals mg) (c : SaysE faL fnL (impB impL) K)  : Glob P w K mg base 1 f_l_take := by
  obtain ⟨fd, F⟩ := c.d.def_ 10 (d := defD d_l_take (topS 13) [] []) rfl
  exact glob_of (d := d_l_take) (st := topS 13) (m := m_l_take) (blt := blt_l_take) (imp := imp_l_take) (fns := fns_l_take) _ F s_l_take bl_nil im_nil gl_nil c_l_take (He.glo_ok X G (c.d.fact 10 rfl)) (pt_cons (pat_plain F rfl (fun _ _ _ _ _ _ us ws h1 h2 => match us, ws, h1, h2 with | [_, _], [], _, _ => rfl) rfl rfl) pt_nil) _ _
theorem gg_l_folded (X : K.In h) (G : h.Ns mainGlobals mg) (c : SaysE faL fnL (impB impL) K)  : Glob P w K mg base 1 f_l_folded := by
  obtain ⟨fd, F⟩ := c.d.def_ 11 (d := defD d_l_folded (topS 14) [] []) rfl
  exact glob_of (d := d_l_folded) (st := topS 14) (m := m_l_folded) (blt := blt_l_folded) (imp := imp_l_folded) (fns := fns_l_folded) _ F s_l_folded (bl_cons (He.free_ok X G (c.d.fact 31 rfl)) (bl_cons (He.free_ok X G (c.d.fact 35 rfl)) bl_nil)) im_nil gl_nil c_l_folded (He.glo_ok X G (c.d.fact 11 rfl)) (pt_cons (pat_plain F rfl (fun _ _ _ _ _ _ us ws h1 h2 => match us, ws, h1, h2 with | [_, _], [], _, _ => rfl) rfl rfl) pt_nil) _ _
theorem gg_l_one_of (X : K.In h) (G : h.Ns mainGlobals mg) (c : SaysE faL fnL (impB impL) K) (g_l_take : Glob P w K mg base 1 f_l_take) : Glob P w K mg base 2 f_l_one_of := by
  obtain ⟨fd, F⟩ := c.d.def_ 12 (d := defD d_l_one_of (topS 15) [] []) rfl
  exact glob_of (d := d_l_one_of) (st := topS 15) (m := m_l_one_of) (blt := blt_l_one_of) (imp := imp_l_one_of) (fns := fns_l_one_of) _ F s_l_one_of (bl_cons (He.free_ok X G (c.d.fact 34 rfl)) bl_nil) im_nil (gl_cons (g_l_take.mono (by decide)) gl_nil) c_l_one_of (He.glo_ok X G (c.d.fact 12 rfl)) (pt_cons (pat_plain F rfl (fun _ _ _ _ _ _ us ws h1 h2 => match us, ws, h1, h2 with | [_, _], [], _, _ => rfl) rfl rfl) pt_nil) _ _
theorem gr_l_same (X : K.In h) (G : h.Ns mainGlobals mg) (c : SaysE faL fnL (impB impL) K)  : ∀ n : Nat, Glob P w K mg base (0 + n) (fI_l_same (fn_l_same n))
  | 0 => by
    obtain ⟨fd, F⟩ := c.d.def_ 13 (d := defD d_l_same (topS 16) [] []) rfl
    exact glob_none (ps := d_l_same.ps) (He.glo_ok X G (c.d.fact 13 rfl)) F.kp rfl (pt_cons (pat_plain F rfl (fun _ _ _ _ _ _ us ws h1 h2 => match us, ws, h1, h2 with | [_, _], [], _, _ => rfl) rfl rfl) pt_nil) _
  | n + 1 => by
    have ih := gr_l_same X G c  n
    obtain ⟨fd, F⟩ := c.d.def_ 13 (d := defD d_l_same (topS 16) [] []) rfl
    exact glob_of (d := d_l_same) (st := topS 16) (m := m_l_same (fn_l_same n)) (blt := blt_l_same) (imp := imp_l_same) (fns := fns_l_same (fn_l_same n)) (k := 0 + n) _ F s_l_same (bl_cons (He.free_ok X G (c.d.fact 28 rfl)) (bl_cons (He.free_ok X G (c.d.fact 29 rfl)) (bl_cons (He.free_ok X G (c.d.fact 30 rfl)) (bl_cons (He.free_ok X G (c.d.fact 32 rfl)) (bl_cons (He.free_ok X G (c.d.fact 33 rfl)) (bl_cons (He.free_ok X G (c.d.fact 34 rfl)) (bl_cons (He.free_ok X G (c.d.fact 35 rfl)) (bl_cons (He.free_ok X G (c.d.fact 39 rfl)) (bl_cons (He.free_ok X G (c.d.fact 40 rfl)) (bl_cons (He.free_ok X G (c.d.fact 41 rfl)) bl_nil)))))))))) im_nil (gl_cons ih gl_nil) (c_l_same (fn_l_same n)) (He.glo_ok X G (c.d.fact 13 rfl)) (pt_cons (pat_plain F rfl (fun _ _ _ _ _ _ us ws h1 h2 => match us, ws, h1, h2 with | [_, _], [], _, _ => rfl) rfl rfl) pt_nil) _ _
theorem gg_l_same (X : K.In h) (G : h.Ns mainGlobals mg) (c : SaysE faL fnL (impB impL) K)  : Glob P w K mg base 41 f_l_same := (gr_l_same X G c  40).mono (by decide)
theorem gg_l_num (X : K.In h) (G : h.Ns mainGlobals mg) (c : SaysE faL fnL (impB impL) K)  : Glob P w K mg base 1 f_l_num := by
  obtain ⟨fd, F⟩ := c.d.def_ 14 (d := defD d_l_num (topS 17) [] []) rfl
  exact glob_of (d := d_l_num) (st := topS 17) (m := m_l_num) (blt := blt_l_num) (imp := imp_l_num) (fns := fns_l_num) _ F s_l_num (bl_cons (He.free_ok X G (c.d.fact 37 rfl)) bl_nil) im_nil gl_nil c_l_num (He.glo_ok X G (c.d.fact 14 rfl)) (pt_cons (pat_plain F rfl (fun _ _ _ _ _ _ us ws h1 h2 => match us, ws, h1, h2 with | [_, _], [], _, _ => rfl) rfl rfl) pt_nil) _ _
theorem gg_l_add (X : K.In h) (G : h.Ns mainGlobals mg) (c : SaysE faL fnL (impB impL) K) (g_l_num : Glob P w K mg base 1 f_l_num) : Glob P w K mg base 2 f_l_add := by
  obtain ⟨fd, F⟩ := c.d.def_ 15 (d := defD d_l_add (topS 18) [] []) rfl
  exact glob_of (d := d_l_add) (st := topS 18) (m := m_l_add) (blt := blt_l_add) (imp := imp_l_add) (fns := fns_l_add) _ F s_l_add bl_nil im_nil (gl_cons (g_l_num.mono (by decide)) gl_nil) c_l_add (He.glo_ok X G (c.d.fact 15 rfl)) (pt_cons (pat_plain F rfl (fun _ _ _ _ _ _ us ws h1 h2 => match us, ws, h1, h2 with | [_, _], [], _, _ => rfl) rfl rfl) pt_nil) _ _
theorem gg_l_sub (X : K.In h) (G : h.Ns mainGlobals mg) (c : SaysE faL fnL (impB impL) K) (g_l_add : Glob P w K mg base 2 f_l_add) : Glob P w K mg base 3 f_l_sub := by
  obtain ⟨fd, F⟩ := c.d.def_ 16 (d := defD d_l_sub (topS 19) [] []) rfl
  exact glob_of (d := d_l_sub) (st := topS 19) (m := m_l_sub) (blt := blt_l_sub) (imp := imp_l_sub) (fns := fns_l_sub) _ F s_l_sub bl_nil im_nil (gl_cons (g_l_add.mono (by decide)) gl_nil) c_l_sub (He.glo_ok X G (c.d.fact 16 rfl)) (pt_cons (pat_plain F rfl (fun _ _ _ _ _ _ us ws h1 h2 => match us, ws, h1, h2 with | [_, _], [], _, _ => rfl) rfl rfl) pt_nil) _ _
theorem gg_l_mul (X : K.In h) (G : h.Ns mainGlobals mg) (c : SaysE faL fnL (impB impL) K) (g_l_num : Glob P w K mg base 1 f_l_num) : Glob P w K mg base 2 f_l_mul := by
  obtain ⟨fd, F⟩ := c.d.def_ 17 (d := defD d_l_mul (topS 20) [] []) rfl
  exact glob_of (d := d_l_mul) (st := topS 20) (m := m_l_mul) (blt := blt_l_mul) (imp := imp_l_mul) (fns := fns_l_mul) _ F s_l_mul bl_nil im_nil (gl_cons (g_l_num.mono (by decide)) gl_nil) c_l_mul (He.glo_ok X G (c.d.fact 17 rfl)) (pt_cons (pat_plain F rfl (fun _ _ _ _ _ _ us ws h1 h2 => match us, ws, h1, h2 with | [_, _], [], _, _ => rfl) rfl rfl) pt_nil) _ _
theorem gg_l_below (X : K.In h) (G : h.Ns mainGlobals mg) (c : SaysE faL fnL (impB impL) K)  : Glob P w K mg base 1 f_l_below := by
  obtain ⟨fd, F⟩ := c.d.def_ 18 (d := defD d_l_below (topS 21) [] []) rfl
  exact glob_of (d := d_l_below) (st := topS 21) (m := m_l_below) (blt := blt_l_below) (imp := imp_l_below) (fns := fns_l_below) _ F s_l_below bl_nil im_nil gl_nil c_l_below (He.glo_ok X G (c.d.fact 18 rfl)) (pt_cons (pat_plain F rfl (fun _ _ _ _ _ _ us ws h1 h2 => match us, ws, h1, h2 with | [_, _], [], _, _ => rfl) rfl rfl) pt_nil) _ _
theorem gg_l_floor (X : K.In h) (G : h.Ns mainGlobals mg) (c : SaysE faL fnL (impB impL) K) (g_l_num : Glob P w K mg base 1 f_l_num) : Glob P w K mg base 2 f_l_floor := by
  obtain ⟨fd, F⟩ := c.d.def_ 19 (d := defD d_l_floor (topS 22) [] []) rfl
  exact glob_of (d := d_l_floor) (st := topS 22) (m := m_l_floor) (blt := blt_l_floor) (imp := imp_l_floor) (fns := fns_l_floor) _ F s_l_floor (bl_cons (He.free_ok X G (c.d.fact 38 rfl)) bl_nil) im_nil (gl_cons (g_l_num.mono (by decide)) gl_nil) c_l_floor (He.glo_ok X G (c.d.fact 19 rfl)) (pt_cons (pat_plain F rfl (fun _ _ _ _ _ _ us ws h1 h2 => match us, ws, h1, h2 with | [_, _], [], _, _ => rfl) rfl rfl) pt_nil) _ _
theorem gg_l_power (X : K.In h) (G : h.Ns mainGlobals mg) (c : SaysE faL fnL (impB impL) K)  : Glob P w K mg base 1 f_l_power := by
  obtain ⟨fd, F⟩ := c.d.def_ 20 (d := defD d_l_power (topS 23) [] []) rfl
  exact glob_of (d := d_l_power) (st := topS 23) (m := m_l_power) (blt := blt_l_power) (imp := imp_l_power) (fns := fns_l_power) _ F s_l_power (bl_cons (He.free_ok X G (c.d.fact 38 rfl)) bl_nil) im_nil gl_nil c_l_power (He.glo_ok X G (c.d.fact 20 rfl)) (pt_cons (pat_plain F rfl (fun _ _ _ _ _ _ us ws h1 h2 => match us, ws, h1, h2 with | [_], [], _, _ => rfl) rfl rfl) pt_nil) _ _
theorem gg_l_any (X : K.In h) (G : h.Ns mainGlobals mg) (c : SaysE faL fnL (impB impL) K) (g_l_power : Glob P w K mg base 1 f_l_power) (g_l_take : Glob P w K mg base 1 f_l_take) (g_l_one_of : Glob P w K mg base 2 f_l_one_of) : Glob P w K mg base 3 f_l_any := by
  obtain ⟨fd, F⟩ := c.d.def_ 21 (d := defD d_l_any (topS 24) [] []) rfl
  exact glob_of (d := d_l_any) (st := topS 24) (m := m_l_any) (blt := blt_l_any) (imp := imp_l_any) (fns := fns_l_any) _ F s_l_any bl_nil im_nil (gl_cons (g_l_power.mono (by decide)) (gl_cons (g_l_take.mono (by decide)) (gl_cons (g_l_one_of.mono (by decide)) gl_nil))) c_l_any (He.glo_ok X G (c.d.fact 21 rfl)) (pt_cons (pat_plain F rfl (fun _ _ _ _ _ _ us ws h1 h2 => match us, ws, h1, h2 with | [_], [], _, _ => rfl) rfl rfl) pt_nil) _ _
theorem gg_l_size (X : K.In h) (G : h.Ns mainGlobals mg) (c : SaysE faL fnL (impB impL) K)  : Glob P w K mg base 1 f_l_size := by
  obtain ⟨fd, F⟩ := c.d.def_ 22 (d := defD d_l_size (topS 25) [] []) rfl
  exact glob_of (d := d_l_size) (st := topS 25) (m := m_l_size) (blt := blt_l_size) (imp := imp_l_size) (fns := fns_l_size) _ F s_l_size (bl_cons (He.free_ok X G (c.d.fact 38 rfl)) bl_nil) im_nil gl_nil c_l_size (He.glo_ok X G (c.d.fact 22 rfl)) (pt_cons (pat_plain F rfl (fun _ _ _ _ _ _ us ws h1 h2 => match us, ws, h1, h2 with | [_], [], _, _ => rfl) rfl rfl) pt_nil) _ _
theorem gg_l_cut_right (X : K.In h) (G : h.Ns mainGlobals mg) (c : SaysE faL fnL (impB impL) K) (g_l_same : Glob P w K mg base 41 f_l_same) (g_l_floor : Glob P w K mg base 2 f_l_floor) (g_l_size : Glob P w K mg base 1 f_l_size) (g_l_below : Glob P w K mg base 1 f_l_below) (g_l_add : Glob P w K mg base 2 f_l_add) (g_l_num : Glob P w K mg base 1 f_l_num) (g_l_power : Glob P w K mg base 1 f_l_power) (g_cut_of : Glob P w K mg base 2 f_cut_of) : Glob P w K mg base 42 f_l_cut_right := by
  obtain ⟨fd, F⟩ := c.d.def_ 23 (d := defD d_l_cut_right (topS 26) [] []) rfl
  exact glob_of (d := d_l_cut_right) (st := topS 26) (m := m_l_cut_right) (blt := blt_l_cut_right) (imp := imp_l_cut_right) (fns := fns_l_cut_right) _ F s_l_cut_right bl_nil im_nil (gl_cons (g_l_same.mono (by decide)) (gl_cons (g_l_floor.mono (by decide)) (gl_cons (g_l_size.mono (by decide)) (gl_cons (g_l_below.mono (by decide)) (gl_cons (g_l_add.mono (by decide)) (gl_cons (g_l_num.mono (by decide)) (gl_cons (g_l_power.mono (by decide)) (gl_cons (g_cut_of.mono (by decide)) gl_nil)))))))) c_l_cut_right (He.glo_ok X G (c.d.fact 23 rfl)) (pt_cons (pat_plain F rfl (fun _ _ _ _ _ _ us ws h1 h2 => match us, ws, h1, h2 with | [_, _], [], _, _ => rfl) rfl rfl) pt_nil) _ _
theorem gg_l_pair_right (X : K.In h) (G : h.Ns mainGlobals mg) (c : SaysE faL fnL (impB impL) K) (g_l_take : Glob P w K mg base 1 f_l_take) (g_l_cut_right : Glob P w K mg base 42 f_l_cut_right) (g_l_same : Glob P w K mg base 41 f_l_same) (g_l_mul : Glob P w K mg base 2 f_l_mul) (g_l_below : Glob P w K mg base 1 f_l_below) (g_l_size : Glob P w K mg base 1 f_l_size) (g_times_of : Glob P w K mg base 2 f_times_of) (g_is_below : Glob P w K mg base 1 f_is_below) (g_figures_of : Glob P w K mg base 1 f_figures_of) (g_l_num : Glob P w K mg base 1 f_l_num) (g_l_add : Glob P w K mg base 2 f_l_add) (g_l_sub : Glob P w K mg base 3 f_l_sub) (g_num_of : Glob P w K mg base 1 f_num_of) (g_sum_of : Glob P w K mg base 2 f_sum_of) (g_less_of : Glob P w K mg base 3 f_less_of) (g_l_any : Glob P w K mg base 3 f_l_any) : Glob P w K mg base 43 f_l_pair_right := by
  obtain ⟨fd, F⟩ := c.d.def_ 24 (d := defD d_l_pair_right (topS 27) [] []) rfl
  exact glob_of (d := d_l_pair_right) (st := topS 27) (m := m_l_pair_right) (blt := blt_l_pair_right) (imp := imp_l_pair_right) (fns := fns_l_pair_right) _ F s_l_pair_right (bl_cons (He.free_ok X G (c.d.fact 28 rfl)) bl_nil) im_nil (gl_cons (g_l_take.mono (by decide)) (gl_cons (g_l_cut_right.mono (by decide)) (gl_cons (g_l_same.mono (by decide)) (gl_cons (g_l_mul.mono (by decide)) (gl_cons (g_l_below.mono (by decide)) (gl_cons (g_l_size.mono (by decide)) (gl_cons (g_times_of.mono (by decide)) (gl_cons (g_is_below.mono (by decide)) (gl_cons (g_figures_of.mono (by decide)) (gl_cons (g_l_num.mono (by decide)) (gl_cons (g_l_add.mono (by decide)) (gl_cons (g_l_sub.mono (by decide)) (gl_cons (g_num_of.mono (by decide)) (gl_cons (g_sum_of.mono (by decide)) (gl_cons (g_less_of.mono (by decide)) (gl_cons (g_l_any.mono (by decide)) gl_nil)))))))))))))))) c_l_pair_right (He.glo_ok X G (c.d.fact 24 rfl)) (pt_cons (pat_plain F rfl (fun _ _ _ _ _ _ us ws h1 h2 => match us, ws, h1, h2 with | [_], [], _, _ => rfl) rfl rfl) pt_nil) _ _
theorem gg_l_lists_right (X : K.In h) (G : h.Ns mainGlobals mg) (c : SaysE faL fnL (impB impL) K) (g_l_same : Glob P w K mg base 41 f_l_same) (g_least_num : Glob P w K mg base 2 f_least_num) (g_most_num : Glob P w K mg base 2 f_most_num) (g_l_below : Glob P w K mg base 1 f_l_below) (g_l_take : Glob P w K mg base 1 f_l_take) (g_l_num : Glob P w K mg base 1 f_l_num) : Glob P w K mg base 42 f_l_lists_right := by
  obtain ⟨fd, F⟩ := c.d.def_ 25 (d := defD d_l_lists_right (topS 28) [] []) rfl
  exact glob_of (d := d_l_lists_right) (st := topS 28) (m := m_l_lists_right) (blt := blt_l_lists_right) (imp := imp_l_lists_right) (fns := fns_l_lists_right) _ F s_l_lists_right (bl_cons (He.free_ok X G (c.d.fact 35 rfl)) (bl_cons (He.free_ok X G (c.d.fact 38 rfl)) bl_nil)) im_nil (gl_cons (g_l_same.mono (by decide)) (gl_cons (g_least_num.mono (by decide)) (gl_cons (g_most_num.mono (by decide)) (gl_cons (g_l_below.mono (by decide)) (gl_cons (g_l_take.mono (by decide)) (gl_cons (g_l_num.mono (by decide)) gl_nil)))))) c_l_lists_right (He.glo_ok X G (c.d.fact 25 rfl)) (pt_cons (pat_plain F rfl (fun _ _ _ _ _ _ us ws h1 h2 => match us, ws, h1, h2 with | [_], [], _, _ => rfl) rfl rfl) pt_nil) _ _
theorem ok_law (X : K.In h) (G : h.Ns mainGlobals mg) (c : SaysE faL fnL (impB impL) K) {fa : Addr} (hfa : mg "law" = some (.ref fa)) : ∃ fd : FuncData, (∀ (s : Shared) (v : Value), BindsTo s fd ⟨[v], []⟩ [("_law_script", v)]) ∧ ∀ base : Heap, FnOk P w K mg base (L2.CX P w) 44 fa fd ["_law_script"] (spOf ⟨K, mg⟩ 1 f_law.fn) := by
  obtain ⟨fd, F⟩ := c.d.def_ 26 (d := defD d_law (topS 29) [] []) rfl
  have e := hfa.symm.trans (He.glo_ok X G (c.d.fact 26 (f := .glo "law") rfl))
  cases e
  refine ⟨fd, FunD.bindsA (ps := ["_law_script"]) F (fun _ _ _ _ _ _ us hl => match us, hl with | [_], _ => rfl) |> fun b s v => b s [v] rfl, fun base => ?_⟩
  have g_num_of := gg_num_of (P := P) (w := w) (base := base) X G c 
  have g_sum_of := gg_sum_of (P := P) (w := w) (base := base) X G c g_num_of
  have g_less_of := gg_less_of (P := P) (w := w) (base := base) X G c g_sum_of
  have g_times_of := gg_times_of (P := P) (w := w) (base := base) X G c g_num_of
  have g_is_below := gg_is_below (P := P) (w := w) (base := base) X G c 
  have g_least_num := gg_least_num (P := P) (w := w) (base := base) X G c g_is_below
  have g_most_num := gg_most_num (P := P) (w := w) (base := base) X G c g_is_below
  have g_figures_of := gg_figures_of (P := P) (w := w) (base := base) X G c 
  have g_cut_of := gg_cut_of (P := P) (w := w) (base := base) X G c g_num_of g_figures_of
  have g_l_dip := gg_l_dip (P := P) (w := w) (base := base) X G c 
  have g_l_take := gg_l_take (P := P) (w := w) (base := base) X G c 
  have g_l_folded := gg_l_folded (P := P) (w := w) (base := base) X G c 
  have g_l_one_of := gg_l_one_of (P := P) (w := w) (base := base) X G c g_l_take
  have g_l_same := gg_l_same (P := P) (w := w) (base := base) X G c 
  have g_l_num := gg_l_num (P := P) (w := w) (base := base) X G c 
  have g_l_add := gg_l_add (P := P) (w := w) (base := base) X G c g_l_num
  have g_l_sub := gg_l_sub (P := P) (w := w) (base := base) X G c g_l_add
  have g_l_mul := gg_l_mul (P := P) (w := w) (base := base) X G c g_l_num
  have g_l_below := gg_l_below (P := P) (w := w) (base := base) X G c 
  have g_l_floor := gg_l_floor (P := P) (w := w) (base := base) X G c g_l_num
  have g_l_power := gg_l_power (P := P) (w := w) (base := base) X G c 
  have g_l_any := gg_l_any (P := P) (w := w) (base := base) X G c g_l_power g_l_take g_l_one_of
  have g_l_size := gg_l_size (P := P) (w := w) (base := base) X G c 
  have g_l_cut_right := gg_l_cut_right (P := P) (w := w) (base := base) X G c g_l_same g_l_floor g_l_size g_l_below g_l_add g_l_num g_l_power g_cut_of
  have g_l_pair_right := gg_l_pair_right (P := P) (w := w) (base := base) X G c g_l_take g_l_cut_right g_l_same g_l_mul g_l_below g_l_size g_times_of g_is_below g_figures_of g_l_num g_l_add g_l_sub g_num_of g_sum_of g_less_of g_l_any
  have g_l_lists_right := gg_l_lists_right (P := P) (w := w) (base := base) X G c g_l_same g_least_num g_most_num g_l_below g_l_take g_l_num
  exact fnok_of (P := P) (w := w) (base := base) (k := 43) (d := d_law) (st := topS 29) (m := m_law) (blt := blt_law) (imp := imp_law) (fns := fns_law) F s_law (bl_cons (He.free_ok X G (c.d.fact 28 rfl)) (bl_cons (He.free_ok X G (c.d.fact 34 rfl)) (bl_cons (He.free_ok X G (c.d.fact 38 rfl)) bl_nil))) im_nil (gl_cons (g_l_lists_right.mono (by decide)) (gl_cons (g_l_pair_right.mono (by decide)) (gl_cons (g_l_dip.mono (by decide)) (gl_cons (g_l_folded.mono (by decide)) gl_nil)))) c_law 4
end
end Ev

set_option Elab.async false
set_option linter.all false
set_option maxRecDepth 10000
namespace Ev
open PySem PySem.Spec PyProof.Rows L2
/-! ### loops by an invariant -/
/-- one turn of a loop -/
def itM {α : Type} (T : Tg) (d : D) (body : M α) : M α := fun δ => match asgT T d δ with
  | none => none
  | some δ1 => body δ1
theorem forM_inv {T : Tg} {body : M Fl} (I : Nat → Dl → Prop) : ∀ (ds : List D) (k : Nat) (δ : Dl), I k δ → (∀ i d δ, ds[i]? = some d → I (k + i) δ → ∃ δ2, itM T d body δ = some (.ok .next δ2) ∧ I (k + i + 1) δ2) → ∃ δ', forM T body ds δ = some (.ok .next δ') ∧ I (k + ds.length) δ'
  | [], k, δ, h, _ => ⟨δ, rfl, h⟩
  | d :: ds, k, δ, h, st => by
    obtain ⟨δ2, e, h2⟩ := st 0 d δ rfl h
    obtain ⟨δ', e', h'⟩ := forM_inv (T := T) (body := body) I ds (k + 1) δ2 h2 (fun i d δ hi hI => by
      have := st (i + 1) d δ (by simpa using hi) (by rw [show k + (i + 1) = k + 1 + i by omega]; exact hI)
      rw [show k + (i + 1) + 1 = k + 1 + i + 1 by omega] at this
      exact this)
    refine ⟨δ', ?_, by rw [List.length_cons, show k + (ds.length + 1) = k + 1 + ds.length by omega]; exact h'⟩
    unfold itM at e
    unfold forM
    cases ea : asgT T d δ with
    | none => rw [ea] at e; cases e
    | some δ1 =>
      rw [ea] at e
      simp only at e ⊢
      unfold bindM
      rw [e]
      exact e'
theorem forM0 {T : Tg} {body : M Fl} (I : Nat → Dl → Prop) (ds : List D) (δ : Dl) (h : I 0 δ) (st : ∀ i d δ, ds[i]? = some d → I i δ → ∃ δ2, itM T d body δ = some (.ok .next δ2) ∧ I (i + 1) δ2) : ∃ δ', forM T body ds δ = some (.ok .next δ') ∧ I ds.length δ' := by
  obtain ⟨δ', e, h'⟩ := forM_inv (T := T) (body := body) I ds 0 δ h (fun i d δ hi hI => by simpa using st i d δ hi (by simpa using hI))
  exact ⟨δ', e, by simpa using h'⟩
/-- a comprehension without a condition -/
theorem compGo_inv {vs : List Nat} {T : Tg} {te : M D} (I : Nat → List D → Dl → Prop) : ∀ (ds : List D) (k : Nat) (acc : List D) (δ : Dl), I k acc δ → (acc.length + ds.length ≤ sizeLine) → (∀ i d acc δ, ds[i]? = some d → I (k + i) acc δ → ∃ y δ2, itM T d te δ = some (.ok y δ2) ∧ I (k + i + 1) (acc ++ [y]) (wipeD δ2 vs)) → ∃ out δ', compGo vs T (retM true) te ds acc δ = some (.ok out δ') ∧ out.length = acc.length + ds.length ∧ I (k + ds.length) out δ'
  | [], k, acc, δ, h, _, _ => ⟨acc, δ, rfl, rfl, h⟩
  | d :: ds, k, acc, δ, h, hl, st => by
    obtain ⟨y, δ2, e, h2⟩ := st 0 d acc δ rfl h
    rw [List.length_cons] at hl
    obtain ⟨out, δ', e', l', h'⟩ := compGo_inv (vs := vs) (T := T) (te := te) I ds (k + 1) (acc ++ [y]) (wipeD δ2 vs) h2 (by rw [List.length_append]; simp only [List.length_cons, List.length_nil]; omega) (fun i d acc δ hi hI => by
      have := st (i + 1) d acc δ (by simpa using hi) (by rw [show k + (i + 1) = k + 1 + i by omega]; exact hI)
      rw [show k + (i + 1) + 1 = k + 1 + i + 1 by omega] at this
      exact this)
    refine ⟨out, δ', ?_, by rw [l', List.length_append, List.length_cons]; simp only [List.length_cons, List.length_nil]; omega, by rw [List.length_cons, show k + (ds.length + 1) = k + 1 + ds.length by omega]; exact h'⟩
    unfold itM at e
    unfold compGo
    cases ea : asgT T d δ with
    | none => rw [ea] at e; cases e
    | some δ1 =>
      rw [ea] at e
      simp only at e ⊢
      unfold bindM retM
      simp only [if_true]
      rw [e]
      simp only
      rw [if_pos (by omega)]
      exact e'
theorem compM_inv {vs : List Nat} {T : Tg} {src : M (List D)} {te : M D} {δ δs : Dl} {ds : List D} (hs : src δ = some (.ok ds δs)) (hn : noOwn δs vs = true) (I : Nat → List D → Dl → Prop) (h : I 0 [] (wipeD δs vs)) (hl : ds.length ≤ sizeLine)
    (st : ∀ i d acc δ, ds[i]? = some d → I i acc δ → ∃ y δ2, itM T d te δ = some (.ok y δ2) ∧ I (i + 1) (acc ++ [y]) (wipeD δ2 vs)) : ∃ out δe, compM vs T src (retM true) te δ = some (.ok (.own out) (backD δs δe vs)) ∧ out.length = ds.length ∧ I ds.length out δe := by
  obtain ⟨out, δe, e, l, h'⟩ := compGo_inv (vs := vs) (T := T) (te := te) I ds 0 [] (wipeD δs vs) h (by simpa using hl) (fun i d acc δ hi hI => by simpa using st i d acc δ hi (by simpa using hI))
  refine ⟨out, δe, ?_, by simpa using l, by simpa using h'⟩
  unfold compM bindM
  rw [hs]
  simp only [hn, if_true, e]
theorem rngD_len (lo : Int) (n : Nat) : (rngD lo n).length = n := by simp [rngD]
theorem rngD_at {lo : Int} {n i : Nat} {d : D} (h : (rngD lo n)[i]? = some d) : d = .int (lo + i) ∧ i < n := by
  unfold rngD at h
  rw [List.getElem?_map] at h
  cases e : (List.range n)[i]? with
  | none => rw [e] at h; cases h
  | some j =>
    rw [e] at h
    have hj := List.getElem?_eq_some_iff.mp e
    obtain ⟨hl, hj⟩ := hj
    rw [List.getElem_range] at hj
    rw [List.length_range] at hl
    subst hj
    cases h
    exact ⟨rfl, hl⟩
/-! ### readings at a state -/
def thn {α β : Type} (r : Option (Rs α)) (f : α → M β) : Option (Rs β) := match r with
  | none => none
  | some (.err e δ) => some (.err e δ)
  | some (.ok a δ) => f a δ
section
variable {α β : Type} (δ : Dl)
theorem thn_ok (a : α) (f : α → M β) : thn (some (.ok a δ)) f = f a δ := id rfl
theorem thn_err (e : Ex) (f : α → M β) : thn (some (.err e δ)) f = some (.err e δ) := id rfl
theorem bindM_a (m : M α) (f : α → M β) : bindM m f δ = thn (m δ) f := id rfl
theorem retM_a (a : α) : retM a δ = some (.ok a δ) := id rfl
def seqK (b : M Fl) (fl : Fl) : M Fl := match fl with
  | .next => b
  | x => retM x
theorem seqK_n (b : M Fl) : seqK b .next δ = b δ := id rfl
theorem seqK_r (b : M Fl) (s : S) : seqK b (.ret s) δ = some (.ok (.ret s) δ) := id rfl
theorem seqK_b (b : M Fl) : seqK b .brk δ = some (.ok .brk δ) := id rfl
theorem seqK_c (b : M Fl) : seqK b .cont δ = some (.ok .cont δ) := id rfl
theorem seqM_a (a b : M Fl) : seqM a b δ = thn (a δ) (seqK b) := by
  unfold seqM bindM thn seqK; cases a δ with
  | none => rfl
  | some r => cases r with
    | err => rfl
    | ok fl => cases fl <;> rfl
theorem setS_a (i : Nat) (a : M R) : setS i a δ = thn (a δ) (putM i) := id rfl
theorem putM_d (i : Nat) (x : D) : putM i (.d x) δ = some (.ok .next (δ.set i (some (.d x)))) := id rfl
theorem putM_o (i : Nat) (xs : List D) : putM i (.own xs) δ = some (.ok .next (δ.set i (some (.own xs)))) := id rfl
theorem putM_s (i j : Nat) : putM i (.slot j) δ = (match δ[j]? with
    | some (some (.d x)) => some (.ok .next (δ.set i (some (.d x))))
    | some (some (.own xs)) => some (.ok .next ((δ.set j (some (.d (.lst xs)))).set i (some (.d (.lst xs)))))
    | _ => none) := id rfl
theorem slotM_a (i : Nat) : slotM i δ = (match δ[i]? with
  | some (some _) => some (.ok (.slot i) δ)
  | _ => none) := id rfl
def opdK (r : R) : M Op := match r with
  | .d x => retM (.d x)
  | .slot i => retM (.slot i)
  | .own xs => retM (.d (.lst xs))
theorem opdM_a (m : M R) : opdM m δ = thn (m δ) opdK := id rfl
theorem opdK_d (x : D) : opdK (.d x) δ = some (.ok (.d x) δ) := id rfl
theorem opdK_s (i : Nat) : opdK (.slot i) δ = some (.ok (.slot i) δ) := id rfl
theorem opdK_o (xs : List D) : opdK (.own xs) δ = some (.ok (.d (.lst xs)) δ) := id rfl
def datK (r : R) : M D := match r with
  | .d x => retM x
  | .slot i => fun δ => match δ[i]? with
    | some (some (.d x)) => some (.ok x δ)
    | some (some (.own xs)) => some (.ok (.lst xs) (δ.set i (some (.d (.lst xs)))))
    | _ => none
  | .own xs => retM (.lst xs)
theorem datM_a (m : M R) : datM m δ = thn (m δ) datK := id rfl
theorem datK_d (x : D) : datK (.d x) δ = some (.ok x δ) := id rfl
theorem datK_s (i : Nat) : datK (.slot i) δ = (match δ[i]? with
    | some (some (.d x)) => some (.ok x δ)
    | some (some (.own xs)) => some (.ok (.lst xs) (δ.set i (some (.d (.lst xs)))))
    | _ => none) := id rfl
theorem datK_o (xs : List D) : datK (.own xs) δ = some (.ok (.lst xs) δ) := id rfl
def resK (r : R) : M S := match r with
  | .d x => retM (.d x)
  | .own xs => retM (.own xs)
  | .slot i => fun δ => match δ[i]? with
    | some (some (.d x)) => some (.ok (.d x) δ)
    | some (some (.own xs)) => some (.ok (.own xs) (δ.set i none))
    | _ => none
theorem resM_a (m : M R) : resM m δ = thn (m δ) resK := id rfl
theorem resK_d (x : D) : resK (.d x) δ = some (.ok (.d x) δ) := id rfl
theorem resK_s (i : Nat) : resK (.slot i) δ = (match δ[i]? with
    | some (some (.d x)) => some (.ok (.d x) δ)
    | some (some (.own xs)) => some (.ok (.own xs) (δ.set i none))
    | _ => none) := id rfl
theorem resK_o (xs : List D) : resK (.own xs) δ = some (.ok (.own xs) δ) := id rfl
theorem retS_a (m : M R) : retS m δ = thn (resM m δ) (fun s => retM (.ret s)) := id rfl
theorem argsM_n : argsM [] δ = some (.ok [] δ) := id rfl
theorem argsM_c (m : M R) (ms : List (M R)) : argsM (m :: ms) δ = thn (datM m δ) (fun x => bindM (argsM ms) fun xs => retM (x :: xs)) := id rfl
theorem opsM_n : opsM [] δ = some (.ok [] δ) := id rfl
theorem opsM_c (m : M R) (ms : List (M R)) : opsM (m :: ms) δ = thn (opdM m δ) (fun x => bindM (opsM ms) fun xs => retM (x :: xs)) := id rfl
theorem tupM_a (ms : List (M R)) : tupM ms δ = thn (argsM ms δ) (fun xs => retM (.d (.tup xs))) := id rfl
theorem lstM_a (ms : List (M R)) : lstM ms δ = thn (argsM ms δ) (fun xs => retM (.own xs)) := id rfl
theorem liftOp_a (r : Option S) : liftOp r δ = r.map fun s => .ok s.toR δ := id rfl
def app2 (f : D → D → Option S) (x y : Option D) : M R := match x, y with
  | some d, some e => liftOp (f d e)
  | _, _ => fun _ => none
theorem app2_s (f : D → D → Option S) (d e : D) : app2 f (some d) (some e) δ = (f d e).map fun s => .ok s.toR δ := id rfl
theorem op2_a (f : D → D → Option S) (ma mb : M R) : op2 f ma mb δ = thn (opdM ma δ) (fun x => bindM (opdM mb) fun y => fun δ => app2 f (x.val δ) (y.val δ) δ) := by
  unfold op2 bindM thn app2
  cases opdM ma δ with
  | none => rfl
  | some r => cases r with
    | err => rfl
    | ok x δ1 =>
      simp only
      cases opdM mb δ1 with
      | none => rfl
      | some r => cases r with
        | err => rfl
        | ok y δ2 =>
          simp only
          cases x.val δ2 <;> cases y.val δ2 <;> rfl
def app1 (f : D → Option S) (x : Option D) : M R := match x with
  | some d => liftOp (f d)
  | none => fun _ => none
theorem app1_s (f : D → Option S) (d : D) : app1 f (some d) δ = (f d).map fun s => .ok s.toR δ := id rfl
theorem op1_a (f : D → Option S) (ma : M R) : op1 f ma δ = thn (opdM ma δ) (fun x => fun δ => app1 f (x.val δ) δ) := by
  unfold op1 bindM thn app1
  cases opdM ma δ with
  | none => rfl
  | some r => cases r with
    | err => rfl
    | ok x δ1 =>
      simp only
      cases x.val δ1 <;> rfl
def appN (f : List D → Option S) (x : Option (List D)) : M R := match x with
  | some d => liftOp (f d)
  | none => fun _ => none
theorem appN_s (f : List D → Option S) (d : List D) : appN f (some d) δ = (f d).map fun s => .ok s.toR δ := id rfl
theorem opN_a (f : List D → Option S) (ms : List (M R)) : opN f ms δ = thn (opsM ms δ) (fun x => fun δ => appN f (vals δ x) δ) := by
  unfold opN bindM thn appN
  cases opsM ms δ with
  | none => rfl
  | some r => cases r with
    | err => rfl
    | ok x δ1 =>
      simp only
      cases vals δ1 x <;> rfl
def iteK {α : Type} (a b : M α) (x : Bool) : M α := if x then a else b
theorem iteK_t {α : Type} (a b : M α) : iteK a b true δ = a δ := id rfl
theorem iteK_f {α : Type} (a b : M α) : iteK a b false δ = b δ := id rfl
theorem ifS_a (c : M Bool) (a b : M Fl) : ifS c a b δ = thn (c δ) (iteK a b) := id rfl
theorem ifM_a (c : M Bool) (a b : M α) : ifM c a b δ = thn (c δ) (iteK a b) := id rfl
theorem optM_a (o : Option α) : optM o δ = o.map fun a => .ok a δ := id rfl
theorem blM_a (m : M R) : blM m δ = thn (m δ) (fun r => optM (isBl r)) := id rfl
theorem isBl_b (b : Bool) : isBl (.d (.bl b)) = some b := id rfl
def truK (x : Option Bool) : M Bool := match x with
  | some b => retM b
  | none => fun _ => none
theorem truK_s (b : Bool) : truK (some b) δ = some (.ok b δ) := id rfl
theorem truM_a (m : M R) : truM m δ = thn (opdM m δ) (fun o => fun δ => truK ((o.val δ).bind D.tru) δ) := by
  unfold truM bindM thn truK
  cases opdM m δ with
  | none => rfl
  | some r => cases r with
    | err => rfl
    | ok x δ1 =>
      simp only
      cases (x.val δ1).bind D.tru <;> rfl
theorem notM_a (a : M Bool) : notM a δ = thn (a δ) (fun x => retM (!x)) := id rfl
theorem andM_a (a b : M Bool) : andM a b δ = thn (a δ) (iteK b (retM false)) := id rfl
theorem orM_a (a b : M Bool) : orM a b δ = thn (a δ) (iteK (retM true) b) := id rfl
def andK (mb : M R) (r : R) (x : Option Bool) : M R := match x with
  | some true => mb
  | some false => fun δ => some (.ok r δ)
  | none => fun _ => none
theorem andK_t (mb : M R) (r : R) : andK mb r (some true) δ = mb δ := id rfl
theorem andK_f (mb : M R) (r : R) : andK mb r (some false) δ = some (.ok r δ) := id rfl
theorem andV_a (ma mb : M R) : andV ma mb δ = thn (opdM ma δ) (fun x => fun δ => andK mb x.toR ((x.val δ).bind D.tru) δ) := by
  unfold andV bindM thn andK
  cases opdM ma δ with
  | none => rfl
  | some r => cases r with
    | err => rfl
    | ok x δ1 =>
      simp only
      cases x.val δ1 with
      | none => rfl
      | some d => cases hd : d.tru with
        | none => simp [hd]
        | some b => cases b <;> simp [hd]
def orK (mb : M R) (r : R) (x : Option Bool) : M R := match x with
  | some false => mb
  | some true => fun δ => some (.ok r δ)
  | none => fun _ => none
theorem orK_f (mb : M R) (r : R) : orK mb r (some false) δ = mb δ := id rfl
theorem orK_t (mb : M R) (r : R) : orK mb r (some true) δ = some (.ok r δ) := id rfl
theorem orV_a (ma mb : M R) : orV ma mb δ = thn (opdM ma δ) (fun x => fun δ => orK mb x.toR ((x.val δ).bind D.tru) δ) := by
  unfold orV bindM thn orK
  cases opdM ma δ with
  | none => rfl
  | some r => cases r with
    | err => rfl
    | ok x δ1 =>
      simp only
      cases x.val δ1 with
      | none => rfl
      | some d => cases hd : d.tru with
        | none => simp [hd]
        | some b => cases b <;> simp [hd]
def notK (x : Option Bool) : M R := match x with
  | some b => retM (.d (.bl (!b)))
  | none => fun _ => none
theorem notK_s (b : Bool) : notK (some b) δ = some (.ok (.d (.bl (!b))) δ) := id rfl
theorem notV_a (m : M R) : notV m δ = thn (opdM m δ) (fun o => fun δ => notK ((o.val δ).bind D.tru) δ) := by
  unfold notV bindM thn notK
  cases opdM m δ with
  | none => rfl
  | some r => cases r with
    | err => rfl
    | ok x δ1 =>
      simp only
      cases (x.val δ1).bind D.tru <;> rfl
theorem cD_a (d : D) : cD d δ = some (.ok (.d d) δ) := id rfl
theorem dropM_a (m : M R) : dropM m δ = thn (m δ) (fun _ => retM .next) := id rfl
theorem agsM_n : agsM [] δ = some (.ok [] δ) := id rfl
theorem agsM_v (m : M R) (r : List Ag) : agsM (.val m :: r) δ = thn (datM m δ) (fun x => bindM (agsM r) fun xs => retM (.d x :: xs)) := id rfl
theorem agsM_r (j : Nat) (r : List Ag) : agsM (.rf j :: r) δ = thn (opdM (slotM j) δ) (fun x => bindM (agsM r) fun xs => retM (x :: xs)) := id rfl
theorem callG_a (fn : Fn) (sel : List Nat) (dd : List D) (as : List Ag) (kw : List (M R)) : callG fn sel dd as kw δ = thn (agsM as δ) (fun os => bindM (argsM kw) fun zs => callEnd fn (pick sel (os ++ zs.map Op.d ++ dd.map Op.d))) := id rfl
def ret2 (os : List Op) (r : Option (Rs S)) : M R := fun δ => match r with
  | none => none
  | some (.ok s δo) => if os.length ≤ δo.length then some (.ok s.toR (putBack os δo δ)) else none
  | some (.err e δo) => if os.length ≤ δo.length then some (.err e (putBack os δo δ)) else none
theorem ret2_s (os : List Op) (s : S) (δo : Dl) : ret2 os (some (.ok s δo)) δ = if os.length ≤ δo.length then some (.ok s.toR (putBack os δo δ)) else none := id rfl
def callK (fn : Fn) (os : List Op) (ss : Option (List S)) : M R := fun δ => match ss with
  | none => none
  | some ss => if ndp (slotsIn os) then ret2 os (fn ss) δ else none
theorem callK_s (fn : Fn) (os : List Op) (ss : List S) : callK fn os (some ss) δ = if ndp (slotsIn os) then ret2 os (fn ss) δ else none := id rfl
theorem callEnd_a (fn : Fn) (os : List Op) : callEnd fn os δ = callK fn os (ssOf δ os) δ := by
  unfold callEnd callK ret2
  cases ssOf δ os <;> rfl
theorem setIx_a (j : Nat) (val ix : M R) : setIx j val ix δ = thn (datM val δ) (fun d => bindM (opdM (slotM j)) fun _ => bindM (opdM ix) fun k => fun δ => match δ[j]?, k.val δ with
  | some (some (.own xs)), some (.int i) => match ixN xs.length i with
    | some n => some (.ok .next (δ.set j (some (.own (xs.set n d)))))
    | none => none
  | _, _ => none) := id rfl
theorem ownM_a (j : Nat) : ownM j δ = (match δ[j]? with
  | some (some (.own _)) => some (.ok () δ)
  | _ => none) := id rfl
theorem meth_a (j : Nat) (f : List D → List D → Option (D × List D)) (ms : List (M R)) : meth j f ms δ = thn (opdM (slotM j) δ) (fun _ => bindM (ownM j) fun _ => bindM (argsM ms) fun ds => fun δ => match δ[j]? with
  | some (some (.own xs)) => match f xs ds with
    | some (d, ys) => some (.ok (.d d) (δ.set j (some (.own ys))))
    | none => none
  | _ => none) := id rfl
def nextK (o : Option Dl) : Option (Rs Fl) := match o with
  | some δ' => some (.ok .next δ')
  | none => none
theorem nextK_s : nextK (some δ) = some (.ok .next δ) := id rfl
def asgK (T : Tg) (d : D) : M Fl := fun δ => nextK (asgT T d δ)
theorem asgK_n (i : Nat) (d : D) : asgK (.nm i) d δ = some (.ok .next (δ.set i (some (.d d)))) := id rfl
theorem asgK_t (ts : List Tg) (xs : List D) : asgK (.tup ts) (.tup xs) δ = nextK (asgTs ts xs δ) := by unfold asgK; rw [asgT]
theorem asgM_a (T : Tg) (a : M R) : asgM T a δ = thn (datM a δ) (asgK T) := by
  unfold asgM bindM thn asgK nextK
  cases datM a δ with
  | none => rfl
  | some r => cases r with
    | err => rfl
    | ok d δ1 =>
      simp only
      cases asgT T d δ1 <;> rfl
theorem parM_a (is : List Nat) (ms : List (M R)) : parM is ms δ = thn (argsM ms δ) (fun ds => fun δ => if ds.length = is.length then some (.ok .next ((is.zip ds).foldl (fun δ p => δ.set p.1 (some (.d p.2))) δ)) else none) := id rfl
theorem forS_a (T : Tg) (src : M (List D)) (body : M Fl) : forS T src body δ = thn (src δ) (fun ds => forM T body ds) := id rfl
def rngK (ds : List D) : M (List D) := fun δ => match ds with
  | [.int n] => if -(2 ^ 62) ≤ n ∧ n < 2 ^ 62 then some (.ok (rngD 0 n.toNat) δ) else none
  | _ => none
theorem rngM_a (a : M R) : rngM a δ = thn (argsM [a] δ) rngK := id rfl
theorem rngK_n (n : Int) (m : Nat) (h : n = m) (hm : m < 1000000) : rngK [.int n] δ = some (.ok (rngD 0 m) δ) := by
  subst h
  unfold rngK
  simp only
  rw [if_pos ⟨by omega, by omega⟩]
  rfl
theorem enumM_a (a : M R) : enumM a δ = thn (argsM [a] δ) (fun ds => fun δ => match ds with
  | [d] => d.seqL.map fun xs => .ok (enumD xs) δ
  | _ => none) := id rfl
def zipK (ds : List D) : M (List D) := fun δ => match ds with
  | [.tup xs, .tup ys] => some (.ok (zipD xs ys) δ)
  | [d, e] => match d.seqL, e.seqL with
    | some xs, some ys => some (.ok (zipD xs ys) δ)
    | _, _ => none
  | _ => none
theorem zipK_tt (xs ys : List D) : zipK [.tup xs, .tup ys] δ = some (.ok (zipD xs ys) δ) := id rfl
theorem zipK_ll (xs ys : List D) : zipK [.lst xs, .lst ys] δ = some (.ok (zipD xs ys) δ) := id rfl
theorem zipM_a (a b : M R) : zipM a b δ = thn (argsM [a, b] δ) zipK := id rfl
theorem zipM_x (a b : M R) : zipM a b δ = thn (argsM [a, b] δ) (fun ds => fun δ => match ds with
  | [.tup xs, .tup ys] => some (.ok (zipD xs ys) δ)
  | [d, e] => match d.seqL, e.seqL with
    | some xs, some ys => some (.ok (zipD xs ys) δ)
    | _, _ => none
  | _ => none) := id rfl
theorem srcM_a (a : M R) : srcM a δ = thn (datM a δ) (fun d => optM (srcD d)) := id rfl
theorem slM_a (ma : M R) (lo hi : Option (M R)) (f : D → Option Int → Option Int → Option S) : slM ma lo hi f δ = thn (opdM ma δ) (fun x => bindM (partM lo) fun l => bindM (partM hi) fun h => fun δ => match x.val δ with
  | some d => liftOp (f d l h) δ
  | none => none) := id rfl
theorem partM_n : partM none δ = some (.ok none δ) := id rfl
theorem partM_s (m : M R) : partM (some m) δ = thn (opdM m δ) (fun x => fun δ => match x.val δ with
    | some (.int i) => some (.ok (some i) δ)
    | _ => none) := id rfl
theorem itM_a {α : Type} (T : Tg) (d : D) (body : M α) : itM T d body δ = (match asgT T d δ with
  | none => none
  | some δ1 => body δ1) := id rfl
theorem bodyFn_a (n k : Nat) (L : List Nat) (m : M Fl) (ss : List S) : bodyFn n k L m ss = (if ss.length = n ∧ lentIs L 0 ss = true then match m (ss.map some ++ List.replicate k none) with
  | some (.ok (.ret s) δ) => (outs ss δ).map fun o => .ok s o
  | some (.ok .next δ) => (outs ss δ).map fun o => .ok (.d .non) o
  | some (.err e δ) => (outs ss δ).map fun o => .err e o
  | _ => none
  else none) := id rfl
theorem subD_i (i j : Int) : subD (.int i) (.int j) = some (.d (.int (i - j))) := id rfl
theorem mulD_i (i j : Int) : mulD (.int i) (.int j) = if mulC i j then some (.d (.int (i * j))) else none := id rfl
theorem fdivD_i (i j : Int) : fdivD (.int i) (.int j) = if fdivC i j then some (.d (.int (i / j))) else none := id rfl
theorem modD_i (i j : Int) : modD (.int i) (.int j) = if 0 < j then some (.d (.int (i % j))) else none := by
  show (if decide (0 < j) = true then _ else _) = _
  by_cases h : 0 < j
  · rw [if_pos h, if_pos (decide_eq_true h)]
  · rw [if_neg h, if_neg (by simpa using h)]
theorem powD_i (i j : Int) : powD (.int i) (.int j) = if powC i j then some (.d (.int (i ^ j.toNat))) else none := id rfl
theorem shrD_i (i j : Int) : shrD (.int i) (.int j) = if 0 ≤ j then some (.d (.int (i / 2 ^ j.toNat))) else none := by
  show (if decide (0 ≤ j) = true then _ else _) = _
  by_cases h : 0 ≤ j
  · rw [if_pos h, if_pos (decide_eq_true h)]
  · rw [if_neg h, if_neg (by simpa using h)]
theorem andD_i (i j : Int) : andD (.int i) (.int j) = some (.d (.int (Builtin.bitAnd i j))) := id rfl
end
end Ev

set_option Elab.async false
set_option linter.all false
set_option maxRecDepth 100000
namespace Ev
open PySem PySem.Spec PyProof.Rows L2
theorem isi_non_dict  : isi1D "dict" (.non) = some (.d (.bl false)) := id rfl
theorem isi_non_list  : isi1D "list" (.non) = some (.d (.bl false)) := id rfl
theorem isi_non_tuple  : isi1D "tuple" (.non) = some (.d (.bl false)) := id rfl
theorem isi_non_bool  : isi1D "bool" (.non) = some (.d (.bl false)) := id rfl
theorem isi_non_str  : isi1D "str" (.non) = some (.d (.bl false)) := id rfl
theorem isi_non_int  : isi1D "int" (.non) = some (.d (.bl false)) := id rfl
theorem isi_non_lt  : isiD ["list", "tuple"] (.non) = some (.d (.bl false)) := id rfl
theorem is_non_non  : isD (.non) .non = some (.d (.bl true)) := id rfl
theorem isi_int_dict (i : Int) : isi1D "dict" (.int i) = some (.d (.bl false)) := id rfl
theorem isi_int_list (i : Int) : isi1D "list" (.int i) = some (.d (.bl false)) := id rfl
theorem isi_int_tuple (i : Int) : isi1D "tuple" (.int i) = some (.d (.bl false)) := id rfl
theorem isi_int_bool (i : Int) : isi1D "bool" (.int i) = some (.d (.bl false)) := id rfl
theorem isi_int_str (i : Int) : isi1D "str" (.int i) = some (.d (.bl false)) := id rfl
theorem isi_int_int (i : Int) : isi1D "int" (.int i) = some (.d (.bl true)) := id rfl
theorem isi_int_lt (i : Int) : isiD ["list", "tuple"] (.int i) = some (.d (.bl false)) := id rfl
theorem is_int_non (i : Int) : isD (.int i) .non = some (.d (.bl false)) := id rfl
theorem isi_bl_dict (i : Bool) : isi1D "dict" (.bl i) = some (.d (.bl false)) := id rfl
theorem isi_bl_list (i : Bool) : isi1D "list" (.bl i) = some (.d (.bl false)) := id rfl
theorem isi_bl_tuple (i : Bool) : isi1D "tuple" (.bl i) = some (.d (.bl false)) := id rfl
theorem isi_bl_bool (i : Bool) : isi1D "bool" (.bl i) = some (.d (.bl true)) := id rfl
theorem isi_bl_str (i : Bool) : isi1D "str" (.bl i) = some (.d (.bl false)) := id rfl
theorem isi_bl_int (i : Bool) : isi1D "int" (.bl i) = some (.d (.bl true)) := id rfl
theorem isi_bl_lt (i : Bool) : isiD ["list", "tuple"] (.bl i) = some (.d (.bl false)) := id rfl
theorem is_bl_non (i : Bool) : isD (.bl i) .non = some (.d (.bl false)) := id rfl
theorem isi_str_dict (i : Str) : isi1D "dict" (.str i) = some (.d (.bl false)) := id rfl
theorem isi_str_list (i : Str) : isi1D "list" (.str i) = some (.d (.bl false)) := id rfl
theorem isi_str_tuple (i : Str) : isi1D "tuple" (.str i) = some (.d (.bl false)) := id rfl
theorem isi_str_bool (i : Str) : isi1D "bool" (.str i) = some (.d (.bl false)) := id rfl
theorem isi_str_str (i : Str) : isi1D "str" (.str i) = some (.d (.bl true)) := id rfl
theorem isi_str_int (i : Str) : isi1D "int" (.str i) = some (.d (.bl false)) := id rfl
theorem isi_str_lt (i : Str) : isiD ["list", "tuple"] (.str i) = some (.d (.bl false)) := id rfl
theorem is_str_non (i : Str) : isD (.str i) .non = some (.d (.bl false)) := id rfl
theorem isi_tup_dict (i : List D) : isi1D "dict" (.tup i) = some (.d (.bl false)) := id rfl
theorem isi_tup_list (i : List D) : isi1D "list" (.tup i) = some (.d (.bl false)) := id rfl
theorem isi_tup_tuple (i : List D) : isi1D "tuple" (.tup i) = some (.d (.bl true)) := id rfl
theorem isi_tup_bool (i : List D) : isi1D "bool" (.tup i) = some (.d (.bl false)) := id rfl
theorem isi_tup_str (i : List D) : isi1D "str" (.tup i) = some (.d (.bl false)) := id rfl
theorem isi_tup_int (i : List D) : isi1D "int" (.tup i) = some (.d (.bl false)) := id rfl
theorem isi_tup_lt (i : List D) : isiD ["list", "tuple"] (.tup i) = some (.d (.bl true)) := id rfl
theorem is_tup_non (i : List D) : isD (.tup i) .non = some (.d (.bl false)) := id rfl
theorem isi_lst_dict (i : List D) : isi1D "dict" (.lst i) = some (.d (.bl false)) := id rfl
theorem isi_lst_list (i : List D) : isi1D "list" (.lst i) = some (.d (.bl true)) := id rfl
theorem isi_lst_tuple (i : List D) : isi1D "tuple" (.lst i) = some (.d (.bl false)) := id rfl
theorem isi_lst_bool (i : List D) : isi1D "bool" (.lst i) = some (.d (.bl false)) := id rfl
theorem isi_lst_str (i : List D) : isi1D "str" (.lst i) = some (.d (.bl false)) := id rfl
theorem isi_lst_int (i : List D) : isi1D "int" (.lst i) = some (.d (.bl false)) := id rfl
theorem isi_lst_lt (i : List D) : isiD ["list", "tuple"] (.lst i) = some (.d (.bl true)) := id rfl
theorem is_lst_non (i : List D) : isD (.lst i) .non = some (.d (.bl false)) := id rfl
theorem isi_scr_dict (i : List D) : isi1D "dict" (.scr i) = some (.d (.bl false)) := id rfl
theorem isi_scr_list (i : List D) : isi1D "list" (.scr i) = some (.d (.bl true)) := id rfl
theorem isi_scr_tuple (i : List D) : isi1D "tuple" (.scr i) = some (.d (.bl false)) := id rfl
theorem isi_scr_bool (i : List D) : isi1D "bool" (.scr i) = some (.d (.bl false)) := id rfl
theorem isi_scr_str (i : List D) : isi1D "str" (.scr i) = some (.d (.bl false)) := id rfl
theorem isi_scr_int (i : List D) : isi1D "int" (.scr i) = some (.d (.bl false)) := id rfl
theorem isi_scr_lt (i : List D) : isiD ["list", "tuple"] (.scr i) = some (.d (.bl true)) := id rfl
theorem is_scr_non (i : List D) : isD (.scr i) .non = some (.d (.bl false)) := id rfl
theorem eqD_bl (a b : Bool) : eqD (.bl a) (.bl b) = some (.d (.bl (a == b))) := by cases a <;> cases b <;> rfl
theorem neD_bl (a b : Bool) : neD (.bl a) (.bl b) = some (.d (.bl (a != b))) := by cases a <;> cases b <;> rfl
theorem eqD_int (a b : Int) : eqD (.int a) (.int b) = some (.d (.bl (a == b))) := by
  simp [eqD, eqvD, D.pd, SeqAt.shaped, PyData.canLay0, PyData.depth, PyData.eqv]
end Ev

set_option Elab.async false
set_option linter.all false
set_option maxRecDepth 100000
namespace Ev
open PySem PySem.Spec PyProof.Rows L2
theorem lessD_i (i j : Int) : lessD (.int i) (.int j) = some (.d (.bl (decide (i < j)))) := id rfl
theorem lesseqD_i (i j : Int) : lesseqD (.int i) (.int j) = some (.d (.bl (decide (i ≤ j)))) := id rfl
theorem moreD_i (i j : Int) : moreD (.int i) (.int j) = some (.d (.bl (decide (i > j)))) := id rfl
theorem moreeqD_i (i j : Int) : moreeqD (.int i) (.int j) = some (.d (.bl (decide (i ≥ j)))) := id rfl
local macro_rules | `(tactic| walk_at "ev") => `(tactic| simp [thn_ok, thn_err, bindM_a, retM_a, seqK_n, seqK_r, seqK_b, seqK_c, seqM_a, setS_a, putM_d, putM_o, putM_s, slotM_a, opdM_a, opdK_d, opdK_s, opdK_o, datM_a, datK_d, datK_s, datK_o, resM_a, resK_d, resK_s, resK_o, retS_a, argsM_n, argsM_c, opsM_n, opsM_c, tupM_a, lstM_a, liftOp_a, app2_s, op2_a, app1_s, op1_a, appN_s, opN_a, iteK_t, iteK_f, ifS_a, ifM_a, optM_a, blM_a, isBl_b, truK_s, truM_a, notM_a, andM_a, orM_a, andK_t, andK_f, andV_a, orK_f, orK_t, orV_a, notK_s, notV_a, cD_a, dropM_a, agsM_n, agsM_v, agsM_r, callG_a, ret2_s, callK_s, callEnd_a, setIx_a, ownM_a, meth_a, nextK_s, asgK_n, asgK_t, asgM_a, parM_a, forS_a, rngM_a, enumM_a, zipK_tt, zipK_ll, zipM_a, srcM_a, slM_a, partM_n, partM_s, itM_a, bodyFn_a, subD_i, mulD_i, fdivD_i, modD_i, powD_i, shrD_i, andD_i, Op.val, Op.toR, S.toR, vals, ssOf, slotsIn, ndp, putBack, pick, lentIs, outs, asgT, asgTs, D.tru, addD, lessD_i, lesseqD_i, moreD_i, moreeqD_i, ixD, lenD, absD, intF, max2D, min2D, gcdD, listF, D.seqT, D.seqL, eqD_int, negD, bitsD, atI, ixN, *])
/-- the box of draws: what is left of a great number, the seed, how many draws -/
def Bx (b : List D) (n : Int) : Prop := ∃ a s c : Int, b = [.int a, .int s, .int c] ∧ 0 ≤ a ∧ 0 ≤ s ∧ s < 2 ^ 62 ∧ 0 ≤ c ∧ c ≤ n
theorem Bx.mono {b : List D} {n m : Int} (h : Bx b n) (k : n ≤ m) : Bx b m := by
  obtain ⟨a, s, c, e, h1, h2, h3, h4, h5⟩ := h
  exact ⟨a, s, c, e, h1, h2, h3, h4, by omega⟩
theorem ixN_nat {n : Nat} {i : Int} {j : Nat} (h : i = (j : Int)) (hj : j < n) : ixN n i = some j := by
  subst h; unfold ixN; rw [if_pos (by omega), if_pos (by omega)]; simp
theorem at3_0 {a b c : D} : atI [a, b, c] 0 = some a := rfl
theorem at3_1 {a b c : D} : atI [a, b, c] 1 = some b := rfl
theorem at3_2 {a b c : D} : atI [a, b, c] 2 = some c := rfl
theorem mulC_r {i j : Int} (h : j.natAbs < 2 ^ 64) : mulC i j = true := by unfold mulC; simp only [Bool.or_eq_true, decide_eq_true_eq]; exact .inl (.inr h)
theorem mulC_l {i j : Int} (h : i.natAbs < 2 ^ 64) : mulC i j = true := by unfold mulC; simp only [Bool.or_eq_true, decide_eq_true_eq]; exact .inl (.inl h)
theorem fdivC_of {i j : Int} (h : 0 < j) (h2 : j < 2 ^ 200) : fdivC i j = true := by
  unfold fdivC
  exact decide_eq_true ⟨h, Nat.lt_of_lt_of_le (PySem.Flt.log2_lt_of (k := 200) (by decide) (by omega)) (by decide)⟩
theorem powC_of {i j : Int} {k : Nat} (h0 : 0 ≤ j) (h : i.natAbs < 2 ^ k) (hk : (k : Int) * j ≤ 2 ^ 27) : powC i j = true := by
  unfold powC
  refine decide_eq_true ⟨h0, ?_⟩
  have := PyProof.Rows.intBits_le h
  exact Int.le_trans (Int.mul_le_mul_of_nonneg_right (by omega) h0) hk
theorem take_spec {b : List D} {n m : Int} (h : Bx b n) (hn : n ≤ 2 ^ 40) (hm : 0 < m) (hm2 : m < 2 ^ 64) :
    ∃ r b', f_l_take.fn [.own b, .d (.int m)] = some (.ok (.d (.int r)) [some (.own b'), some (.d (.int m))]) ∧ Bx b' (n + 1) ∧ 0 ≤ r ∧ r < m := by
  obtain ⟨a, s, c, rfl, h1, h2, h3, h4, h5⟩ := h
  have hd : fdivC a m = true := fdivC_of hm (Int.lt_of_lt_of_le hm2 (by decide))
  by_cases ha : 0 < a
  · refine ⟨a % m, [.int (a / m), .int s, .int c], ?_, ⟨a / m, s, c, rfl, Int.ediv_nonneg h1 (by omega), h2, h3, h4, by omega⟩, Int.emod_nonneg _ (by omega), Int.emod_lt_of_pos _ hm⟩
    unfold f_l_take m_l_take
    simp [thn_ok, thn_err, bindM_a, retM_a, seqK_n, seqK_r, seqK_b, seqK_c, seqM_a, setS_a, putM_d, putM_o, putM_s, slotM_a, opdM_a, opdK_d, opdK_s, opdK_o, datM_a, datK_d, datK_s, datK_o, resM_a, resK_d, resK_s, resK_o, retS_a, argsM_n, argsM_c, opsM_n, opsM_c, tupM_a, lstM_a, liftOp_a, app2_s, op2_a, app1_s, op1_a, appN_s, opN_a, iteK_t, iteK_f, ifS_a, ifM_a, optM_a, blM_a, isBl_b, truK_s, truM_a, notM_a, andM_a, orM_a, andK_t, andK_f, andV_a, orK_f, orK_t, orV_a, notK_s, notV_a, cD_a, dropM_a, agsM_n, agsM_v, agsM_r, callG_a, ret2_s, callK_s, callEnd_a, setIx_a, ownM_a, meth_a, nextK_s, asgK_n, asgK_t, asgM_a, parM_a, forS_a, rngM_a, enumM_a, zipK_tt, zipK_ll, zipM_a, srcM_a, slM_a, partM_n, partM_s, itM_a, bodyFn_a, subD_i, mulD_i, fdivD_i, modD_i, powD_i, shrD_i, andD_i, Op.val, Op.toR, S.toR, vals, ssOf, slotsIn, ndp, putBack, pick, lentIs, outs, asgT, asgTs, D.tru, addD, lessD_i, lesseqD_i, moreD_i, moreeqD_i, ixD, lenD, absD, intF, max2D, min2D, gcdD, listF, D.seqT, D.seqL, eqD_int, negD, bitsD, atI, ixN, ha, hd, hm]
  · have hp : powC (s + 39373 * (c + 1)) 5 = true := powC_of (k := 63) (by decide) (by omega) (by decide)
    have h39 : mulC 39373 (c + 1) = true := mulC_l (by decide)
    obtain ⟨o, ho⟩ : ∃ o, o = (s + 39373 * (c + 1)) ^ 5 % 2147483647 := ⟨_, rfl⟩
    have o0 : 0 ≤ o := by rw [ho]; exact Int.emod_nonneg _ (by decide)
    have o1 : o < 2147483647 := by rw [ho]; exact Int.emod_lt_of_pos _ (by decide)
    have hq : fdivC s 1000003 = true := fdivC_of (by decide) (by decide)
    have hm1 : mulC (o + (c + 1) + s / 1000003) (o % 40009 + 7 + (c + 1)) = true := mulC_r (by omega)
    obtain ⟨p, hp2⟩ : ∃ p, p = (o + (c + 1) + s / 1000003) * (o % 40009 + 7 + (c + 1)) % 2147483629 := ⟨_, rfl⟩
    have h48 : mulC p 48271 = true := mulC_r (by decide)
    have h64 : fdivC ((p * 48271 + o) % 2147483587) 64 = true := fdivC_of (by decide) (by decide)
    refine ⟨(p * 48271 + o) % 2147483587 / 64 % m, [.int a, .int s, .int (c + 1)], ?_, ⟨a, s, c + 1, rfl, h1, h2, h3, by omega, by omega⟩, Int.emod_nonneg _ (by omega), Int.emod_lt_of_pos _ hm⟩
    unfold f_l_take m_l_take
    simp [thn_ok, thn_err, bindM_a, retM_a, seqK_n, seqK_r, seqK_b, seqK_c, seqM_a, setS_a, putM_d, putM_o, putM_s, slotM_a, opdM_a, opdK_d, opdK_s, opdK_o, datM_a, datK_d, datK_s, datK_o, resM_a, resK_d, resK_s, resK_o, retS_a, argsM_n, argsM_c, opsM_n, opsM_c, tupM_a, lstM_a, liftOp_a, app2_s, op2_a, app1_s, op1_a, appN_s, opN_a, iteK_t, iteK_f, ifS_a, ifM_a, optM_a, blM_a, isBl_b, truK_s, truM_a, notM_a, andM_a, orM_a, andK_t, andK_f, andV_a, orK_f, orK_t, orV_a, notK_s, notV_a, cD_a, dropM_a, agsM_n, agsM_v, agsM_r, callG_a, ret2_s, callK_s, callEnd_a, setIx_a, ownM_a, meth_a, nextK_s, asgK_n, asgK_t, asgM_a, parM_a, forS_a, rngM_a, enumM_a, zipK_tt, zipK_ll, zipM_a, srcM_a, slM_a, partM_n, partM_s, itM_a, bodyFn_a, subD_i, mulD_i, fdivD_i, modD_i, powD_i, shrD_i, andD_i, Op.val, Op.toR, S.toR, vals, ssOf, slotsIn, ndp, putBack, pick, lentIs, outs, asgT, asgTs, D.tru, addD, lessD_i, lesseqD_i, moreD_i, moreeqD_i, ixD, lenD, absD, intF, max2D, min2D, gcdD, listF, D.seqT, D.seqL, eqD_int, negD, bitsD, atI, ixN, ha, hp, h39, ← ho, hq, hm1, ← hp2, h48, h64, hd, hm]
theorem land_even (q : Nat) : (2 * q + 1) &&& (2 * q) = 2 * q := by
  apply Nat.eq_of_testBit_eq
  intro i
  cases i with
  | zero => simp
  | succ i => rw [Nat.testBit_and, Nat.testBit_succ, Nat.testBit_succ, show (2 * q + 1) / 2 = q by omega, show 2 * q / 2 = q by omega]; simp
theorem land_odd (q : Nat) (h : 0 < q) : (2 * q) &&& (2 * q - 1) = 2 * (q &&& (q - 1)) := by
  apply Nat.eq_of_testBit_eq
  intro i
  cases i with
  | zero => simp
  | succ i => rw [Nat.testBit_and, Nat.testBit_succ, Nat.testBit_succ, Nat.testBit_succ, show (2 * q - 1) / 2 = q - 1 by omega, show 2 * q / 2 = q by omega, show 2 * (q &&& (q - 1)) / 2 = q &&& (q - 1) by omega, Nat.testBit_and]
theorem low_gcd : ∀ (m k : Nat), 0 < m → min (2 ^ k) (m - (m &&& (m - 1))) = Nat.gcd m (2 ^ k) := by
  intro m
  induction m using Nat.strongRecOn with
  | _ m ih =>
    intro k hm
    by_cases e : m % 2 = 0
    · obtain ⟨q, rfl⟩ : ∃ q, m = 2 * q := ⟨m / 2, by omega⟩
      have hq : 0 < q := by omega
      rw [land_odd q hq]
      have hle : (q &&& (q - 1)) ≤ q := Nat.and_le_left
      rw [show 2 * q - 2 * (q &&& (q - 1)) = 2 * (q - (q &&& (q - 1))) by omega]
      cases k with
      | zero =>
        have := ih q (by omega) 0 hq
        simp only [Nat.pow_zero, Nat.gcd_one_right] at this ⊢
        omega
      | succ k =>
        have := ih q (by omega) k hq
        rw [Nat.pow_succ, Nat.mul_comm (2 ^ k) 2, Nat.gcd_mul_left, ← this]
        omega
    · obtain ⟨q, rfl⟩ : ∃ q, m = 2 * q + 1 := ⟨m / 2, by omega⟩
      rw [show 2 * q + 1 - 1 = 2 * q by omega, land_even]
      have h1 : 0 < 2 ^ k := Nat.two_pow_pos k
      have : Nat.gcd (2 * q + 1) (2 ^ k) = 1 := by
        apply Nat.Coprime.pow_right
        unfold Nat.Coprime
        rw [Nat.gcd_comm]
        have : Nat.gcd 2 (2 * q + 1) ∣ 2 := Nat.gcd_dvd_left ..
        have h2 : Nat.gcd 2 (2 * q + 1) ∣ (2 * q + 1) := Nat.gcd_dvd_right ..
        have h3 : Nat.gcd 2 (2 * q + 1) ≤ 2 := Nat.le_of_dvd (by omega) this
        have h4 : 0 < Nat.gcd 2 (2 * q + 1) := Nat.gcd_pos_of_pos_left _ (by omega)
        generalize hg : Nat.gcd 2 (2 * q + 1) = g at *
        rcases (show g = 1 ∨ g = 2 by omega) with r | r
        · exact r
        · subst r; omega
      rw [this]; omega

theorem bitAnd_neg (t : Int) (ht : t ≠ 0) : Builtin.bitAnd t (0 - t) = ((t.natAbs - (t.natAbs &&& (t.natAbs - 1)) : Nat) : Int) := by
  unfold Builtin.bitAnd Builtin.bitNot
  have hle : (t.natAbs &&& (t.natAbs - 1)) ≤ t.natAbs := Nat.and_le_left
  by_cases h : 0 ≤ t
  · rw [decide_eq_true h, decide_eq_false (show ¬ 0 ≤ 0 - t by omega)]
    simp only
    rw [show (-(0 - t) - 1).toNat = t.natAbs - 1 by omega, show t.toNat = t.natAbs by omega]
    omega
  · rw [decide_eq_false h, decide_eq_true (show 0 ≤ 0 - t by omega)]
    simp only
    rw [show (-t - 1).toNat = t.natAbs - 1 by omega, show (0 - t).toNat = t.natAbs by omega]
    omega
theorem p2_cast (m : Nat) : ((2 ^ m : Nat) : Int) = 2 ^ m := by rw [Int.natCast_pow]; rfl
theorem p2_lt {k n : Nat} (h : k < n) : (2 : Int) ^ k < 2 ^ n := by
  rw [← p2_cast, ← p2_cast]; exact Int.ofNat_lt.mpr (Nat.pow_lt_pow_right (by decide) h)
theorem p2_pos (k : Nat) : (0 : Int) < 2 ^ k := Int.pow_pos (by decide)
theorem p2_abs (k : Nat) : ((2 : Int) ^ k).natAbs = 2 ^ k := by rw [Int.natAbs_pow]; rfl
/-- t by p, in lowest terms -/
def rt (t p : Int) : Int := t / (Nat.gcd t.natAbs p.natAbs : Nat)
def rp (t p : Int) : Int := p / (Nat.gcd t.natAbs p.natAbs : Nat)
def nd (n p : Int) : D := .tup [.int n, .int p]
def red (t p : Int) : D := nd (rt t p) (rp t p)
theorem gcd_lt {t p : Int} {k : Nat} (hp : 0 < p) (hb : p < 2 ^ k) : (0 : Int) < (Nat.gcd t.natAbs p.natAbs : Nat) ∧ ((Nat.gcd t.natAbs p.natAbs : Nat) : Int) < 2 ^ k := by
  have h1 : 0 < Nat.gcd t.natAbs p.natAbs := Nat.gcd_pos_of_pos_right _ (by omega)
  have h2 : Nat.gcd t.natAbs p.natAbs ≤ p.natAbs := Nat.le_of_dvd (by omega) (Nat.gcd_dvd_right ..)
  omega
theorem num_of_spec (t p : Int) (hp : 0 < p) (hb : p < 2 ^ 200) : f_num_of.fn [.d (.int t), .d (.int p)] = some (.ok (.d (red t p)) [some (.d (.int t)), some (.d (.int p))]) := by
  obtain ⟨g0, g1⟩ := gcd_lt (t := t) hp hb
  have h1 : fdivC t (Nat.gcd t.natAbs p.natAbs : Nat) = true := fdivC_of g0 g1
  have h2 : fdivC p (Nat.gcd t.natAbs p.natAbs : Nat) = true := fdivC_of g0 g1
  simp [f_num_of, bodyFn, m_num_of, seqM, bindM, setS, putM, opN, opsM, opdM, slotM, retS, resM, tupM, argsM, datM, op2, fdivD, intD, liftOp, retM, vals, Op.val, S.toR, gcdD, lentIs, outs, h1, h2, red, nd, rt, rp]
theorem l_num_spec (t : Int) (k : Nat) (hk : k < 200) : f_l_num.fn [.d (.int t), .d (.int (2 ^ k))] = some (.ok (.d (red t (2 ^ k))) [some (.d (.int t)), some (.d (.int (2 ^ k)))]) := by
  have hp := p2_pos k
  have hb : (2 : Int) ^ k < 2 ^ 200 := p2_lt hk
  have ep := p2_abs k
  clear hk
  by_cases ht : t = 0
  · subst ht
    have e : red 0 (2 ^ k) = nd 0 1 := by
      unfold red rt rp
      rw [show (0 : Int).natAbs = 0 from rfl, Nat.gcd_zero_left, ep]
      rw [p2_cast, Int.ediv_self (by omega), Int.zero_ediv]
    rw [e]
    simp [f_l_num, bodyFn, m_l_num, seqM, bindM, setS, putM, opN, opsM, opdM, slotM, retS, resM, tupM, argsM, datM, op2, eqD_int, liftOp, retM, vals, Op.val, S.toR, lentIs, outs, ifS, blM, isBl, optM, cD, nd]
  · have hm : (if Builtin.bitAnd t (0 - t) < 2 ^ k then Builtin.bitAnd t (0 - t) else 2 ^ k) = ((Nat.gcd t.natAbs ((2 : Int) ^ k).natAbs : Nat) : Int) := by
      have := low_gcd t.natAbs k (by omega)
      rw [bitAnd_neg t ht, ep, ← this, ← p2_cast]
      split <;> omega
    obtain ⟨g0, g1⟩ := gcd_lt (t := t) hp hb
    have h1 : fdivC t (Nat.gcd t.natAbs ((2 : Int) ^ k).natAbs : Nat) = true := fdivC_of g0 g1
    have h2 : fdivC (2 ^ k) (Nat.gcd t.natAbs ((2 : Int) ^ k).natAbs : Nat) = true := fdivC_of g0 g1
    have hm2 : min2D [.int (2 ^ k), .int (Builtin.bitAnd t (0 - t))] = some (.d (.int ((Nat.gcd t.natAbs ((2 : Int) ^ k).natAbs : Nat) : Int))) := by rw [← hm]; rfl
    rw [Int.zero_sub] at hm2
    have ht' : (t == 0) = false := by simpa using ht
    unfold red rt rp nd
    clear hb hm
    generalize ((Nat.gcd t.natAbs ((2 : Int) ^ k).natAbs : Nat) : Int) = g at *
    simp [f_l_num, bodyFn, m_l_num, seqM, bindM, setS, putM, opN, opsM, opdM, slotM, retS, resM, tupM, argsM, datM, op2, eqD_int, liftOp, retM, vals, Op.val, S.toR, lentIs, outs, ifS, blM, isBl, optM, cD, ht, subD, intD, andD, hm2, fdivD, h1, h2]

/-! ### the rational that a pair is -/
theorem gcd_p2 : ∀ (k m : Nat), ∃ i, i ≤ k ∧ Nat.gcd m (2 ^ k) = 2 ^ i
  | 0, m => ⟨0, Nat.le_refl _, by simp⟩
  | k + 1, m => by
    by_cases e : m % 2 = 0
    · obtain ⟨q, rfl⟩ : ∃ q, m = 2 * q := ⟨m / 2, by omega⟩
      obtain ⟨i, hi, h⟩ := gcd_p2 k q
      exact ⟨i + 1, by omega, by rw [Nat.pow_succ, Nat.mul_comm (2 ^ k) 2, Nat.gcd_mul_left, h, Nat.pow_succ, Nat.mul_comm]⟩
    · refine ⟨0, by omega, ?_⟩
      apply Nat.Coprime.pow_right
      unfold Nat.Coprime
      rw [Nat.gcd_comm]
      have h1 : Nat.gcd 2 m ∣ 2 := Nat.gcd_dvd_left ..
      have h2 : Nat.gcd 2 m ∣ m := Nat.gcd_dvd_right ..
      have h3 : Nat.gcd 2 m ≤ 2 := Nat.le_of_dvd (by omega) h1
      have h4 : 0 < Nat.gcd 2 m := Nat.gcd_pos_of_pos_left _ (by omega)
      generalize hg : Nat.gcd 2 m = g at *
      rcases (show g = 1 ∨ g = 2 by omega) with r | r
      · exact r
      · subst r; omega
theorem red_parts {t p : Int} (hp : 0 < p) : ∃ g : Int, 0 < g ∧ t = g * rt t p ∧ p = g * rp t p ∧ 0 < rp t p := by
  have g0 : (0 : Int) < (Nat.gcd t.natAbs p.natAbs : Nat) := by
    have : 0 < Nat.gcd t.natAbs p.natAbs := Nat.gcd_pos_of_pos_right _ (by omega)
    omega
  have d1 : ((Nat.gcd t.natAbs p.natAbs : Nat) : Int) ∣ t := Int.ofNat_dvd_left.mpr (Nat.gcd_dvd_left ..)
  have d2 : ((Nat.gcd t.natAbs p.natAbs : Nat) : Int) ∣ p := Int.ofNat_dvd_left.mpr (Nat.gcd_dvd_right ..)
  have e2 : p = ((Nat.gcd t.natAbs p.natAbs : Nat) : Int) * rp t p := (Int.mul_ediv_cancel' d2).symm
  refine ⟨_, g0, (Int.mul_ediv_cancel' d1).symm, e2, ?_⟩
  rcases Int.lt_trichotomy (rp t p) 0 with h | h | h
  · have := Int.mul_neg_of_pos_of_neg g0 h
    omega
  · rw [h] at e2; omega
  · exact h
/-- rt by rp is t by p -/
theorem red_cross {t p : Int} (hp : 0 < p) : rt t p * p = t * rp t p := by
  obtain ⟨g, g0, e1, e2, _⟩ := red_parts (t := t) hp
  calc rt t p * p = rt t p * (g * rp t p) := by rw [← e2]
    _ = g * rt t p * rp t p := by rw [← Int.mul_assoc, Int.mul_comm (rt t p) g]
    _ = t * rp t p := by rw [← e1]
theorem rp_pos {t p : Int} (hp : 0 < p) : 0 < rp t p := (red_parts hp).choose_spec.2.2.2
theorem rp_p2 (t : Int) (k : Nat) : ∃ j, j ≤ k ∧ rp t (2 ^ k) = 2 ^ j := by
  obtain ⟨i, hi, h⟩ := gcd_p2 k t.natAbs
  refine ⟨k - i, by omega, ?_⟩
  unfold rp
  rw [p2_abs, h, p2_cast]
  have : (2 : Int) ^ k = 2 ^ i * 2 ^ (k - i) := by rw [← Int.pow_add]; congr 1; omega
  rw [this, Int.mul_ediv_cancel_left _ (by have := p2_pos i; omega)]
theorem red_scale {t p c : Int} (hc : 0 < c) : red (t * c) (p * c) = red t p := by
  unfold red rt rp
  have : Nat.gcd (t * c).natAbs (p * c).natAbs = Nat.gcd t.natAbs p.natAbs * c.natAbs := by rw [Int.natAbs_mul, Int.natAbs_mul, Nat.gcd_mul_right]
  rw [this, Int.natCast_mul, show ((c.natAbs : Nat) : Int) = c by omega, Int.mul_ediv_mul_of_pos_left _ _ hc, Int.mul_ediv_mul_of_pos_left _ _ hc]
theorem red_eq {t p t' p' : Int} (hp : 0 < p) (hp' : 0 < p') (h : t * p' = t' * p) : red t p = red t' p' := by
  rw [← red_scale (t := t) (p := p) hp', h, Int.mul_comm p p', red_scale hp]
theorem red_red {t p : Int} (hp : 0 < p) : red (rt t p) (rp t p) = red t p := red_eq (rp_pos hp) hp (red_cross hp)
/-- one in lowest terms -/
def Low (n d : Int) : Prop := 0 < d ∧ red n d = nd n d
theorem low_red {t p : Int} (hp : 0 < p) : Low (rt t p) (rp t p) := ⟨rp_pos hp, by rw [red_red hp]; rfl⟩
/-! ### the law's small functions -/
end Ev

set_option Elab.async false
set_option linter.all false
set_option maxRecDepth 100000
namespace Ev
open PySem PySem.Spec PyProof.Rows L2
theorem power_spec (k : Nat) (hk : k < 1000) : f_l_power.fn [.d (.int k)] = some (.ok (.d (.int (2 ^ k))) [some (.d (.int k))]) := by
  obtain ⟨δ', e, x, rfl⟩ := forM0 (T := .nm 2) (body := seqM (setS 1 (op2 mulD (slotM 1) (cD (.int 2)))) (retM .next)) (fun i δ => ∃ x, δ = [some (.d (.int k)), some (.d (.int (2 ^ i))), x]) (rngD 0 k) [some (.d (.int k)), some (.d (.int 1)), none] ⟨none, rfl⟩ (by
    rintro i d δ hd ⟨x, rfl⟩
    have hm : mulC (2 ^ i) 2 = true := mulC_r (by decide)
    refine ⟨_, ?_, some (.d d), rfl⟩
    simp [thn_ok, thn_err, bindM_a, retM_a, seqK_n, seqK_r, seqK_b, seqK_c, seqM_a, setS_a, putM_d, putM_o, putM_s, slotM_a, opdM_a, opdK_d, opdK_s, opdK_o, datM_a, datK_d, datK_s, datK_o, resM_a, resK_d, resK_s, resK_o, retS_a, argsM_n, argsM_c, opsM_n, opsM_c, tupM_a, lstM_a, liftOp_a, app2_s, op2_a, app1_s, op1_a, appN_s, opN_a, iteK_t, iteK_f, ifS_a, ifM_a, optM_a, blM_a, isBl_b, truK_s, truM_a, notM_a, andM_a, orM_a, andK_t, andK_f, andV_a, orK_f, orK_t, orV_a, notK_s, notV_a, cD_a, dropM_a, agsM_n, agsM_v, agsM_r, callG_a, ret2_s, callK_s, callEnd_a, setIx_a, ownM_a, meth_a, nextK_s, asgK_n, asgK_t, asgM_a, parM_a, forS_a, rngM_a, enumM_a, zipK_tt, zipK_ll, zipM_a, srcM_a, slM_a, partM_n, partM_s, itM_a, bodyFn_a, subD_i, mulD_i, fdivD_i, modD_i, powD_i, shrD_i, andD_i, Op.val, Op.toR, S.toR, vals, ssOf, slotsIn, ndp, putBack, pick, lentIs, outs, asgT, asgTs, D.tru, addD, lessD_i, lesseqD_i, moreD_i, moreeqD_i, ixD, lenD, absD, intF, max2D, min2D, gcdD, listF, D.seqT, D.seqL, eqD_int, negD, bitsD, atI, ixN, hm, Int.pow_succ])
  rw [rngD_len] at e
  have hr := fun δ => rngK_n δ (k : Int) k rfl (by omega)
  unfold f_l_power m_l_power
  simp [thn_ok, thn_err, bindM_a, retM_a, seqK_n, seqK_r, seqK_b, seqK_c, seqM_a, setS_a, putM_d, putM_o, putM_s, slotM_a, opdM_a, opdK_d, opdK_s, opdK_o, datM_a, datK_d, datK_s, datK_o, resM_a, resK_d, resK_s, resK_o, retS_a, argsM_n, argsM_c, opsM_n, opsM_c, tupM_a, lstM_a, liftOp_a, app2_s, op2_a, app1_s, op1_a, appN_s, opN_a, iteK_t, iteK_f, ifS_a, ifM_a, optM_a, blM_a, isBl_b, truK_s, truM_a, notM_a, andM_a, orM_a, andK_t, andK_f, andV_a, orK_f, orK_t, orV_a, notK_s, notV_a, cD_a, dropM_a, agsM_n, agsM_v, agsM_r, callG_a, ret2_s, callK_s, callEnd_a, setIx_a, ownM_a, meth_a, nextK_s, asgK_n, asgK_t, asgM_a, parM_a, forS_a, rngM_a, enumM_a, zipK_tt, zipK_ll, zipM_a, srcM_a, slM_a, partM_n, partM_s, itM_a, bodyFn_a, subD_i, mulD_i, fdivD_i, modD_i, powD_i, shrD_i, andD_i, Op.val, Op.toR, S.toR, vals, ssOf, slotsIn, ndp, putBack, pick, lentIs, outs, asgT, asgTs, D.tru, addD, lessD_i, lesseqD_i, moreD_i, moreeqD_i, ixD, lenD, absD, intF, max2D, min2D, gcdD, listF, D.seqT, D.seqL, eqD_int, negD, bitsD, atI, ixN, hr, e]
theorem atI_nat {xs : List D} {i : Int} {j : Nat} {d : D} (h : i = (j : Int)) (e : xs[j]? = some d) : atI xs i = some d := by
  obtain ⟨hj, _⟩ := List.getElem?_eq_some_iff.mp e
  unfold atI
  rw [ixN_nat h hj]
  exact e
theorem cut_lo (xs : List D) (n : Nat) : cutD xs none (some (n : Int)) = xs.take n := by
  unfold cutD
  rw [HT.sIx_none, HT.sIx_nat, List.drop_zero, Nat.sub_zero]
  by_cases h : n ≤ xs.length
  · rw [Nat.min_eq_left h]
  · rw [Nat.min_eq_right (by omega), List.take_of_length_le (by omega), List.take_of_length_le (by omega)]
theorem cut_hi (xs : List D) (n m : Nat) : ∃ k l, cutD xs (some (n : Int)) (some (m : Int)) = (xs.drop k).take l ∧ (xs.length ≤ n → k = xs.length) := by
  unfold cutD
  rw [HT.sIx_nat, HT.sIx_nat]
  exact ⟨_, _, rfl, fun h => Nat.min_eq_right h⟩
theorem enumD_at {xs : List D} {i : Nat} {d : D} (h : (enumD xs)[i]? = some d) : ∃ e, xs[i]? = some e ∧ d = .tup [D.int i, e] := by
  unfold enumD at h
  rw [List.getElem?_map] at h
  cases e : (List.range xs.length)[i]? with
  | none => rw [e] at h; cases h
  | some j =>
    rw [e] at h
    obtain ⟨hl, hj⟩ := List.getElem?_eq_some_iff.mp e
    rw [List.getElem_range] at hj
    rw [List.length_range] at hl
    subst hj
    cases h
    refine ⟨xs[i], List.getElem?_eq_getElem hl, ?_⟩
    show D.tup [D.int ↑i, xs.getD i D.non] = _
    rw [List.getD_eq_getElem?_getD, List.getElem?_eq_getElem hl]; rfl
theorem map_int_at {ys : List Int} {j : Nat} (h : j < ys.length) : (ys.map D.int)[j]? = some (D.int ys[j]) := by
  rw [List.getElem?_map, List.getElem?_eq_getElem h]; rfl
theorem folded_spec (ns : List Int) (hl : ns.length ≤ 63) : ∃ ys : List Int, ys.length ≤ 4 ∧ f_l_folded.fn [.d (.scr (ns.map D.int)), .d (D.int 4)] = some (.ok (.own (ys.map D.int)) [some (.d (.scr (ns.map D.int))), some (.d (D.int 4))]) := by
  obtain ⟨k, l, ec, hk⟩ := cut_hi (ns.map D.int) 4 63
  have el := cut_lo (ns.map D.int) 4
  rw [← List.map_take] at el
  rw [← List.map_drop, ← List.map_take] at ec
  rw [List.length_map] at hk
  rw [show ((4 : Nat) : Int) = 4 from rfl] at el
  rw [show ((4 : Nat) : Int) = 4 from rfl, show ((63 : Nat) : Int) = 63 from rfl] at ec
  obtain ⟨zs, hz⟩ : ∃ zs, zs = (ns.drop k).take l := ⟨_, rfl⟩
  obtain ⟨ws, hw⟩ : ∃ ws, ws = ns.take 4 := ⟨_, rfl⟩
  have hw4 : ws.length = min 4 ns.length := by rw [hw]; simp
  rw [← hw] at el
  rw [← hz] at ec
  have hz4 : zs ≠ [] → 4 ≤ ns.length := fun hn => by
    by_cases h : 4 ≤ ns.length
    · exact h
    · rw [hk (by omega), List.drop_length] at hz
      simp at hz
      exact absurd hz hn
  obtain ⟨δ', e, ys, x, y, hy, rfl⟩ := forM0 (T := .tup [.nm 3, .nm 4]) (body := seqM (setIx 2 (op2 addD (op2 ixD (slotM 2) (op2 modD (slotM 3) (slotM 1))) (op2 mulD (slotM 4) (op2 addD (slotM 3) (cD (D.int 2))))) (op2 modD (slotM 3) (slotM 1))) (retM .next))
    (fun _ δ => ∃ (ys : List Int) (x y : Option S), ys.length = min 4 ns.length ∧ δ = [some (.d (.scr (ns.map D.int))), some (.d (D.int 4)), some (.own (ys.map D.int)), x, y]) (enumD (zs.map D.int)) [some (.d (.scr (ns.map D.int))), some (.d (D.int 4)), some (.own (ws.map D.int)), none, none] ⟨ws, none, none, hw4, rfl⟩ (by
    rintro i d δ hd ⟨ys, x, y, hy, rfl⟩
    obtain ⟨e, he, rfl⟩ := enumD_at hd
    obtain ⟨hi, _⟩ := List.getElem?_eq_some_iff.mp he
    rw [List.length_map] at hi
    rw [map_int_at hi] at he
    cases he
    have h4 := hz4 (fun z => by rw [z] at hi; exact absurd hi (by simp))
    have hj : i % 4 < ys.length := by omega
    have e1 : ((i : Int) % 4) = ((i % 4 : Nat) : Int) := by omega
    have ha : atI (ys.map D.int) ((i : Int) % 4) = some (D.int ys[i % 4]) := atI_nat e1 (map_int_at hj)
    have hb : ixN ys.length ((i : Int) % 4) = some (i % 4) := ixN_nat e1 hj
    have hm : mulC zs[i] ((i : Int) + 2) = true := mulC_r (by
      have : zs.length ≤ ns.length := by rw [hz]; simp only [List.length_take, List.length_drop]; omega
      omega)
    refine ⟨_, ?_, ys.set (i % 4) (ys[i % 4] + zs[i] * ((i : Int) + 2)), some (.d (D.int i)), some (.d (D.int zs[i])), by rw [List.length_set]; exact hy, rfl⟩
    rw [List.map_set]
    simp [thn_ok, thn_err, bindM_a, retM_a, seqK_n, seqK_r, seqK_b, seqK_c, seqM_a, setS_a, putM_d, putM_o, putM_s, slotM_a, opdM_a, opdK_d, opdK_s, opdK_o, datM_a, datK_d, datK_s, datK_o, resM_a, resK_d, resK_s, resK_o, retS_a, argsM_n, argsM_c, opsM_n, opsM_c, tupM_a, lstM_a, liftOp_a, app2_s, op2_a, app1_s, op1_a, appN_s, opN_a, iteK_t, iteK_f, ifS_a, ifM_a, optM_a, blM_a, isBl_b, truK_s, truM_a, notM_a, andM_a, orM_a, andK_t, andK_f, andV_a, orK_f, orK_t, orV_a, notK_s, notV_a, cD_a, dropM_a, agsM_n, agsM_v, agsM_r, callG_a, ret2_s, callK_s, callEnd_a, setIx_a, ownM_a, meth_a, nextK_s, asgK_n, asgK_t, asgM_a, parM_a, forS_a, rngM_a, enumM_a, zipK_tt, zipK_ll, zipM_a, srcM_a, slM_a, partM_n, partM_s, itM_a, bodyFn_a, subD_i, mulD_i, fdivD_i, modD_i, powD_i, shrD_i, andD_i, Op.val, Op.toR, S.toR, vals, ssOf, slotsIn, ndp, putBack, pick, lentIs, outs, asgT, asgTs, D.tru, addD, lessD_i, lesseqD_i, moreD_i, moreeqD_i, ixD, lenD, absD, intF, max2D, min2D, gcdD, listF, D.seqT, D.seqL, eqD_int, negD, bitsD, ha, hb, hm])
  refine ⟨ys, by omega, ?_⟩
  unfold f_l_folded m_l_folded
  simp [thn_ok, thn_err, bindM_a, retM_a, seqK_n, seqK_r, seqK_b, seqK_c, seqM_a, setS_a, putM_d, putM_o, putM_s, slotM_a, opdM_a, opdK_d, opdK_s, opdK_o, datM_a, datK_d, datK_s, datK_o, resM_a, resK_d, resK_s, resK_o, retS_a, argsM_n, argsM_c, opsM_n, opsM_c, tupM_a, lstM_a, liftOp_a, app2_s, op2_a, app1_s, op1_a, appN_s, opN_a, iteK_t, iteK_f, ifS_a, ifM_a, optM_a, blM_a, isBl_b, truK_s, truM_a, notM_a, andM_a, orM_a, andK_t, andK_f, andV_a, orK_f, orK_t, orV_a, notK_s, notV_a, cD_a, dropM_a, agsM_n, agsM_v, agsM_r, callG_a, ret2_s, callK_s, callEnd_a, setIx_a, ownM_a, meth_a, nextK_s, asgK_n, asgK_t, asgM_a, parM_a, forS_a, rngM_a, enumM_a, zipK_tt, zipK_ll, zipM_a, srcM_a, slM_a, partM_n, partM_s, itM_a, bodyFn_a, subD_i, mulD_i, fdivD_i, modD_i, powD_i, shrD_i, andD_i, Op.val, Op.toR, S.toR, vals, ssOf, slotsIn, ndp, putBack, pick, lentIs, outs, asgT, asgTs, D.tru, addD, lessD_i, lesseqD_i, moreD_i, moreeqD_i, ixD, lenD, absD, intF, max2D, min2D, gcdD, listF, D.seqT, D.seqL, eqD_int, negD, bitsD, slD, el, ec, e]
theorem dip_spec (ys : List Int) (hl : ys.length ≤ 4) (k : Nat) (hk : k ≤ ys.length) : ∃ b, Bx b 0 ∧ f_l_dip.fn [.d (.lst (ys.map D.int)), .d (D.int k)] = some (.ok (.own b) [some (.d (.lst (ys.map D.int))), some (.d (D.int k))]) := by
  obtain ⟨c, hc⟩ : ∃ c : Int, (if k < ys.length then atI (ys.map D.int) k else some (D.int 0)) = some (D.int c) := by
    by_cases h : k < ys.length
    · rw [if_pos h]; exact ⟨_, atI_nat rfl (map_int_at h)⟩
    · rw [if_neg h]; exact ⟨0, rfl⟩
  have hp : powC 10 18 = true := by decide
  have hd : fdivC c 2305843009213693951 = true := fdivC_of (by decide) (by decide)
  have hm : mulC 39373 k = true := mulC_l (by decide)
  have h1 : ∀ x, mulC x 1 = true := fun x => mulC_r (by decide)
  have h0 : ∀ x, mulC x 0 = true := fun x => mulC_r (by decide)
  obtain ⟨a, ha⟩ : ∃ a : Int, a = (if c < 0 then -c else c) := ⟨_, rfl⟩
  have a0 : 0 ≤ a := by rw [ha]; split <;> omega
  have s0 := Int.emod_nonneg c (show (2305843009213693951 : Int) ≠ 0 by decide)
  have s1 := Int.emod_lt_of_pos c (show (0 : Int) < 2305843009213693951 by decide)
  refine ⟨[D.int (a * (if a ≥ 10 ^ 18 then 1 else 0)), D.int (c % 2305843009213693951 + 39373 * k + 17), D.int 0], ⟨_, _, _, rfl, by split <;> omega, by omega, by omega, by omega, by omega⟩, ?_⟩
  unfold f_l_dip m_l_dip
  by_cases h : k < ys.length
  · rw [if_pos h] at hc
    by_cases g : (1000000000000000000 : Int) ≤ a
    · simp [thn_ok, thn_err, bindM_a, retM_a, seqK_n, seqK_r, seqK_b, seqK_c, seqM_a, setS_a, putM_d, putM_o, putM_s, slotM_a, opdM_a, opdK_d, opdK_s, opdK_o, datM_a, datK_d, datK_s, datK_o, resM_a, resK_d, resK_s, resK_o, retS_a, argsM_n, argsM_c, opsM_n, opsM_c, tupM_a, lstM_a, liftOp_a, app2_s, op2_a, app1_s, op1_a, appN_s, opN_a, iteK_t, iteK_f, ifS_a, ifM_a, optM_a, blM_a, isBl_b, truK_s, truM_a, notM_a, andM_a, orM_a, andK_t, andK_f, andV_a, orK_f, orK_t, orV_a, notK_s, notV_a, cD_a, dropM_a, agsM_n, agsM_v, agsM_r, callG_a, ret2_s, callK_s, callEnd_a, setIx_a, ownM_a, meth_a, nextK_s, asgK_n, asgK_t, asgM_a, parM_a, forS_a, rngM_a, enumM_a, zipK_tt, zipK_ll, zipM_a, srcM_a, slM_a, partM_n, partM_s, itM_a, bodyFn_a, subD_i, mulD_i, fdivD_i, modD_i, powD_i, shrD_i, andD_i, Op.val, Op.toR, S.toR, vals, ssOf, slotsIn, ndp, putBack, pick, lentIs, outs, asgT, asgTs, D.tru, addD, lessD_i, lesseqD_i, moreD_i, moreeqD_i, ixD, lenD, absD, intF, max2D, min2D, gcdD, listF, D.seqT, D.seqL, eqD_int, negD, bitsD, ← ha, h, hc, hp, hd, hm, h1, g]
    · simp [thn_ok, thn_err, bindM_a, retM_a, seqK_n, seqK_r, seqK_b, seqK_c, seqM_a, setS_a, putM_d, putM_o, putM_s, slotM_a, opdM_a, opdK_d, opdK_s, opdK_o, datM_a, datK_d, datK_s, datK_o, resM_a, resK_d, resK_s, resK_o, retS_a, argsM_n, argsM_c, opsM_n, opsM_c, tupM_a, lstM_a, liftOp_a, app2_s, op2_a, app1_s, op1_a, appN_s, opN_a, iteK_t, iteK_f, ifS_a, ifM_a, optM_a, blM_a, isBl_b, truK_s, truM_a, notM_a, andM_a, orM_a, andK_t, andK_f, andV_a, orK_f, orK_t, orV_a, notK_s, notV_a, cD_a, dropM_a, agsM_n, agsM_v, agsM_r, callG_a, ret2_s, callK_s, callEnd_a, setIx_a, ownM_a, meth_a, nextK_s, asgK_n, asgK_t, asgM_a, parM_a, forS_a, rngM_a, enumM_a, zipK_tt, zipK_ll, zipM_a, srcM_a, slM_a, partM_n, partM_s, itM_a, bodyFn_a, subD_i, mulD_i, fdivD_i, modD_i, powD_i, shrD_i, andD_i, Op.val, Op.toR, S.toR, vals, ssOf, slotsIn, ndp, putBack, pick, lentIs, outs, asgT, asgTs, D.tru, addD, lessD_i, lesseqD_i, moreD_i, moreeqD_i, ixD, lenD, absD, intF, max2D, min2D, gcdD, listF, D.seqT, D.seqL, eqD_int, negD, bitsD, ← ha, h, hc, hp, hd, hm, h0, g]
  · rw [if_neg h] at hc
    cases hc
    rw [if_neg (show ¬ (0 : Int) < 0 by decide)] at ha
    subst ha
    simp [thn_ok, thn_err, bindM_a, retM_a, seqK_n, seqK_r, seqK_b, seqK_c, seqM_a, setS_a, putM_d, putM_o, putM_s, slotM_a, opdM_a, opdK_d, opdK_s, opdK_o, datM_a, datK_d, datK_s, datK_o, resM_a, resK_d, resK_s, resK_o, retS_a, argsM_n, argsM_c, opsM_n, opsM_c, tupM_a, lstM_a, liftOp_a, app2_s, op2_a, app1_s, op1_a, appN_s, opN_a, iteK_t, iteK_f, ifS_a, ifM_a, optM_a, blM_a, isBl_b, truK_s, truM_a, notM_a, andM_a, orM_a, andK_t, andK_f, andV_a, orK_f, orK_t, orV_a, notK_s, notV_a, cD_a, dropM_a, agsM_n, agsM_v, agsM_r, callG_a, ret2_s, callK_s, callEnd_a, setIx_a, ownM_a, meth_a, nextK_s, asgK_n, asgK_t, asgM_a, parM_a, forS_a, rngM_a, enumM_a, zipK_tt, zipK_ll, zipM_a, srcM_a, slM_a, partM_n, partM_s, itM_a, bodyFn_a, subD_i, mulD_i, fdivD_i, modD_i, powD_i, shrD_i, andD_i, Op.val, Op.toR, S.toR, vals, ssOf, slotsIn, ndp, putBack, pick, lentIs, outs, asgT, asgTs, D.tru, addD, lessD_i, lesseqD_i, moreD_i, moreeqD_i, ixD, lenD, absD, intF, max2D, min2D, gcdD, listF, D.seqT, D.seqL, eqD_int, negD, bitsD, h, hp, hd, hm, h0]
end Ev

set_option Elab.async false
set_option linter.all false
set_option maxRecDepth 100000
namespace Ev
open PySem PySem.Spec PyProof.Rows L2
theorem p2C (x : Int) {j : Nat} (h : j < 64) : mulC x (2 ^ j) = true := mulC_r (by rw [p2_abs]; exact Nat.pow_lt_pow_right (by decide) h)
theorem p2Cl (x : Int) {j : Nat} (h : j < 64) : mulC (2 ^ j) x = true := mulC_l (by rw [p2_abs]; exact Nat.pow_lt_pow_right (by decide) h)
theorem p2m (i j : Nat) : (2 : Int) ^ i * 2 ^ j = 2 ^ (i + j) := (Int.pow_add ..).symm
theorem p2F (x : Int) {j : Nat} (h : j < 200) : fdivC x (2 ^ j) = true := fdivC_of (p2_pos j) (p2_lt h)
theorem p2d {i j : Nat} (h : i ≤ j) : (2 : Int) ^ j / 2 ^ i = 2 ^ (j - i) := by
  have : (2 : Int) ^ j = 2 ^ (j - i) * 2 ^ i := by rw [← Int.pow_add]; congr 1; omega
  rw [this, Int.mul_ediv_cancel _ (by have := p2_pos i; omega)]
theorem l_add_spec (n m : Int) (i j : Nat) (hi : i < 64) (hj : j < 64) : f_l_add.fn [.d (nd n (2 ^ i)), .d (nd m (2 ^ j))] = some (.ok (.d (red (n * 2 ^ j + m * 2 ^ i) (2 ^ (i + j)))) [some (.d (nd n (2 ^ i))), some (.d (nd m (2 ^ j)))]) := by
  have h := l_num_spec (n * 2 ^ j + m * 2 ^ i) (i + j) (by omega)
  have c1 := fun x => p2C x hi
  have c2 := fun x => p2C x hj
  unfold nd f_l_add m_l_add
  simp [thn_ok, thn_err, bindM_a, retM_a, seqK_n, seqK_r, seqK_b, seqK_c, seqM_a, setS_a, putM_d, putM_o, putM_s, slotM_a, opdM_a, opdK_d, opdK_s, opdK_o, datM_a, datK_d, datK_s, datK_o, resM_a, resK_d, resK_s, resK_o, retS_a, argsM_n, argsM_c, opsM_n, opsM_c, tupM_a, lstM_a, liftOp_a, app2_s, op2_a, app1_s, op1_a, appN_s, opN_a, iteK_t, iteK_f, ifS_a, ifM_a, optM_a, blM_a, isBl_b, truK_s, truM_a, notM_a, andM_a, orM_a, andK_t, andK_f, andV_a, orK_f, orK_t, orV_a, notK_s, notV_a, cD_a, dropM_a, agsM_n, agsM_v, agsM_r, callG_a, ret2_s, callK_s, callEnd_a, setIx_a, ownM_a, meth_a, nextK_s, asgK_n, asgK_t, asgM_a, parM_a, forS_a, rngM_a, enumM_a, zipK_tt, zipK_ll, zipM_a, srcM_a, slM_a, partM_n, partM_s, itM_a, bodyFn_a, subD_i, mulD_i, fdivD_i, modD_i, powD_i, shrD_i, andD_i, Op.val, Op.toR, S.toR, vals, ssOf, slotsIn, ndp, putBack, pick, lentIs, outs, asgT, asgTs, D.tru, addD, lessD_i, lesseqD_i, moreD_i, moreeqD_i, ixD, lenD, absD, intF, max2D, min2D, gcdD, listF, D.seqT, D.seqL, eqD_int, negD, bitsD, atI, ixN, c1, c2, p2m, h]
theorem l_sub_spec (n m : Int) (i j : Nat) (hi : i < 64) (hj : j < 64) : f_l_sub.fn [.d (nd n (2 ^ i)), .d (nd m (2 ^ j))] = some (.ok (.d (red (n * 2 ^ j + -m * 2 ^ i) (2 ^ (i + j)))) [some (.d (nd n (2 ^ i))), some (.d (nd m (2 ^ j)))]) := by
  have h := l_add_spec n (-m) i j hi hj
  unfold nd at h
  unfold nd f_l_sub m_l_sub
  simp [thn_ok, thn_err, bindM_a, retM_a, seqK_n, seqK_r, seqK_b, seqK_c, seqM_a, setS_a, putM_d, putM_o, putM_s, slotM_a, opdM_a, opdK_d, opdK_s, opdK_o, datM_a, datK_d, datK_s, datK_o, resM_a, resK_d, resK_s, resK_o, retS_a, argsM_n, argsM_c, opsM_n, opsM_c, tupM_a, lstM_a, liftOp_a, app2_s, op2_a, app1_s, op1_a, appN_s, opN_a, iteK_t, iteK_f, ifS_a, ifM_a, optM_a, blM_a, isBl_b, truK_s, truM_a, notM_a, andM_a, orM_a, andK_t, andK_f, andV_a, orK_f, orK_t, orV_a, notK_s, notV_a, cD_a, dropM_a, agsM_n, agsM_v, agsM_r, callG_a, ret2_s, callK_s, callEnd_a, setIx_a, ownM_a, meth_a, nextK_s, asgK_n, asgK_t, asgM_a, parM_a, forS_a, rngM_a, enumM_a, zipK_tt, zipK_ll, zipM_a, srcM_a, slM_a, partM_n, partM_s, itM_a, bodyFn_a, subD_i, mulD_i, fdivD_i, modD_i, powD_i, shrD_i, andD_i, Op.val, Op.toR, S.toR, vals, ssOf, slotsIn, ndp, putBack, pick, lentIs, outs, asgT, asgTs, D.tru, addD, lessD_i, lesseqD_i, moreD_i, moreeqD_i, ixD, lenD, absD, intF, max2D, min2D, gcdD, listF, D.seqT, D.seqL, eqD_int, negD, bitsD, atI, ixN, h]
theorem l_mul_spec (n m : Int) (i j : Nat) (hi : i < 64) (hj : j < 64) (hm : m.natAbs < 2 ^ 64) : f_l_mul.fn [.d (nd n (2 ^ i)), .d (nd m (2 ^ j))] = some (.ok (.d (red (n * m) (2 ^ (i + j)))) [some (.d (nd n (2 ^ i))), some (.d (nd m (2 ^ j)))]) := by
  have h := l_num_spec (n * m) (i + j) (by omega)
  have c1 := fun x => p2C x hi
  have c2 := fun x => p2C x hj
  have c3 : mulC n m = true := mulC_r hm
  unfold nd f_l_mul m_l_mul
  simp [thn_ok, thn_err, bindM_a, retM_a, seqK_n, seqK_r, seqK_b, seqK_c, seqM_a, setS_a, putM_d, putM_o, putM_s, slotM_a, opdM_a, opdK_d, opdK_s, opdK_o, datM_a, datK_d, datK_s, datK_o, resM_a, resK_d, resK_s, resK_o, retS_a, argsM_n, argsM_c, opsM_n, opsM_c, tupM_a, lstM_a, liftOp_a, app2_s, op2_a, app1_s, op1_a, appN_s, opN_a, iteK_t, iteK_f, ifS_a, ifM_a, optM_a, blM_a, isBl_b, truK_s, truM_a, notM_a, andM_a, orM_a, andK_t, andK_f, andV_a, orK_f, orK_t, orV_a, notK_s, notV_a, cD_a, dropM_a, agsM_n, agsM_v, agsM_r, callG_a, ret2_s, callK_s, callEnd_a, setIx_a, ownM_a, meth_a, nextK_s, asgK_n, asgK_t, asgM_a, parM_a, forS_a, rngM_a, enumM_a, zipK_tt, zipK_ll, zipM_a, srcM_a, slM_a, partM_n, partM_s, itM_a, bodyFn_a, subD_i, mulD_i, fdivD_i, modD_i, powD_i, shrD_i, andD_i, Op.val, Op.toR, S.toR, vals, ssOf, slotsIn, ndp, putBack, pick, lentIs, outs, asgT, asgTs, D.tru, addD, lessD_i, lesseqD_i, moreD_i, moreeqD_i, ixD, lenD, absD, intF, max2D, min2D, gcdD, listF, D.seqT, D.seqL, eqD_int, negD, bitsD, atI, ixN, c1, c2, c3, p2m, h]
theorem l_below_spec (n m : Int) (i j : Nat) (hi : i < 64) (hj : j < 64) : f_l_below.fn [.d (nd n (2 ^ i)), .d (nd m (2 ^ j))] = some (.ok (.d (.bl (decide (n * 2 ^ j < m * 2 ^ i)))) [some (.d (nd n (2 ^ i))), some (.d (nd m (2 ^ j)))]) := by
  have c1 := fun x => p2C x hi
  have c2 := fun x => p2C x hj
  unfold nd f_l_below m_l_below
  simp [thn_ok, thn_err, bindM_a, retM_a, seqK_n, seqK_r, seqK_b, seqK_c, seqM_a, setS_a, putM_d, putM_o, putM_s, slotM_a, opdM_a, opdK_d, opdK_s, opdK_o, datM_a, datK_d, datK_s, datK_o, resM_a, resK_d, resK_s, resK_o, retS_a, argsM_n, argsM_c, opsM_n, opsM_c, tupM_a, lstM_a, liftOp_a, app2_s, op2_a, app1_s, op1_a, appN_s, opN_a, iteK_t, iteK_f, ifS_a, ifM_a, optM_a, blM_a, isBl_b, truK_s, truM_a, notM_a, andM_a, orM_a, andK_t, andK_f, andV_a, orK_f, orK_t, orV_a, notK_s, notV_a, cD_a, dropM_a, agsM_n, agsM_v, agsM_r, callG_a, ret2_s, callK_s, callEnd_a, setIx_a, ownM_a, meth_a, nextK_s, asgK_n, asgK_t, asgM_a, parM_a, forS_a, rngM_a, enumM_a, zipK_tt, zipK_ll, zipM_a, srcM_a, slM_a, partM_n, partM_s, itM_a, bodyFn_a, subD_i, mulD_i, fdivD_i, modD_i, powD_i, shrD_i, andD_i, Op.val, Op.toR, S.toR, vals, ssOf, slotsIn, ndp, putBack, pick, lentIs, outs, asgT, asgTs, D.tru, addD, lessD_i, lesseqD_i, moreD_i, moreeqD_i, ixD, lenD, absD, intF, max2D, min2D, gcdD, listF, D.seqT, D.seqL, eqD_int, negD, bitsD, atI, ixN, c1, c2]
theorem is_below_spec (n m : Int) (i j : Nat) (hi : i < 64) (hj : j < 64) : f_is_below.fn [.d (nd n (2 ^ i)), .d (nd m (2 ^ j))] = some (.ok (.d (.bl (decide (n * 2 ^ j < m * 2 ^ i)))) [some (.d (nd n (2 ^ i))), some (.d (nd m (2 ^ j)))]) := by
  have c1 := fun x => p2C x hi
  have c2 := fun x => p2C x hj
  unfold nd f_is_below m_is_below
  simp [thn_ok, thn_err, bindM_a, retM_a, seqK_n, seqK_r, seqK_b, seqK_c, seqM_a, setS_a, putM_d, putM_o, putM_s, slotM_a, opdM_a, opdK_d, opdK_s, opdK_o, datM_a, datK_d, datK_s, datK_o, resM_a, resK_d, resK_s, resK_o, retS_a, argsM_n, argsM_c, opsM_n, opsM_c, tupM_a, lstM_a, liftOp_a, app2_s, op2_a, app1_s, op1_a, appN_s, opN_a, iteK_t, iteK_f, ifS_a, ifM_a, optM_a, blM_a, isBl_b, truK_s, truM_a, notM_a, andM_a, orM_a, andK_t, andK_f, andV_a, orK_f, orK_t, orV_a, notK_s, notV_a, cD_a, dropM_a, agsM_n, agsM_v, agsM_r, callG_a, ret2_s, callK_s, callEnd_a, setIx_a, ownM_a, meth_a, nextK_s, asgK_n, asgK_t, asgM_a, parM_a, forS_a, rngM_a, enumM_a, zipK_tt, zipK_ll, zipM_a, srcM_a, slM_a, partM_n, partM_s, itM_a, bodyFn_a, subD_i, mulD_i, fdivD_i, modD_i, powD_i, shrD_i, andD_i, Op.val, Op.toR, S.toR, vals, ssOf, slotsIn, ndp, putBack, pick, lentIs, outs, asgT, asgTs, D.tru, addD, lessD_i, lesseqD_i, moreD_i, moreeqD_i, ixD, lenD, absD, intF, max2D, min2D, gcdD, listF, D.seqT, D.seqL, eqD_int, negD, bitsD, atI, ixN, c1, c2]
theorem times_of_spec (n m : Int) (i j : Nat) (hi : i < 64) (hj : j < 64) (hm : m.natAbs < 2 ^ 64) : f_times_of.fn [.d (nd n (2 ^ i)), .d (nd m (2 ^ j))] = some (.ok (.d (red (n * m) (2 ^ (i + j)))) [some (.d (nd n (2 ^ i))), some (.d (nd m (2 ^ j)))]) := by
  have h := num_of_spec (n * m) (2 ^ (i + j)) (p2_pos _) (p2_lt (by omega))
  have c1 := fun x => p2C x hi
  have c2 := fun x => p2C x hj
  have c3 : mulC n m = true := mulC_r hm
  unfold nd f_times_of m_times_of
  simp [thn_ok, thn_err, bindM_a, retM_a, seqK_n, seqK_r, seqK_b, seqK_c, seqM_a, setS_a, putM_d, putM_o, putM_s, slotM_a, opdM_a, opdK_d, opdK_s, opdK_o, datM_a, datK_d, datK_s, datK_o, resM_a, resK_d, resK_s, resK_o, retS_a, argsM_n, argsM_c, opsM_n, opsM_c, tupM_a, lstM_a, liftOp_a, app2_s, op2_a, app1_s, op1_a, appN_s, opN_a, iteK_t, iteK_f, ifS_a, ifM_a, optM_a, blM_a, isBl_b, truK_s, truM_a, notM_a, andM_a, orM_a, andK_t, andK_f, andV_a, orK_f, orK_t, orV_a, notK_s, notV_a, cD_a, dropM_a, agsM_n, agsM_v, agsM_r, callG_a, ret2_s, callK_s, callEnd_a, setIx_a, ownM_a, meth_a, nextK_s, asgK_n, asgK_t, asgM_a, parM_a, forS_a, rngM_a, enumM_a, zipK_tt, zipK_ll, zipM_a, srcM_a, slM_a, partM_n, partM_s, itM_a, bodyFn_a, subD_i, mulD_i, fdivD_i, modD_i, powD_i, shrD_i, andD_i, Op.val, Op.toR, S.toR, vals, ssOf, slotsIn, ndp, putBack, pick, lentIs, outs, asgT, asgTs, D.tru, addD, lessD_i, lesseqD_i, moreD_i, moreeqD_i, ixD, lenD, absD, intF, max2D, min2D, gcdD, listF, D.seqT, D.seqL, eqD_int, negD, bitsD, atI, ixN, c1, c2, c3, p2m, h]
theorem sum_eq (n m : Int) (i j P : Nat) (hi : i ≤ P) (hj : j ≤ P) : red (n * 2 ^ (P - i) + m * 2 ^ (P - j)) (2 ^ P) = red (n * 2 ^ j + m * 2 ^ i) (2 ^ (i + j)) := by
  apply red_eq (p2_pos _) (p2_pos _)
  have h1 : (2 : Int) ^ (P - i) * 2 ^ i = 2 ^ P := by rw [p2m]; congr 1; omega
  have h2 : (2 : Int) ^ (P - j) * 2 ^ j = 2 ^ P := by rw [p2m]; congr 1; omega
  rw [← p2m]
  generalize (2 : Int) ^ (P - i) = a at *
  generalize (2 : Int) ^ (P - j) = b at *
  generalize (2 : Int) ^ i = c at *
  generalize (2 : Int) ^ j = d at *
  generalize (2 : Int) ^ P = e at *
  grind
theorem sum_of_spec (n m : Int) (i j : Nat) (hi : i < 64) (hj : j < 64) : f_sum_of.fn [.d (nd n (2 ^ i)), .d (nd m (2 ^ j))] = some (.ok (.d (red (n * 2 ^ j + m * 2 ^ i) (2 ^ (i + j)))) [some (.d (nd n (2 ^ i))), some (.d (nd m (2 ^ j)))]) := by
  obtain ⟨P, hP, h1, h2, h3⟩ : ∃ P : Nat, (if (2 : Int) ^ i < 2 ^ j then (2 : Int) ^ j else 2 ^ i) = 2 ^ P ∧ i ≤ P ∧ j ≤ P ∧ P < 64 := by
    by_cases h : i < j
    · exact ⟨j, by rw [if_pos (p2_lt h)], by omega, by omega, hj⟩
    · refine ⟨i, if_neg (fun z => ?_), by omega, by omega, hi⟩
      rcases Nat.lt_or_eq_of_le (Nat.le_of_not_lt h) with g | g
      · have := p2_lt g; omega
      · rw [g] at z; omega
  have e := num_of_spec (n * 2 ^ (P - i) + m * 2 ^ (P - j)) (2 ^ P) (p2_pos _) (p2_lt (by omega))
  rw [sum_eq n m i j P h1 h2] at e
  have c1 : mulC n (2 ^ (P - i)) = true := p2C n (by omega)
  have c2 : mulC m (2 ^ (P - j)) = true := p2C m (by omega)
  have c3 : fdivC (2 ^ P) (2 ^ i) = true := p2F _ (by omega)
  have c4 : fdivC (2 ^ P) (2 ^ j) = true := p2F _ (by omega)
  have d1 := p2d h1
  have d2 := p2d h2
  unfold nd f_sum_of m_sum_of
  simp [thn_ok, thn_err, bindM_a, retM_a, seqK_n, seqK_r, seqK_b, seqK_c, seqM_a, setS_a, putM_d, putM_o, putM_s, slotM_a, opdM_a, opdK_d, opdK_s, opdK_o, datM_a, datK_d, datK_s, datK_o, resM_a, resK_d, resK_s, resK_o, retS_a, argsM_n, argsM_c, opsM_n, opsM_c, tupM_a, lstM_a, liftOp_a, app2_s, op2_a, app1_s, op1_a, appN_s, opN_a, iteK_t, iteK_f, ifS_a, ifM_a, optM_a, blM_a, isBl_b, truK_s, truM_a, notM_a, andM_a, orM_a, andK_t, andK_f, andV_a, orK_f, orK_t, orV_a, notK_s, notV_a, cD_a, dropM_a, agsM_n, agsM_v, agsM_r, callG_a, ret2_s, callK_s, callEnd_a, setIx_a, ownM_a, meth_a, nextK_s, asgK_n, asgK_t, asgM_a, parM_a, forS_a, rngM_a, enumM_a, zipK_tt, zipK_ll, zipM_a, srcM_a, slM_a, partM_n, partM_s, itM_a, bodyFn_a, subD_i, mulD_i, fdivD_i, modD_i, powD_i, shrD_i, andD_i, Op.val, Op.toR, S.toR, vals, ssOf, slotsIn, ndp, putBack, pick, lentIs, outs, asgT, asgTs, D.tru, addD, lessD_i, lesseqD_i, moreD_i, moreeqD_i, ixD, lenD, absD, intF, max2D, min2D, gcdD, listF, D.seqT, D.seqL, eqD_int, negD, bitsD, atI, ixN, hP, c1, c2, c3, c4, d1, d2, e]
theorem less_of_spec (n m : Int) (i j : Nat) (hi : i < 64) (hj : j < 64) : f_less_of.fn [.d (nd n (2 ^ i)), .d (nd m (2 ^ j))] = some (.ok (.d (red (n * 2 ^ j + -m * 2 ^ i) (2 ^ (i + j)))) [some (.d (nd n (2 ^ i))), some (.d (nd m (2 ^ j)))]) := by
  have h := sum_of_spec n (-m) i j hi hj
  unfold nd at h
  unfold nd f_less_of m_less_of
  simp [thn_ok, thn_err, bindM_a, retM_a, seqK_n, seqK_r, seqK_b, seqK_c, seqM_a, setS_a, putM_d, putM_o, putM_s, slotM_a, opdM_a, opdK_d, opdK_s, opdK_o, datM_a, datK_d, datK_s, datK_o, resM_a, resK_d, resK_s, resK_o, retS_a, argsM_n, argsM_c, opsM_n, opsM_c, tupM_a, lstM_a, liftOp_a, app2_s, op2_a, app1_s, op1_a, appN_s, opN_a, iteK_t, iteK_f, ifS_a, ifM_a, optM_a, blM_a, isBl_b, truK_s, truM_a, notM_a, andM_a, orM_a, andK_t, andK_f, andV_a, orK_f, orK_t, orV_a, notK_s, notV_a, cD_a, dropM_a, agsM_n, agsM_v, agsM_r, callG_a, ret2_s, callK_s, callEnd_a, setIx_a, ownM_a, meth_a, nextK_s, asgK_n, asgK_t, asgM_a, parM_a, forS_a, rngM_a, enumM_a, zipK_tt, zipK_ll, zipM_a, srcM_a, slM_a, partM_n, partM_s, itM_a, bodyFn_a, subD_i, mulD_i, fdivD_i, modD_i, powD_i, shrD_i, andD_i, Op.val, Op.toR, S.toR, vals, ssOf, slotsIn, ndp, putBack, pick, lentIs, outs, asgT, asgTs, D.tru, addD, lessD_i, lesseqD_i, moreD_i, moreeqD_i, ixD, lenD, absD, intF, max2D, min2D, gcdD, listF, D.seqT, D.seqL, eqD_int, negD, bitsD, atI, ixN, h]
theorem size_spec (n : Int) (k : Nat) (hk : k ≤ 100) : f_l_size.fn [.d (nd n (2 ^ k))] = some (.ok (.d (.int k)) [some (.d (nd n (2 ^ k)))]) := by
  obtain ⟨δ', e, x, rfl⟩ := forM0 (T := .nm 1) (body := seqM (ifS (blM (op2 moreD (slotM 2) (cD (.int 1)))) (seqM (parM [2, 3] [(op2 fdivD (slotM 2) (cD (.int 2))), (op2 addD (slotM 3) (cD (.int 1)))]) (retM .next)) (retM .next)) (retM .next))
    (fun i δ => ∃ x : Option S, δ = [some (.d (nd n (2 ^ k))), x, some (.d (.int (2 ^ (k - i)))), some (.d (.int (min i k : Nat)))]) (rngD 0 100) [some (.d (nd n (2 ^ k))), none, some (.d (.int (2 ^ k))), some (.d (.int 0))] ⟨none, by simp⟩ (by
    rintro i d δ hd ⟨x, rfl⟩
    have c : fdivC (2 ^ (k - i)) 2 = true := fdivC_of (by decide) (by decide)
    by_cases h : i < k
    · have h1 : (1 : Int) < 2 ^ (k - i) := p2_lt (k := 0) (by omega)
      have h2 : (2 : Int) ^ (k - i) / 2 = 2 ^ (k - (i + 1)) := by
        have := p2d (i := 1) (j := k - i) (by omega)
        rw [show k - i - 1 = k - (i + 1) by omega] at this
        exact this
      have h3 : ((min i k : Nat) : Int) + 1 = (min (i + 1) k : Nat) := by omega
      refine ⟨_, ?_, some (.d d), rfl⟩
      rw [← h3, ← h2]
      clear h2 h3
      generalize (2 : Int) ^ (k - i) = p at *
      generalize ((min i k : Nat) : Int) = u at *
      simp [thn_ok, thn_err, bindM_a, retM_a, seqK_n, seqK_r, seqK_b, seqK_c, seqM_a, setS_a, putM_d, putM_o, putM_s, slotM_a, opdM_a, opdK_d, opdK_s, opdK_o, datM_a, datK_d, datK_s, datK_o, resM_a, resK_d, resK_s, resK_o, retS_a, argsM_n, argsM_c, opsM_n, opsM_c, tupM_a, lstM_a, liftOp_a, app2_s, op2_a, app1_s, op1_a, appN_s, opN_a, iteK_t, iteK_f, ifS_a, ifM_a, optM_a, blM_a, isBl_b, truK_s, truM_a, notM_a, andM_a, orM_a, andK_t, andK_f, andV_a, orK_f, orK_t, orV_a, notK_s, notV_a, cD_a, dropM_a, agsM_n, agsM_v, agsM_r, callG_a, ret2_s, callK_s, callEnd_a, setIx_a, ownM_a, meth_a, nextK_s, asgK_n, asgK_t, asgM_a, parM_a, forS_a, rngM_a, enumM_a, zipK_tt, zipK_ll, zipM_a, srcM_a, slM_a, partM_n, partM_s, itM_a, bodyFn_a, subD_i, mulD_i, fdivD_i, modD_i, powD_i, shrD_i, andD_i, Op.val, Op.toR, S.toR, vals, ssOf, slotsIn, ndp, putBack, pick, lentIs, outs, asgT, asgTs, D.tru, addD, lessD_i, lesseqD_i, moreD_i, moreeqD_i, ixD, lenD, absD, intF, max2D, min2D, gcdD, listF, D.seqT, D.seqL, eqD_int, negD, bitsD, atI, ixN, c, h1]
    · have h1 : k - i = 0 := by omega
      have h2 : min (i + 1) k = min i k := by omega
      refine ⟨_, ?_, some (.d d), rfl⟩
      rw [h1, show k - (i + 1) = 0 by omega, h2]
      generalize ((min i k : Nat) : Int) = u at *
      simp [thn_ok, thn_err, bindM_a, retM_a, seqK_n, seqK_r, seqK_b, seqK_c, seqM_a, setS_a, putM_d, putM_o, putM_s, slotM_a, opdM_a, opdK_d, opdK_s, opdK_o, datM_a, datK_d, datK_s, datK_o, resM_a, resK_d, resK_s, resK_o, retS_a, argsM_n, argsM_c, opsM_n, opsM_c, tupM_a, lstM_a, liftOp_a, app2_s, op2_a, app1_s, op1_a, appN_s, opN_a, iteK_t, iteK_f, ifS_a, ifM_a, optM_a, blM_a, isBl_b, truK_s, truM_a, notM_a, andM_a, orM_a, andK_t, andK_f, andV_a, orK_f, orK_t, orV_a, notK_s, notV_a, cD_a, dropM_a, agsM_n, agsM_v, agsM_r, callG_a, ret2_s, callK_s, callEnd_a, setIx_a, ownM_a, meth_a, nextK_s, asgK_n, asgK_t, asgM_a, parM_a, forS_a, rngM_a, enumM_a, zipK_tt, zipK_ll, zipM_a, srcM_a, slM_a, partM_n, partM_s, itM_a, bodyFn_a, subD_i, mulD_i, fdivD_i, modD_i, powD_i, shrD_i, andD_i, Op.val, Op.toR, S.toR, vals, ssOf, slotsIn, ndp, putBack, pick, lentIs, outs, asgT, asgTs, D.tru, addD, lessD_i, lesseqD_i, moreD_i, moreeqD_i, ixD, lenD, absD, intF, max2D, min2D, gcdD, listF, D.seqT, D.seqL, eqD_int, negD, bitsD, atI, ixN])
  rw [rngD_len, show k - 100 = 0 by omega, show min 100 k = k by omega] at e
  have hr := fun δ => rngK_n δ 100 100 rfl (by decide)
  unfold f_l_size m_l_size nd at *
  simp [thn_ok, thn_err, bindM_a, retM_a, seqK_n, seqK_r, seqK_b, seqK_c, seqM_a, setS_a, putM_d, putM_o, putM_s, slotM_a, opdM_a, opdK_d, opdK_s, opdK_o, datM_a, datK_d, datK_s, datK_o, resM_a, resK_d, resK_s, resK_o, retS_a, argsM_n, argsM_c, opsM_n, opsM_c, tupM_a, lstM_a, liftOp_a, app2_s, op2_a, app1_s, op1_a, appN_s, opN_a, iteK_t, iteK_f, ifS_a, ifM_a, optM_a, blM_a, isBl_b, truK_s, truM_a, notM_a, andM_a, orM_a, andK_t, andK_f, andV_a, orK_f, orK_t, orV_a, notK_s, notV_a, cD_a, dropM_a, agsM_n, agsM_v, agsM_r, callG_a, ret2_s, callK_s, callEnd_a, setIx_a, ownM_a, meth_a, nextK_s, asgK_n, asgK_t, asgM_a, parM_a, forS_a, rngM_a, enumM_a, zipK_tt, zipK_ll, zipM_a, srcM_a, slM_a, partM_n, partM_s, itM_a, bodyFn_a, subD_i, mulD_i, fdivD_i, modD_i, powD_i, shrD_i, andD_i, Op.val, Op.toR, S.toR, vals, ssOf, slotsIn, ndp, putBack, pick, lentIs, outs, asgT, asgTs, D.tru, addD, lessD_i, lesseqD_i, moreD_i, moreeqD_i, ixD, lenD, absD, intF, max2D, min2D, gcdD, listF, D.seqT, D.seqL, eqD_int, negD, bitsD, atI, ixN, hr, e]
end Ev

set_option Elab.async false
set_option linter.all false
set_option maxRecDepth 100000
namespace Ev
open PySem PySem.Spec PyProof.Rows L2
theorem bits_p2 (k : Nat) : Builtin.Int.intBits (2 ^ k) = k + 1 := by
  unfold Builtin.Int.intBits
  have h : ((2 : Int) ^ k == 0) = false := by have := p2_pos k; simp; omega
  rw [h, p2_abs, Nat.log2_two_pow]; rfl
theorem figures_of_spec (n : Int) (k : Nat) : f_figures_of.fn [.d (nd n (2 ^ k))] = some (.ok (.d (.int k)) [some (.d (nd n (2 ^ k)))]) := by
  have h := bits_p2 k
  unfold nd f_figures_of m_figures_of
  simp [thn_ok, thn_err, bindM_a, retM_a, seqK_n, seqK_r, seqK_b, seqK_c, seqM_a, setS_a, putM_d, putM_o, putM_s, slotM_a, opdM_a, opdK_d, opdK_s, opdK_o, datM_a, datK_d, datK_s, datK_o, resM_a, resK_d, resK_s, resK_o, retS_a, argsM_n, argsM_c, opsM_n, opsM_c, tupM_a, lstM_a, liftOp_a, app2_s, op2_a, app1_s, op1_a, appN_s, opN_a, iteK_t, iteK_f, ifS_a, ifM_a, optM_a, blM_a, isBl_b, truK_s, truM_a, notM_a, andM_a, orM_a, andK_t, andK_f, andV_a, orK_f, orK_t, orV_a, notK_s, notV_a, cD_a, dropM_a, agsM_n, agsM_v, agsM_r, callG_a, ret2_s, callK_s, callEnd_a, setIx_a, ownM_a, meth_a, nextK_s, asgK_n, asgK_t, asgM_a, parM_a, forS_a, rngM_a, enumM_a, zipK_tt, zipK_ll, zipM_a, srcM_a, slM_a, partM_n, partM_s, itM_a, bodyFn_a, subD_i, mulD_i, fdivD_i, modD_i, powD_i, shrD_i, andD_i, Op.val, Op.toR, S.toR, vals, ssOf, slotsIn, ndp, putBack, pick, lentIs, outs, asgT, asgTs, D.tru, addD, lessD_i, lesseqD_i, moreD_i, moreeqD_i, ixD, lenD, absD, intF, max2D, min2D, gcdD, listF, D.seqT, D.seqL, eqD_int, negD, bitsD, atI, ixN, h, show ((k : Int) + 1 - 1) = k by omega]
/-- what a cut comes to -/
def cutv (n : Int) (k f : Nat) : D := red (n * 2 ^ f / 2 ^ k) (2 ^ f)
theorem cut_of_spec (n : Int) (k f : Nat) (hk : k < 200) (hf : f < 200) (hl : Low n (2 ^ k)) : f_cut_of.fn [.d (nd n (2 ^ k)), .d (.int f)] = some (.ok (.d (cutv n k f)) [some (.d (nd n (2 ^ k))), some (.d (.int f))]) := by
  have hfig := figures_of_spec n k
  by_cases h : k ≤ f
  · have e : cutv n k f = nd n (2 ^ k) := by
      unfold cutv
      rw [← hl.2]
      have : (2 : Int) ^ f = 2 ^ (f - k) * 2 ^ k := by rw [p2m]; congr 1; omega
      rw [this, ← Int.mul_assoc, Int.mul_ediv_cancel _ (by have := p2_pos k; omega)]
      apply red_eq
      · rw [← this]; exact p2_pos f
      · exact p2_pos k
      · rw [Int.mul_assoc]
    rw [e]
    have h1 : (k : Int) - f ≤ 0 := by omega
    unfold nd at *
    unfold f_cut_of m_cut_of
    simp [thn_ok, thn_err, bindM_a, retM_a, seqK_n, seqK_r, seqK_b, seqK_c, seqM_a, setS_a, putM_d, putM_o, putM_s, slotM_a, opdM_a, opdK_d, opdK_s, opdK_o, datM_a, datK_d, datK_s, datK_o, resM_a, resK_d, resK_s, resK_o, retS_a, argsM_n, argsM_c, opsM_n, opsM_c, tupM_a, lstM_a, liftOp_a, app2_s, op2_a, app1_s, op1_a, appN_s, opN_a, iteK_t, iteK_f, ifS_a, ifM_a, optM_a, blM_a, isBl_b, truK_s, truM_a, notM_a, andM_a, orM_a, andK_t, andK_f, andV_a, orK_f, orK_t, orV_a, notK_s, notV_a, cD_a, dropM_a, agsM_n, agsM_v, agsM_r, callG_a, ret2_s, callK_s, callEnd_a, setIx_a, ownM_a, meth_a, nextK_s, asgK_n, asgK_t, asgM_a, parM_a, forS_a, rngM_a, enumM_a, zipK_tt, zipK_ll, zipM_a, srcM_a, slM_a, partM_n, partM_s, itM_a, bodyFn_a, subD_i, mulD_i, fdivD_i, modD_i, powD_i, shrD_i, andD_i, Op.val, Op.toR, S.toR, vals, ssOf, slotsIn, ndp, putBack, pick, lentIs, outs, asgT, asgTs, D.tru, addD, lessD_i, lesseqD_i, moreD_i, moreeqD_i, ixD, lenD, absD, intF, max2D, min2D, gcdD, listF, D.seqT, D.seqL, eqD_int, negD, bitsD, atI, ixN, hfig, h1, h]
  · have e1 : n * 2 ^ f / 2 ^ k = n / 2 ^ (k - f) := by
      have : (2 : Int) ^ k = 2 ^ (k - f) * 2 ^ f := by rw [p2m]; congr 1; omega
      rw [this, Int.mul_ediv_mul_of_pos_left _ _ (p2_pos f)]
    have e2 := num_of_spec (n / 2 ^ (k - f)) (2 ^ f) (p2_pos f) (p2_lt hf)
    have h1 : ¬ (k : Int) - f ≤ 0 := by omega
    have h2 : 0 ≤ (k : Int) - f := by omega
    have h3 : ((k : Int) - f).toNat = k - f := by omega
    have h4 := p2d (show k - f ≤ k by omega)
    rw [show k - (k - f) = f by omega] at h4
    unfold cutv
    rw [e1]
    unfold nd at *
    unfold f_cut_of m_cut_of
    have h5 : f ≤ k := by omega
    simp [thn_ok, thn_err, bindM_a, retM_a, seqK_n, seqK_r, seqK_b, seqK_c, seqM_a, setS_a, putM_d, putM_o, putM_s, slotM_a, opdM_a, opdK_d, opdK_s, opdK_o, datM_a, datK_d, datK_s, datK_o, resM_a, resK_d, resK_s, resK_o, retS_a, argsM_n, argsM_c, opsM_n, opsM_c, tupM_a, lstM_a, liftOp_a, app2_s, op2_a, app1_s, op1_a, appN_s, opN_a, iteK_t, iteK_f, ifS_a, ifM_a, optM_a, blM_a, isBl_b, truK_s, truM_a, notM_a, andM_a, orM_a, andK_t, andK_f, andV_a, orK_f, orK_t, orV_a, notK_s, notV_a, cD_a, dropM_a, agsM_n, agsM_v, agsM_r, callG_a, ret2_s, callK_s, callEnd_a, setIx_a, ownM_a, meth_a, nextK_s, asgK_n, asgK_t, asgM_a, parM_a, forS_a, rngM_a, enumM_a, zipK_tt, zipK_ll, zipM_a, srcM_a, slM_a, partM_n, partM_s, itM_a, bodyFn_a, subD_i, mulD_i, fdivD_i, modD_i, powD_i, shrD_i, andD_i, Op.val, Op.toR, S.toR, vals, ssOf, slotsIn, ndp, putBack, pick, lentIs, outs, asgT, asgTs, D.tru, addD, lessD_i, lesseqD_i, moreD_i, moreeqD_i, ixD, lenD, absD, intF, max2D, min2D, gcdD, listF, D.seqT, D.seqL, eqD_int, negD, bitsD, atI, ixN, hfig, h1, h2, h3, h4, h5, e2, h]
theorem floor_loop (n : Int) (k f : Nat) : ∃ x : Option S, forM (.nm 3) (seqM (setS 2 (op2 mulD (slotM 2) (cD (.int 2)))) (retM .next)) (rngD 0 f) [some (.d (nd n (2 ^ k))), some (.d (.int f)), some (.d (.int 1)), none] = some (.ok .next [some (.d (nd n (2 ^ k))), some (.d (.int f)), some (.d (.int (2 ^ f))), x]) := by
  obtain ⟨δ', e, x, rfl⟩ := forM0 (T := .nm 3) (body := seqM (setS 2 (op2 mulD (slotM 2) (cD (.int 2)))) (retM .next)) (fun i δ => ∃ x, δ = [some (.d (nd n (2 ^ k))), some (.d (.int f)), some (.d (.int (2 ^ i))), x]) (rngD 0 f) [some (.d (nd n (2 ^ k))), some (.d (.int f)), some (.d (.int 1)), none] ⟨none, rfl⟩ (by
    rintro i d δ hd ⟨x, rfl⟩
    have hm : mulC (2 ^ i) 2 = true := mulC_r (by decide)
    refine ⟨_, ?_, some (.d d), rfl⟩
    simp [thn_ok, thn_err, bindM_a, retM_a, seqK_n, seqK_r, seqK_b, seqK_c, seqM_a, setS_a, putM_d, putM_o, putM_s, slotM_a, opdM_a, opdK_d, opdK_s, opdK_o, datM_a, datK_d, datK_s, datK_o, resM_a, resK_d, resK_s, resK_o, retS_a, argsM_n, argsM_c, opsM_n, opsM_c, tupM_a, lstM_a, liftOp_a, app2_s, op2_a, app1_s, op1_a, appN_s, opN_a, iteK_t, iteK_f, ifS_a, ifM_a, optM_a, blM_a, isBl_b, truK_s, truM_a, notM_a, andM_a, orM_a, andK_t, andK_f, andV_a, orK_f, orK_t, orV_a, notK_s, notV_a, cD_a, dropM_a, agsM_n, agsM_v, agsM_r, callG_a, ret2_s, callK_s, callEnd_a, setIx_a, ownM_a, meth_a, nextK_s, asgK_n, asgK_t, asgM_a, parM_a, forS_a, rngM_a, enumM_a, zipK_tt, zipK_ll, zipM_a, srcM_a, slM_a, partM_n, partM_s, itM_a, bodyFn_a, subD_i, mulD_i, fdivD_i, modD_i, powD_i, shrD_i, andD_i, Op.val, Op.toR, S.toR, vals, ssOf, slotsIn, ndp, putBack, pick, lentIs, outs, asgT, asgTs, D.tru, addD, lessD_i, lesseqD_i, moreD_i, moreeqD_i, ixD, lenD, absD, intF, max2D, min2D, gcdD, listF, D.seqT, D.seqL, eqD_int, negD, bitsD, atI, ixN, hm, Int.pow_succ])
  rw [rngD_len] at e
  exact ⟨x, e⟩
theorem floor_spec (n : Int) (k f : Nat) (hk : k < 200) (hf : f < 64) : f_l_floor.fn [.d (nd n (2 ^ k)), .d (.int f)] = some (.ok (.d (cutv n k f)) [some (.d (nd n (2 ^ k))), some (.d (.int f))]) := by
  obtain ⟨x, e⟩ := floor_loop n k f
  have h := l_num_spec (n * 2 ^ f / 2 ^ k) f (by omega)
  have hr := fun δ => rngK_n δ (f : Int) f rfl (by omega)
  have c1 := p2C n hf
  have c2 := p2F (n * 2 ^ f) hk
  unfold nd at *
  unfold f_l_floor m_l_floor cutv
  simp [thn_ok, thn_err, bindM_a, retM_a, seqK_n, seqK_r, seqK_b, seqK_c, seqM_a, setS_a, putM_d, putM_o, putM_s, slotM_a, opdM_a, opdK_d, opdK_s, opdK_o, datM_a, datK_d, datK_s, datK_o, resM_a, resK_d, resK_s, resK_o, retS_a, argsM_n, argsM_c, opsM_n, opsM_c, tupM_a, lstM_a, liftOp_a, app2_s, op2_a, app1_s, op1_a, appN_s, opN_a, iteK_t, iteK_f, ifS_a, ifM_a, optM_a, blM_a, isBl_b, truK_s, truM_a, notM_a, andM_a, orM_a, andK_t, andK_f, andV_a, orK_f, orK_t, orV_a, notK_s, notV_a, cD_a, dropM_a, agsM_n, agsM_v, agsM_r, callG_a, ret2_s, callK_s, callEnd_a, setIx_a, ownM_a, meth_a, nextK_s, asgK_n, asgK_t, asgM_a, parM_a, forS_a, rngM_a, enumM_a, zipK_tt, zipK_ll, zipM_a, srcM_a, slM_a, partM_n, partM_s, itM_a, bodyFn_a, subD_i, mulD_i, fdivD_i, modD_i, powD_i, shrD_i, andD_i, Op.val, Op.toR, S.toR, vals, ssOf, slotsIn, ndp, putBack, pick, lentIs, outs, asgT, asgTs, D.tru, addD, lessD_i, lesseqD_i, moreD_i, moreeqD_i, ixD, lenD, absD, intF, max2D, min2D, gcdD, listF, D.seqT, D.seqL, eqD_int, negD, bitsD, atI, ixN, hr, e, c1, c2, h]
/-! ### the same is the same -/
def SameAt (n : Nat) (d : D) : Prop := fn_l_same n [.d d, .d d] = some (.ok (.d (.bl true)) [some (.d d), some (.d d)])
theorem same_int (n : Nat) (i : Int) : SameAt (n + 1) (.int i) := by
  unfold SameAt fn_l_same m_l_same
  simp [thn_ok, thn_err, bindM_a, retM_a, seqK_n, seqK_r, seqK_b, seqK_c, seqM_a, setS_a, putM_d, putM_o, putM_s, slotM_a, opdM_a, opdK_d, opdK_s, opdK_o, datM_a, datK_d, datK_s, datK_o, resM_a, resK_d, resK_s, resK_o, retS_a, argsM_n, argsM_c, opsM_n, opsM_c, tupM_a, lstM_a, liftOp_a, app2_s, op2_a, app1_s, op1_a, appN_s, opN_a, iteK_t, iteK_f, ifS_a, ifM_a, optM_a, blM_a, isBl_b, truK_s, truM_a, notM_a, andM_a, orM_a, andK_t, andK_f, andV_a, orK_f, orK_t, orV_a, notK_s, notV_a, cD_a, dropM_a, agsM_n, agsM_v, agsM_r, callG_a, ret2_s, callK_s, callEnd_a, setIx_a, ownM_a, meth_a, nextK_s, asgK_n, asgK_t, asgM_a, parM_a, forS_a, rngM_a, enumM_a, zipK_tt, zipK_ll, zipM_a, srcM_a, slM_a, partM_n, partM_s, itM_a, bodyFn_a, subD_i, mulD_i, fdivD_i, modD_i, powD_i, shrD_i, andD_i, Op.val, Op.toR, S.toR, vals, ssOf, slotsIn, ndp, putBack, pick, lentIs, outs, asgT, asgTs, D.tru, addD, lessD_i, lesseqD_i, moreD_i, moreeqD_i, ixD, lenD, absD, intF, max2D, min2D, gcdD, listF, D.seqT, D.seqL, eqD_int, negD, bitsD, atI, ixN, isi_non_dict, isi_non_list, isi_non_tuple, isi_non_bool, isi_non_str, isi_non_int, isi_non_lt, is_non_non, isi_int_dict, isi_int_list, isi_int_tuple, isi_int_bool, isi_int_str, isi_int_int, isi_int_lt, is_int_non, isi_bl_dict, isi_bl_list, isi_bl_tuple, isi_bl_bool, isi_bl_str, isi_bl_int, isi_bl_lt, is_bl_non, isi_str_dict, isi_str_list, isi_str_tuple, isi_str_bool, isi_str_str, isi_str_int, isi_str_lt, is_str_non, isi_tup_dict, isi_tup_list, isi_tup_tuple, isi_tup_bool, isi_tup_str, isi_tup_int, isi_tup_lt, is_tup_non, isi_lst_dict, isi_lst_list, isi_lst_tuple, isi_lst_bool, isi_lst_str, isi_lst_int, isi_lst_lt, is_lst_non, isi_scr_dict, isi_scr_list, isi_scr_tuple, isi_scr_bool, isi_scr_str, isi_scr_int, isi_scr_lt, is_scr_non, eqD_bl, neD_bl, eqD_int]
theorem same_bl (n : Nat) (i : Bool) : SameAt (n + 1) (.bl i) := by
  unfold SameAt fn_l_same m_l_same
  simp [thn_ok, thn_err, bindM_a, retM_a, seqK_n, seqK_r, seqK_b, seqK_c, seqM_a, setS_a, putM_d, putM_o, putM_s, slotM_a, opdM_a, opdK_d, opdK_s, opdK_o, datM_a, datK_d, datK_s, datK_o, resM_a, resK_d, resK_s, resK_o, retS_a, argsM_n, argsM_c, opsM_n, opsM_c, tupM_a, lstM_a, liftOp_a, app2_s, op2_a, app1_s, op1_a, appN_s, opN_a, iteK_t, iteK_f, ifS_a, ifM_a, optM_a, blM_a, isBl_b, truK_s, truM_a, notM_a, andM_a, orM_a, andK_t, andK_f, andV_a, orK_f, orK_t, orV_a, notK_s, notV_a, cD_a, dropM_a, agsM_n, agsM_v, agsM_r, callG_a, ret2_s, callK_s, callEnd_a, setIx_a, ownM_a, meth_a, nextK_s, asgK_n, asgK_t, asgM_a, parM_a, forS_a, rngM_a, enumM_a, zipK_tt, zipK_ll, zipM_a, srcM_a, slM_a, partM_n, partM_s, itM_a, bodyFn_a, subD_i, mulD_i, fdivD_i, modD_i, powD_i, shrD_i, andD_i, Op.val, Op.toR, S.toR, vals, ssOf, slotsIn, ndp, putBack, pick, lentIs, outs, asgT, asgTs, D.tru, addD, lessD_i, lesseqD_i, moreD_i, moreeqD_i, ixD, lenD, absD, intF, max2D, min2D, gcdD, listF, D.seqT, D.seqL, eqD_int, negD, bitsD, atI, ixN, isi_non_dict, isi_non_list, isi_non_tuple, isi_non_bool, isi_non_str, isi_non_int, isi_non_lt, is_non_non, isi_int_dict, isi_int_list, isi_int_tuple, isi_int_bool, isi_int_str, isi_int_int, isi_int_lt, is_int_non, isi_bl_dict, isi_bl_list, isi_bl_tuple, isi_bl_bool, isi_bl_str, isi_bl_int, isi_bl_lt, is_bl_non, isi_str_dict, isi_str_list, isi_str_tuple, isi_str_bool, isi_str_str, isi_str_int, isi_str_lt, is_str_non, isi_tup_dict, isi_tup_list, isi_tup_tuple, isi_tup_bool, isi_tup_str, isi_tup_int, isi_tup_lt, is_tup_non, isi_lst_dict, isi_lst_list, isi_lst_tuple, isi_lst_bool, isi_lst_str, isi_lst_int, isi_lst_lt, is_lst_non, isi_scr_dict, isi_scr_list, isi_scr_tuple, isi_scr_bool, isi_scr_str, isi_scr_int, isi_scr_lt, is_scr_non, eqD_bl, neD_bl, eqD_int]
theorem zipD_at {ds : List D} {i : Nat} {d : D} (h : (zipD ds ds)[i]? = some d) : ∃ e, ds[i]? = some e ∧ d = .tup [e, e] := by
  simp only [zipD, List.getElem?_zipWith] at h
  cases e1 : ds[i]? with
  | none => rw [e1] at h; simp at h
  | some d1 => rw [e1] at h; simp at h; exact ⟨d1, rfl, h.symm⟩
theorem zipD_len (ds : List D) : (zipD ds ds).length = ds.length := by simp [zipD]
theorem bls_rep (n : Nat) : bls (List.replicate n (.bl true)) = some (List.replicate n true) := by
  induction n with
  | zero => rfl
  | succ n ih => rw [List.replicate_succ, List.replicate_succ]; simp [bls, ih]
theorem all_rep (n : Nat) : (List.replicate n true).all id = true := by
  induction n with
  | zero => rfl
  | succ n ih => rw [List.replicate_succ]; simp
theorem same_comp {n : Nat} {ds : List D} {d : D} {src : M (List D)} (hs : ∀ δ, src δ = some (.ok (zipD ds ds) δ) ∨ δ ≠ [some (.d d), some (.d d), none, none, none]) (hl : ds.length ≤ sizeLine) (h : ∀ d ∈ ds, SameAt n d) :
    compM [3, 4] (.tup [.nm 3, .nm 4]) src (retM true) (datM (callG (fn_l_same n) [0, 1] [] [.val (slotM 3), .val (slotM 4)] [])) [some (.d d), some (.d d), none, none, none] = some (.ok (.own (List.replicate ds.length (.bl true))) [some (.d d), some (.d d), none, none, none]) := by
  have hs' : src [some (.d d), some (.d d), none, none, none] = some (.ok (zipD ds ds) [some (.d d), some (.d d), none, none, none]) := (hs _).resolve_right (fun z => z rfl)
  obtain ⟨out, δe, e, l, rfl, rfl⟩ := compM_inv (vs := [3, 4]) (T := .tup [.nm 3, .nm 4]) (te := datM (callG (fn_l_same n) [0, 1] [] [.val (slotM 3), .val (slotM 4)] [])) hs' (by simp [noOwn]) (fun i acc δ => acc = List.replicate i (.bl true) ∧ δ = [some (.d d), some (.d d), none, none, none]) ⟨rfl, by simp [wipeD]⟩ (by rw [zipD_len]; exact hl) (by
    rintro i x acc δ hx ⟨rfl, rfl⟩
    obtain ⟨y, hy, rfl⟩ := zipD_at hx
    have hh := h y (List.mem_of_getElem? hy)
    unfold SameAt at hh
    refine ⟨.bl true, [some (.d d), some (.d d), none, some (.d y), some (.d y)], ?_, ?_⟩
    · simp [thn_ok, thn_err, bindM_a, retM_a, seqK_n, seqK_r, seqK_b, seqK_c, seqM_a, setS_a, putM_d, putM_o, putM_s, slotM_a, opdM_a, opdK_d, opdK_s, opdK_o, datM_a, datK_d, datK_s, datK_o, resM_a, resK_d, resK_s, resK_o, retS_a, argsM_n, argsM_c, opsM_n, opsM_c, tupM_a, lstM_a, liftOp_a, app2_s, op2_a, app1_s, op1_a, appN_s, opN_a, iteK_t, iteK_f, ifS_a, ifM_a, optM_a, blM_a, isBl_b, truK_s, truM_a, notM_a, andM_a, orM_a, andK_t, andK_f, andV_a, orK_f, orK_t, orV_a, notK_s, notV_a, cD_a, dropM_a, agsM_n, agsM_v, agsM_r, callG_a, ret2_s, callK_s, callEnd_a, setIx_a, ownM_a, meth_a, nextK_s, asgK_n, asgK_t, asgM_a, parM_a, forS_a, rngM_a, enumM_a, zipK_tt, zipK_ll, zipM_a, srcM_a, slM_a, partM_n, partM_s, itM_a, bodyFn_a, subD_i, mulD_i, fdivD_i, modD_i, powD_i, shrD_i, andD_i, Op.val, Op.toR, S.toR, vals, ssOf, slotsIn, ndp, putBack, pick, lentIs, outs, asgT, asgTs, D.tru, addD, lessD_i, lesseqD_i, moreD_i, moreeqD_i, ixD, lenD, absD, intF, max2D, min2D, gcdD, listF, D.seqT, D.seqL, eqD_int, negD, bitsD, atI, ixN, hh]
    · refine ⟨by rw [List.replicate_succ'], by simp [wipeD]⟩)
  rw [e, zipD_len]
  simp [backD]
theorem same_tup {n : Nat} {ds : List D} (hl : ds.length ≤ sizeLine) (h : ∀ d ∈ ds, SameAt n d) : SameAt (n + 1) (.tup ds) := by
  have hc := same_comp (d := .tup ds) (src := zipM (slotM 0) (slotM 1)) (fun δ => by
    by_cases z : δ = [some (.d (.tup ds)), some (.d (.tup ds)), none, none, none]
    · subst z; left; simp [thn_ok, thn_err, bindM_a, retM_a, seqK_n, seqK_r, seqK_b, seqK_c, seqM_a, setS_a, putM_d, putM_o, putM_s, slotM_a, opdM_a, opdK_d, opdK_s, opdK_o, datM_a, datK_d, datK_s, datK_o, resM_a, resK_d, resK_s, resK_o, retS_a, argsM_n, argsM_c, opsM_n, opsM_c, tupM_a, lstM_a, liftOp_a, app2_s, op2_a, app1_s, op1_a, appN_s, opN_a, iteK_t, iteK_f, ifS_a, ifM_a, optM_a, blM_a, isBl_b, truK_s, truM_a, notM_a, andM_a, orM_a, andK_t, andK_f, andV_a, orK_f, orK_t, orV_a, notK_s, notV_a, cD_a, dropM_a, agsM_n, agsM_v, agsM_r, callG_a, ret2_s, callK_s, callEnd_a, setIx_a, ownM_a, meth_a, nextK_s, asgK_n, asgK_t, asgM_a, parM_a, forS_a, rngM_a, enumM_a, zipK_tt, zipK_ll, zipM_a, srcM_a, slM_a, partM_n, partM_s, itM_a, bodyFn_a, subD_i, mulD_i, fdivD_i, modD_i, powD_i, shrD_i, andD_i, Op.val, Op.toR, S.toR, vals, ssOf, slotsIn, ndp, putBack, pick, lentIs, outs, asgT, asgTs, D.tru, addD, lessD_i, lesseqD_i, moreD_i, moreeqD_i, ixD, lenD, absD, intF, max2D, min2D, gcdD, listF, D.seqT, D.seqL, eqD_int, negD, bitsD, atI, ixN]
    · exact .inr z) hl h
  unfold SameAt fn_l_same m_l_same
  simp [thn_ok, thn_err, bindM_a, retM_a, seqK_n, seqK_r, seqK_b, seqK_c, seqM_a, setS_a, putM_d, putM_o, putM_s, slotM_a, opdM_a, opdK_d, opdK_s, opdK_o, datM_a, datK_d, datK_s, datK_o, resM_a, resK_d, resK_s, resK_o, retS_a, argsM_n, argsM_c, opsM_n, opsM_c, tupM_a, lstM_a, liftOp_a, app2_s, op2_a, app1_s, op1_a, appN_s, opN_a, iteK_t, iteK_f, ifS_a, ifM_a, optM_a, blM_a, isBl_b, truK_s, truM_a, notM_a, andM_a, orM_a, andK_t, andK_f, andV_a, orK_f, orK_t, orV_a, notK_s, notV_a, cD_a, dropM_a, agsM_n, agsM_v, agsM_r, callG_a, ret2_s, callK_s, callEnd_a, setIx_a, ownM_a, meth_a, nextK_s, asgK_n, asgK_t, asgM_a, parM_a, forS_a, rngM_a, enumM_a, zipK_tt, zipK_ll, zipM_a, srcM_a, slM_a, partM_n, partM_s, itM_a, bodyFn_a, subD_i, mulD_i, fdivD_i, modD_i, powD_i, shrD_i, andD_i, Op.val, Op.toR, S.toR, vals, ssOf, slotsIn, ndp, putBack, pick, lentIs, outs, asgT, asgTs, D.tru, addD, lessD_i, lesseqD_i, moreD_i, moreeqD_i, ixD, lenD, absD, intF, max2D, min2D, gcdD, listF, D.seqT, D.seqL, eqD_int, negD, bitsD, atI, ixN, isi_non_dict, isi_non_list, isi_non_tuple, isi_non_bool, isi_non_str, isi_non_int, isi_non_lt, is_non_non, isi_int_dict, isi_int_list, isi_int_tuple, isi_int_bool, isi_int_str, isi_int_int, isi_int_lt, is_int_non, isi_bl_dict, isi_bl_list, isi_bl_tuple, isi_bl_bool, isi_bl_str, isi_bl_int, isi_bl_lt, is_bl_non, isi_str_dict, isi_str_list, isi_str_tuple, isi_str_bool, isi_str_str, isi_str_int, isi_str_lt, is_str_non, isi_tup_dict, isi_tup_list, isi_tup_tuple, isi_tup_bool, isi_tup_str, isi_tup_int, isi_tup_lt, is_tup_non, isi_lst_dict, isi_lst_list, isi_lst_tuple, isi_lst_bool, isi_lst_str, isi_lst_int, isi_lst_lt, is_lst_non, isi_scr_dict, isi_scr_list, isi_scr_tuple, isi_scr_bool, isi_scr_str, isi_scr_int, isi_scr_lt, is_scr_non, eqD_bl, neD_bl, eqD_int, hc, boolsD, bls_rep, all_rep]
theorem same_lst {n : Nat} {ds : List D} (hl : ds.length ≤ sizeLine) (h : ∀ d ∈ ds, SameAt n d) : SameAt (n + 1) (.lst ds) := by
  have hc := same_comp (d := .lst ds) (src := zipM (slotM 0) (slotM 1)) (fun δ => by
    by_cases z : δ = [some (.d (.lst ds)), some (.d (.lst ds)), none, none, none]
    · subst z; left; simp [thn_ok, thn_err, bindM_a, retM_a, seqK_n, seqK_r, seqK_b, seqK_c, seqM_a, setS_a, putM_d, putM_o, putM_s, slotM_a, opdM_a, opdK_d, opdK_s, opdK_o, datM_a, datK_d, datK_s, datK_o, resM_a, resK_d, resK_s, resK_o, retS_a, argsM_n, argsM_c, opsM_n, opsM_c, tupM_a, lstM_a, liftOp_a, app2_s, op2_a, app1_s, op1_a, appN_s, opN_a, iteK_t, iteK_f, ifS_a, ifM_a, optM_a, blM_a, isBl_b, truK_s, truM_a, notM_a, andM_a, orM_a, andK_t, andK_f, andV_a, orK_f, orK_t, orV_a, notK_s, notV_a, cD_a, dropM_a, agsM_n, agsM_v, agsM_r, callG_a, ret2_s, callK_s, callEnd_a, setIx_a, ownM_a, meth_a, nextK_s, asgK_n, asgK_t, asgM_a, parM_a, forS_a, rngM_a, enumM_a, zipK_tt, zipK_ll, zipM_a, srcM_a, slM_a, partM_n, partM_s, itM_a, bodyFn_a, subD_i, mulD_i, fdivD_i, modD_i, powD_i, shrD_i, andD_i, Op.val, Op.toR, S.toR, vals, ssOf, slotsIn, ndp, putBack, pick, lentIs, outs, asgT, asgTs, D.tru, addD, lessD_i, lesseqD_i, moreD_i, moreeqD_i, ixD, lenD, absD, intF, max2D, min2D, gcdD, listF, D.seqT, D.seqL, eqD_int, negD, bitsD, atI, ixN]
    · exact .inr z) hl h
  unfold SameAt fn_l_same m_l_same
  simp [thn_ok, thn_err, bindM_a, retM_a, seqK_n, seqK_r, seqK_b, seqK_c, seqM_a, setS_a, putM_d, putM_o, putM_s, slotM_a, opdM_a, opdK_d, opdK_s, opdK_o, datM_a, datK_d, datK_s, datK_o, resM_a, resK_d, resK_s, resK_o, retS_a, argsM_n, argsM_c, opsM_n, opsM_c, tupM_a, lstM_a, liftOp_a, app2_s, op2_a, app1_s, op1_a, appN_s, opN_a, iteK_t, iteK_f, ifS_a, ifM_a, optM_a, blM_a, isBl_b, truK_s, truM_a, notM_a, andM_a, orM_a, andK_t, andK_f, andV_a, orK_f, orK_t, orV_a, notK_s, notV_a, cD_a, dropM_a, agsM_n, agsM_v, agsM_r, callG_a, ret2_s, callK_s, callEnd_a, setIx_a, ownM_a, meth_a, nextK_s, asgK_n, asgK_t, asgM_a, parM_a, forS_a, rngM_a, enumM_a, zipK_tt, zipK_ll, zipM_a, srcM_a, slM_a, partM_n, partM_s, itM_a, bodyFn_a, subD_i, mulD_i, fdivD_i, modD_i, powD_i, shrD_i, andD_i, Op.val, Op.toR, S.toR, vals, ssOf, slotsIn, ndp, putBack, pick, lentIs, outs, asgT, asgTs, D.tru, addD, lessD_i, lesseqD_i, moreD_i, moreeqD_i, ixD, lenD, absD, intF, max2D, min2D, gcdD, listF, D.seqT, D.seqL, eqD_int, negD, bitsD, atI, ixN, isi_non_dict, isi_non_list, isi_non_tuple, isi_non_bool, isi_non_str, isi_non_int, isi_non_lt, is_non_non, isi_int_dict, isi_int_list, isi_int_tuple, isi_int_bool, isi_int_str, isi_int_int, isi_int_lt, is_int_non, isi_bl_dict, isi_bl_list, isi_bl_tuple, isi_bl_bool, isi_bl_str, isi_bl_int, isi_bl_lt, is_bl_non, isi_str_dict, isi_str_list, isi_str_tuple, isi_str_bool, isi_str_str, isi_str_int, isi_str_lt, is_str_non, isi_tup_dict, isi_tup_list, isi_tup_tuple, isi_tup_bool, isi_tup_str, isi_tup_int, isi_tup_lt, is_tup_non, isi_lst_dict, isi_lst_list, isi_lst_tuple, isi_lst_bool, isi_lst_str, isi_lst_int, isi_lst_lt, is_lst_non, isi_scr_dict, isi_scr_list, isi_scr_tuple, isi_scr_bool, isi_scr_str, isi_scr_int, isi_scr_lt, is_scr_non, eqD_bl, neD_bl, eqD_int, hc, boolsD, bls_rep, all_rep]
theorem same_num (k : Nat) (n p : Int) : SameAt (k + 2) (nd n p) := same_tup (n := k + 1) (show 2 ≤ sizeLine by decide) (by
  intro d hd
  simp at hd
  rcases hd with rfl | rfl <;> exact same_int _ _)
end Ev

set_option Elab.async false
set_option linter.all false
set_option maxRecDepth 100000
namespace Ev
open PySem PySem.Spec PyProof.Rows L2
theorem red_nd (t : Int) (k : Nat) : ∃ (a : Int) (b : Nat), b ≤ k ∧ red t (2 ^ k) = nd a (2 ^ b) ∧ a * 2 ^ k = t * 2 ^ b ∧ Low a (2 ^ b) := by
  obtain ⟨b, hb, e⟩ := rp_p2 t k
  have h1 := red_cross (t := t) (p2_pos k)
  have h2 := low_red (t := t) (p2_pos k)
  rw [e] at h1 h2
  exact ⟨rt t (2 ^ k), b, hb, by unfold red; rw [e], h1, h2⟩
theorem red_one (k : Nat) : red 1 (2 ^ k) = nd 1 (2 ^ k) := by
  unfold red rt rp
  rw [show (1 : Int).natAbs = 1 from rfl, Nat.gcd_one_left]
  simp
theorem cut_facts (n : Int) (k f : Nat) (q : Int) (hq : q = n * 2 ^ f / 2 ^ k) : ∃ (a : Int) (b : Nat) (c : Int) (e : Nat), b ≤ f ∧ e ≤ f ∧ red q (2 ^ f) = nd a (2 ^ b) ∧ red (a * 2 ^ f + 1 * 2 ^ b) (2 ^ (b + f)) = nd c (2 ^ e) ∧ ¬ n * 2 ^ b < a * 2 ^ k ∧ n * 2 ^ e < c * 2 ^ k := by
  obtain ⟨a, b, hb, e1, e2, _⟩ := red_nd q f
  have q1 : q * 2 ^ k ≤ n * 2 ^ f := by rw [hq]; exact Int.ediv_mul_le _ (by have := p2_pos k; omega)
  have q2 : n * 2 ^ f < (q + 1) * 2 ^ k := by rw [hq]; exact Int.lt_ediv_add_one_mul_self _ (p2_pos k)
  have hf := p2_pos f
  have hbp := p2_pos b
  have e3 : a * 2 ^ (f - b) = q := by
    have : (2 : Int) ^ (f - b) * 2 ^ b = 2 ^ f := by rw [p2m]; congr 1; omega
    apply Int.eq_of_mul_eq_mul_right (a := 2 ^ b) (by omega)
    rw [Int.mul_assoc, this, e2]
  obtain ⟨c, e, he, c1, c2, _⟩ := red_nd (q + 1) f
  have e4 : red (a * 2 ^ f + 1 * 2 ^ b) (2 ^ (b + f)) = red (q + 1) (2 ^ f) := by
    have := sum_eq a 1 b f f hb (Nat.le_refl _)
    rw [e3, Nat.sub_self] at this
    rw [← this]; rfl
  refine ⟨a, b, c, e, hb, he, e1, e4.trans c1, fun z => ?_, ?_⟩
  · have z2 : q * 2 ^ k * 2 ^ b ≤ n * 2 ^ f * 2 ^ b := Int.mul_le_mul_of_nonneg_right q1 (by omega)
    have z3 : n * 2 ^ b * 2 ^ f < a * 2 ^ k * 2 ^ f := Int.mul_lt_mul_of_pos_right z hf
    have z4 : a * 2 ^ k * 2 ^ f = q * 2 ^ k * 2 ^ b := by
      generalize (2 : Int) ^ k = K at *
      generalize (2 : Int) ^ f = G at *
      generalize (2 : Int) ^ b = B at *
      grind
    have z5 : n * 2 ^ b * 2 ^ f = n * 2 ^ f * 2 ^ b := by grind
    omega
  · apply Int.lt_of_mul_lt_mul_right (a := 2 ^ f) _ (by omega)
    have z3 : n * 2 ^ f * 2 ^ e < (q + 1) * 2 ^ k * 2 ^ e := Int.mul_lt_mul_of_pos_right q2 (p2_pos e)
    have z4 : c * 2 ^ k * 2 ^ f = (q + 1) * 2 ^ k * 2 ^ e := by
      generalize (2 : Int) ^ k = K at *
      generalize (2 : Int) ^ f = G at *
      generalize (2 : Int) ^ e = B at *
      grind
    have z5 : n * 2 ^ e * 2 ^ f = n * 2 ^ f * 2 ^ e := by grind
    omega
theorem cut_right_spec (n : Int) (k f : Nat) (hk : k < 64) (hf : f < 64) (hl : Low n (2 ^ k)) : f_l_cut_right.fn [.d (nd n (2 ^ k)), .d (.int f)] = some (.ok (.d (.bl true)) [some (.d (nd n (2 ^ k))), some (.d (.int f))]) := by
  obtain ⟨a, b, c, e, hb, he, r1, r2, l1, l2⟩ := cut_facts n k f _ rfl
  have s1 := cut_of_spec n k f (by omega) (by omega) hl
  have s2 := power_spec f (by omega)
  have s3 := floor_spec n k f (by omega) hf
  have s4 : f_l_same.fn [.d (cutv n k f), .d (cutv n k f)] = some (.ok (.d (.bl true)) [some (.d (cutv n k f)), some (.d (cutv n k f))]) := by
    unfold cutv; exact same_num 38 _ _
  unfold cutv at s1 s3 s4
  rw [r1] at s1 s3 s4
  have s5 := l_below_spec n a k b hk (by omega)
  rw [decide_eq_false l1] at s5
  have s6 := l_num_spec 1 f (by omega)
  rw [red_one] at s6
  have s7 := l_add_spec a 1 b f (by omega) hf
  rw [r2] at s7
  have s8 := l_below_spec n c k e hk (by omega)
  rw [decide_eq_true l2] at s8
  have s9 := size_spec a b (by omega)
  have s10 : (b : Int) ≤ f := by omega
  have s11 : b ≤ f := hb
  unfold f_l_cut_right m_l_cut_right
  unfold nd at *
  simp [thn_ok, thn_err, bindM_a, retM_a, seqK_n, seqK_r, seqK_b, seqK_c, seqM_a, setS_a, putM_d, putM_o, putM_s, slotM_a, opdM_a, opdK_d, opdK_s, opdK_o, datM_a, datK_d, datK_s, datK_o, resM_a, resK_d, resK_s, resK_o, retS_a, argsM_n, argsM_c, opsM_n, opsM_c, tupM_a, lstM_a, liftOp_a, app2_s, op2_a, app1_s, op1_a, appN_s, opN_a, iteK_t, iteK_f, ifS_a, ifM_a, optM_a, blM_a, isBl_b, truK_s, truM_a, notM_a, andM_a, orM_a, andK_t, andK_f, andV_a, orK_f, orK_t, orV_a, notK_s, notV_a, cD_a, dropM_a, agsM_n, agsM_v, agsM_r, callG_a, ret2_s, callK_s, callEnd_a, setIx_a, ownM_a, meth_a, nextK_s, asgK_n, asgK_t, asgM_a, parM_a, forS_a, rngM_a, enumM_a, zipK_tt, zipK_ll, zipM_a, srcM_a, slM_a, partM_n, partM_s, itM_a, bodyFn_a, subD_i, mulD_i, fdivD_i, modD_i, powD_i, shrD_i, andD_i, Op.val, Op.toR, S.toR, vals, ssOf, slotsIn, ndp, putBack, pick, lentIs, outs, asgT, asgTs, D.tru, addD, lessD_i, lesseqD_i, moreD_i, moreeqD_i, ixD, lenD, absD, intF, max2D, min2D, gcdD, listF, D.seqT, D.seqL, eqD_int, negD, bitsD, atI, ixN, s1, s2, s3, s4, s5, s6, s7, s8, s9, s10, s11]
end Ev

set_option Elab.async false
set_option linter.all false
set_option maxRecDepth 100000
namespace Ev
open PySem PySem.Spec PyProof.Rows L2
theorem atI_int {xs : List D} {r : Int} (h0 : 0 ≤ r) (h : r < xs.length) : ∃ d, d ∈ xs ∧ atI xs r = some d := by
  have hj : r.toNat < xs.length := by omega
  exact ⟨xs[r.toNat], List.getElem_mem hj, atI_nat (by omega) (List.getElem?_eq_getElem hj)⟩
theorem one_of_spec {b : List D} {n : Int} (h : Bx b n) (hn : n ≤ 2 ^ 40) (xs : List D) (hx : xs ≠ []) (hx2 : xs.length < 2 ^ 63) :
    ∃ d b', d ∈ xs ∧ f_l_one_of.fn [.own b, .d (.lst xs)] = some (.ok (.d d) [some (.own b'), some (.d (.lst xs))]) ∧ Bx b' (n + 1) := by
  have hp : 0 < xs.length := by cases xs with | nil => exact absurd rfl hx | cons a l => simp
  obtain ⟨r, b', e, hb, r0, r1⟩ := take_spec h hn (m := (xs.length : Nat)) (by omega) (by omega)
  obtain ⟨d, hd, ha⟩ := atI_int r0 r1
  refine ⟨d, b', hd, ?_, hb⟩
  unfold f_l_one_of m_l_one_of
  simp [thn_ok, thn_err, bindM_a, retM_a, seqK_n, seqK_r, seqK_b, seqK_c, seqM_a, setS_a, putM_d, putM_o, putM_s, slotM_a, opdM_a, opdK_d, opdK_s, opdK_o, datM_a, datK_d, datK_s, datK_o, resM_a, resK_d, resK_s, resK_o, retS_a, argsM_n, argsM_c, opsM_n, opsM_c, tupM_a, lstM_a, liftOp_a, app2_s, op2_a, app1_s, op1_a, appN_s, opN_a, iteK_t, iteK_f, ifS_a, ifM_a, optM_a, blM_a, isBl_b, truK_s, truM_a, notM_a, andM_a, orM_a, andK_t, andK_f, andV_a, orK_f, orK_t, orV_a, notK_s, notV_a, cD_a, dropM_a, agsM_n, agsM_v, agsM_r, callG_a, ret2_s, callK_s, callEnd_a, setIx_a, ownM_a, meth_a, nextK_s, asgK_n, asgK_t, asgM_a, parM_a, forS_a, rngM_a, enumM_a, zipK_tt, zipK_ll, zipM_a, srcM_a, slM_a, partM_n, partM_s, itM_a, bodyFn_a, subD_i, mulD_i, fdivD_i, modD_i, powD_i, shrD_i, andD_i, Op.val, Op.toR, S.toR, vals, ssOf, slotsIn, ndp, putBack, pick, lentIs, outs, asgT, asgTs, D.tru, addD, lessD_i, lesseqD_i, moreD_i, moreeqD_i, ixD, lenD, absD, intF, max2D, min2D, gcdD, listF, D.seqT, D.seqL, eqD_int, negD, bitsD, e, ha]
theorem any_spec {b : List D} {n : Int} (h : Bx b n) (hn : n ≤ 2 ^ 39) : ∃ (t : Int) (k : Nat) (b' : List D), t.natAbs < 2 ^ 63 ∧ k ≤ 40 ∧ f_l_any.fn [.own b] = some (.ok (.d (.tup [.int t, .int (2 ^ k)])) [some (.own b')]) ∧ Bx b' (n + 6) := by
  obtain ⟨r1, b1, e1, h1, l1, u1⟩ := take_spec h (by omega) (m := 9) (by decide) (by decide)
  obtain ⟨r2, b2, e2, h2, l2, u2⟩ := take_spec h1 (by omega) (m := 1999) (by decide) (by decide)
  obtain ⟨r3, b3, e3, h3, l3, u3⟩ := take_spec h2 (by omega) (m := 1000000000000000000) (by decide) (by decide)
  obtain ⟨d, b4, hd, e4, h4⟩ := one_of_spec h3 (by omega) [.int (r1 - 4), .int (r2 - 999), .int (r3 - 500000000000000000), .int 0, .int 96] (by simp) (by simp)
  obtain ⟨r5, b5, e5, h5, l5, u5⟩ := take_spec h4 (by omega) (m := 41) (by decide) (by decide)
  obtain ⟨r6, b6, e6, h6, l6, u6⟩ := take_spec h5 (by omega) (m := 7) (by decide) (by decide)
  obtain ⟨t, rfl, ht⟩ : ∃ t : Int, d = .int t ∧ t.natAbs < 2 ^ 63 := by
    simp only [List.mem_cons, List.not_mem_nil, or_false] at hd
    rcases hd with rfl | rfl | rfl | rfl | rfl
    · exact ⟨_, rfl, by omega⟩
    · exact ⟨_, rfl, by omega⟩
    · exact ⟨_, rfl, by omega⟩
    · exact ⟨_, rfl, by omega⟩
    · exact ⟨_, rfl, by omega⟩
  obtain ⟨d2, hd2, ha⟩ := atI_int (xs := [.int 0, .int 0, .int 1, .int 2, .int 4, .int 6, .int r5]) l6 (by simpa using u6)
  obtain ⟨k, rfl, hk⟩ : ∃ k : Nat, d2 = .int k ∧ k ≤ 40 := by
    simp only [List.mem_cons, List.not_mem_nil, or_false] at hd2
    rcases hd2 with rfl | rfl | rfl | rfl | rfl | rfl | rfl
    · exact ⟨0, rfl, by omega⟩
    · exact ⟨0, rfl, by omega⟩
    · exact ⟨1, rfl, by omega⟩
    · exact ⟨2, rfl, by omega⟩
    · exact ⟨4, rfl, by omega⟩
    · exact ⟨6, rfl, by omega⟩
    · exact ⟨r5.toNat, by rw [Int.toNat_of_nonneg l5], by omega⟩
  have hpw := power_spec k (by omega)
  have p1 : powC 10 18 = true := by decide
  have p2 : powC 10 17 = true := by decide
  have p3 : mulC 5 100000000000000000 = true := by decide
  refine ⟨t, k, b6, ht, hk, ?_, by exact h6.mono (by omega)⟩
  unfold f_l_any m_l_any
  simp [thn_ok, thn_err, bindM_a, retM_a, seqK_n, seqK_r, seqK_b, seqK_c, seqM_a, setS_a, putM_d, putM_o, putM_s, slotM_a, opdM_a, opdK_d, opdK_s, opdK_o, datM_a, datK_d, datK_s, datK_o, resM_a, resK_d, resK_s, resK_o, retS_a, argsM_n, argsM_c, opsM_n, opsM_c, tupM_a, lstM_a, liftOp_a, app2_s, op2_a, app1_s, op1_a, appN_s, opN_a, iteK_t, iteK_f, ifS_a, ifM_a, optM_a, blM_a, isBl_b, truK_s, truM_a, notM_a, andM_a, orM_a, andK_t, andK_f, andV_a, orK_f, orK_t, orV_a, notK_s, notV_a, cD_a, dropM_a, agsM_n, agsM_v, agsM_r, callG_a, ret2_s, callK_s, callEnd_a, setIx_a, ownM_a, meth_a, nextK_s, asgK_n, asgK_t, asgM_a, parM_a, forS_a, rngM_a, enumM_a, zipK_tt, zipK_ll, zipM_a, srcM_a, slM_a, partM_n, partM_s, itM_a, bodyFn_a, subD_i, mulD_i, fdivD_i, modD_i, powD_i, shrD_i, andD_i, Op.val, Op.toR, S.toR, vals, ssOf, slotsIn, ndp, putBack, pick, lentIs, outs, asgT, asgTs, D.tru, addD, lessD_i, lesseqD_i, moreD_i, moreeqD_i, ixD, lenD, absD, intF, max2D, min2D, gcdD, listF, D.seqT, D.seqL, eqD_int, negD, bitsD, e1, e2, e3, e4, e5, e6, ha, hpw, p1, p2, p3]
theorem red_nd2 (t : Int) (k : Nat) : ∃ (a : Int) (b : Nat), b ≤ k ∧ red t (2 ^ k) = nd a (2 ^ b) ∧ a.natAbs ≤ t.natAbs ∧ Low a (2 ^ b) := by
  obtain ⟨b, hb, e⟩ := rp_p2 t k
  have h2 := low_red (t := t) (p2_pos k)
  rw [e] at h2
  obtain ⟨g, g0, g1, _, _⟩ := red_parts (t := t) (p2_pos k)
  refine ⟨rt t (2 ^ k), b, hb, by unfold red; rw [e], ?_, h2⟩
  have : t.natAbs = g.natAbs * (rt t (2 ^ k)).natAbs := by rw [← Int.natAbs_mul, ← g1]
  rw [this]
  exact Nat.le_mul_of_pos_left _ (by omega)
end Ev

set_option Elab.async false
set_option linter.all false
set_option maxRecDepth 100000
namespace Ev
open PySem PySem.Spec PyProof.Rows L2
theorem same_red (k : Nat) (t p : Int) : SameAt (k + 2) (red t p) := same_num k _ _
theorem same_fn : f_l_same.fn = fn_l_same 40 := rfl
/-- the eight and more, found and due -/
def answers (a c : Int) (i j : Nat) (n m : Int) (k l : Nat) : List D :=
  [nd n (2 ^ k), red a 1, red c (2 ^ j), red (n * 2 ^ l + m * 2 ^ k) (2 ^ (k + l)), red (n * 2 ^ l + -m * 2 ^ k) (2 ^ (k + l)),
   red (n * m) (2 ^ (k + l)), .bl (decide (n * 2 ^ l < m * 2 ^ k)), .bl (decide (m * 2 ^ k < n * 2 ^ l)), .int k]
theorem answers_same (a c : Int) (i j : Nat) (n m : Int) (k l : Nat) : f_l_same.fn [.d (.lst (answers a c i j n m k l)), .d (.lst (answers a c i j n m k l))] = some (.ok (.d (.bl true)) [some (.d (.lst (answers a c i j n m k l))), some (.d (.lst (answers a c i j n m k l)))]) := by
  rw [same_fn]
  show SameAt (39 + 1) (.lst (answers a c i j n m k l))
  refine same_lst (n := 39) (show (answers a c i j n m k l).length ≤ sizeLine from (show 9 ≤ sizeLine by decide)) fun d hd => ?_
  unfold answers at hd
  simp only [List.mem_cons, List.not_mem_nil, or_false] at hd
  rcases hd with rfl | rfl | rfl | rfl | rfl | rfl | rfl | rfl | rfl
  · exact same_num 37 _ _
  · exact same_red 37 _ _
  · exact same_red 37 _ _
  · exact same_red 37 _ _
  · exact same_red 37 _ _
  · exact same_red 37 _ _
  · exact same_bl 38 _
  · exact same_bl 38 _
  · exact same_int 38 _
theorem cuts_comp {n : Int} {k : Nat} {r : Int} (hk : k < 64) (hl : Low n (2 ^ k)) (r0 : 0 ≤ r) (r1 : r < 51) {src : M (List D)} {δ : Dl} {s0 s1 s2 s3 s5 s6 s7 s8 : Option S}
    (hs : src δ = some (.ok [.int 0, .int 1, .int 8, .int r] [s0, s1, s2, s3, some (.d (nd n (2 ^ k))), s5, s6, s7, s8, none])) :
    compM [9] (.nm 9) src (retM true) (datM (callG f_l_cut_right.fn [0, 1] [] [.val (slotM 4), .val (slotM 9)] [])) δ = some (.ok (.own (List.replicate 4 (.bl true))) [s0, s1, s2, s3, some (.d (nd n (2 ^ k))), s5, s6, s7, s8, none]) := by
  obtain ⟨out, δe, e, l, rfl, rfl⟩ := compM_inv (vs := [9]) (T := .nm 9) (te := datM (callG f_l_cut_right.fn [0, 1] [] [.val (slotM 4), .val (slotM 9)] [])) hs (by simp [noOwn]) (fun i acc δ => acc = List.replicate i (.bl true) ∧ δ = [s0, s1, s2, s3, some (.d (nd n (2 ^ k))), s5, s6, s7, s8, none]) ⟨rfl, by simp [wipeD]⟩ (show 4 ≤ sizeLine by decide) (by
    rintro i x acc δ hx ⟨rfl, rfl⟩
    obtain ⟨f, rfl, hf⟩ : ∃ f : Nat, x = .int f ∧ f < 64 := by
      have := List.mem_of_getElem? hx
      simp only [List.mem_cons, List.not_mem_nil, or_false] at this
      rcases this with rfl | rfl | rfl | rfl
      · exact ⟨0, rfl, by omega⟩
      · exact ⟨1, rfl, by omega⟩
      · exact ⟨8, rfl, by omega⟩
      · exact ⟨r.toNat, by rw [Int.toNat_of_nonneg r0], by omega⟩
    have hh := cut_right_spec n k f hk hf hl
    refine ⟨.bl true, [s0, s1, s2, s3, some (.d (nd n (2 ^ k))), s5, s6, s7, s8, some (.d (.int f))], ?_, ?_⟩
    · simp [thn_ok, thn_err, bindM_a, retM_a, seqK_n, seqK_r, seqK_b, seqK_c, seqM_a, setS_a, putM_d, putM_o, putM_s, slotM_a, opdM_a, opdK_d, opdK_s, opdK_o, datM_a, datK_d, datK_s, datK_o, resM_a, resK_d, resK_s, resK_o, retS_a, argsM_n, argsM_c, opsM_n, opsM_c, tupM_a, lstM_a, liftOp_a, app2_s, op2_a, app1_s, op1_a, appN_s, opN_a, iteK_t, iteK_f, ifS_a, ifM_a, optM_a, blM_a, isBl_b, truK_s, truM_a, notM_a, andM_a, orM_a, andK_t, andK_f, andV_a, orK_f, orK_t, orV_a, notK_s, notV_a, cD_a, dropM_a, agsM_n, agsM_v, agsM_r, callG_a, ret2_s, callK_s, callEnd_a, setIx_a, ownM_a, meth_a, nextK_s, asgK_n, asgK_t, asgM_a, parM_a, forS_a, rngM_a, enumM_a, zipK_tt, zipK_ll, zipM_a, srcM_a, slM_a, partM_n, partM_s, itM_a, bodyFn_a, subD_i, mulD_i, fdivD_i, modD_i, powD_i, shrD_i, andD_i, Op.val, Op.toR, S.toR, vals, ssOf, slotsIn, ndp, putBack, pick, lentIs, outs, asgT, asgTs, D.tru, addD, lessD_i, lesseqD_i, moreD_i, moreeqD_i, ixD, lenD, absD, intF, max2D, min2D, gcdD, listF, D.seqT, D.seqL, eqD_int, negD, bitsD, atI, ixN, hh]
    · refine ⟨by rw [List.replicate_succ'], by simp [wipeD]⟩)
  rw [e]
  simp [backD]
theorem pair_right_spec {b : List D} {n : Int} (h : Bx b n) (hn : n ≤ 2 ^ 38) : ∃ b', f_l_pair_right.fn [.own b] = some (.ok (.d (.bl true)) [some (.own b')]) ∧ Bx b' (n + 14) := by
  obtain ⟨ta, i, b1, ta1, hi, e1, h1⟩ := any_spec h (by omega)
  obtain ⟨tc, j, b2, tc1, hj, e2, h2⟩ := any_spec h1 (by omega)
  obtain ⟨r3, b3, e3, h3, l3, u3⟩ := take_spec h2 (by omega) (m := 5) (by decide) (by decide)
  obtain ⟨r4, b4, e4, h4, l4, u4⟩ := take_spec h3 (by omega) (m := 51) (by decide) (by decide)
  obtain ⟨n1, k1, hk1, g1, m1, low1⟩ := red_nd2 ta i
  obtain ⟨n2, k2, hk2, g2, m2, low2⟩ := red_nd2 tc j
  have f1 := l_num_spec ta i (by omega)
  have f2 := l_num_spec tc j (by omega)
  rw [g1] at f1
  have f3 := num_of_spec ta (2 ^ i) (p2_pos _) (p2_lt (by omega))
  have f4 := num_of_spec ta 1 (by decide) (by decide)
  have f5 := num_of_spec tc (2 ^ j) (p2_pos _) (p2_lt (by omega))
  rw [g1] at f3
  have f6 := l_num_spec ta 0 (by decide)
  rw [Int.pow_zero] at f6
  obtain ⟨n3, k3, e5, hk3, hn3⟩ : ∃ (n3 : Int) (k3 : Nat), (if r3 = 0 then nd n1 (2 ^ k1) else red tc (2 ^ j)) = nd n3 (2 ^ k3) ∧ k3 ≤ 40 ∧ n3.natAbs < 2 ^ 64 := by
    by_cases z : r3 = 0
    · exact ⟨n1, k1, by rw [if_pos z], by omega, by omega⟩
    · exact ⟨n2, k2, by rw [if_neg z, g2], by omega, by omega⟩
  have q1 := sum_of_spec n1 n3 k1 k3 (by omega) (by omega)
  have q2 := less_of_spec n1 n3 k1 k3 (by omega) (by omega)
  have q3 := l_add_spec n1 n3 k1 k3 (by omega) (by omega)
  have q4 := l_sub_spec n1 n3 k1 k3 (by omega) (by omega)
  have q5 := times_of_spec n1 n3 k1 k3 (by omega) (by omega) hn3
  have q6 := l_mul_spec n1 n3 k1 k3 (by omega) (by omega) hn3
  have q7 := is_below_spec n1 n3 k1 k3 (by omega) (by omega)
  have q8 := is_below_spec n3 n1 k3 k1 (by omega) (by omega)
  have q9 := l_below_spec n1 n3 k1 k3 (by omega) (by omega)
  have q10 := l_below_spec n3 n1 k3 k1 (by omega) (by omega)
  have q11 := figures_of_spec n1 k1
  have q12 := size_spec n1 k1 (by omega)
  have q13 := answers_same ta tc i j n1 n3 k1 k3
  have hz : 9 ≤ sizeLine := by decide
  have hc := fun (δ : Dl) src (s0 s1 s2 s3 s5 s6 s7 s8 : Option S) hs => cuts_comp (n := n1) (k := k1) (by omega) low1 l4 u4 (src := src) (δ := δ) (s0 := s0) (s1 := s1) (s2 := s2) (s3 := s3) (s5 := s5) (s6 := s6) (s7 := s7) (s8 := s8) hs
  have hx : setS 1 (ifM (blM (op2 eqD (callG f_l_take.fn [0, 1] [] [.rf 0, .val (cD (.int 5))] []) (cD (.int 0)))) (slotM 4) (slotM 1)) [some (.own b2), some (.d (red tc (2 ^ j))), none, none, some (.d (nd n1 (2 ^ k1))), some (.d (.int ta)), some (.d (.int (2 ^ i))), some (.d (.int tc)), some (.d (.int (2 ^ j))), none] = some (.ok .next [some (.own b3), some (.d (nd n3 (2 ^ k3))), none, none, some (.d (nd n1 (2 ^ k1))), some (.d (.int ta)), some (.d (.int (2 ^ i))), some (.d (.int tc)), some (.d (.int (2 ^ j))), none]) := by
    by_cases z : r3 = 0
    · rw [if_pos z] at e5
      rw [← e5]
      subst z
      simp [thn_ok, thn_err, bindM_a, retM_a, seqK_n, seqK_r, seqK_b, seqK_c, seqM_a, setS_a, putM_d, putM_o, putM_s, slotM_a, opdM_a, opdK_d, opdK_s, opdK_o, datM_a, datK_d, datK_s, datK_o, resM_a, resK_d, resK_s, resK_o, retS_a, argsM_n, argsM_c, opsM_n, opsM_c, tupM_a, lstM_a, liftOp_a, app2_s, op2_a, app1_s, op1_a, appN_s, opN_a, iteK_t, iteK_f, ifS_a, ifM_a, optM_a, blM_a, isBl_b, truK_s, truM_a, notM_a, andM_a, orM_a, andK_t, andK_f, andV_a, orK_f, orK_t, orV_a, notK_s, notV_a, cD_a, dropM_a, agsM_n, agsM_v, agsM_r, callG_a, ret2_s, callK_s, callEnd_a, setIx_a, ownM_a, meth_a, nextK_s, asgK_n, asgK_t, asgM_a, parM_a, forS_a, rngM_a, enumM_a, zipK_tt, zipK_ll, zipM_a, srcM_a, slM_a, partM_n, partM_s, itM_a, bodyFn_a, subD_i, mulD_i, fdivD_i, modD_i, powD_i, shrD_i, andD_i, Op.val, Op.toR, S.toR, vals, ssOf, slotsIn, ndp, putBack, pick, lentIs, outs, asgT, asgTs, D.tru, addD, lessD_i, lesseqD_i, moreD_i, moreeqD_i, ixD, lenD, absD, intF, max2D, min2D, gcdD, listF, D.seqT, D.seqL, eqD_int, negD, bitsD, atI, ixN, e3]
    · rw [if_neg z] at e5
      rw [← e5]
      have z0 : (r3 == 0) = false := by simpa using z
      simp [thn_ok, thn_err, bindM_a, retM_a, seqK_n, seqK_r, seqK_b, seqK_c, seqM_a, setS_a, putM_d, putM_o, putM_s, slotM_a, opdM_a, opdK_d, opdK_s, opdK_o, datM_a, datK_d, datK_s, datK_o, resM_a, resK_d, resK_s, resK_o, retS_a, argsM_n, argsM_c, opsM_n, opsM_c, tupM_a, lstM_a, liftOp_a, app2_s, op2_a, app1_s, op1_a, appN_s, opN_a, iteK_t, iteK_f, ifS_a, ifM_a, optM_a, blM_a, isBl_b, truK_s, truM_a, notM_a, andM_a, orM_a, andK_t, andK_f, andV_a, orK_f, orK_t, orV_a, notK_s, notV_a, cD_a, dropM_a, agsM_n, agsM_v, agsM_r, callG_a, ret2_s, callK_s, callEnd_a, setIx_a, ownM_a, meth_a, nextK_s, asgK_n, asgK_t, asgM_a, parM_a, forS_a, rngM_a, enumM_a, zipK_tt, zipK_ll, zipM_a, srcM_a, slM_a, partM_n, partM_s, itM_a, bodyFn_a, subD_i, mulD_i, fdivD_i, modD_i, powD_i, shrD_i, andD_i, Op.val, Op.toR, S.toR, vals, ssOf, slotsIn, ndp, putBack, pick, lentIs, outs, asgT, asgTs, D.tru, addD, lessD_i, lesseqD_i, moreD_i, moreeqD_i, ixD, lenD, absD, intF, max2D, min2D, gcdD, listF, D.seqT, D.seqL, eqD_int, negD, bitsD, atI, ixN, e3, z0]
  refine ⟨b4, ?_, h4.mono (by omega)⟩
  unfold f_l_pair_right m_l_pair_right
  unfold answers at q13
  generalize setS 1 (ifM (blM (op2 eqD (callG f_l_take.fn [0, 1] [] [.rf 0, .val (cD (.int 5))] []) (cD (.int 0)))) (slotM 4) (slotM 1)) = Q at *
  generalize nd n1 (2 ^ k1) = N1 at *
  generalize nd n3 (2 ^ k3) = N3 at *
  clear e5
  have hsrc : ∀ rest, srcM (tupM [cD (.int 0), cD (.int 1), cD (.int 8), callG f_l_take.fn [0, 1] [] [.rf 0, .val (cD (.int 51))] []]) (some (.own b3) :: rest) = some (.ok [.int 0, .int 1, .int 8, .int r4] (some (.own b4) :: rest)) := fun rest => by
    simp [thn_ok, thn_err, bindM_a, retM_a, seqK_n, seqK_r, seqK_b, seqK_c, seqM_a, setS_a, putM_d, putM_o, putM_s, slotM_a, opdM_a, opdK_d, opdK_s, opdK_o, datM_a, datK_d, datK_s, datK_o, resM_a, resK_d, resK_s, resK_o, retS_a, argsM_n, argsM_c, opsM_n, opsM_c, tupM_a, lstM_a, liftOp_a, app2_s, op2_a, app1_s, op1_a, appN_s, opN_a, iteK_t, iteK_f, ifS_a, ifM_a, optM_a, blM_a, isBl_b, truK_s, truM_a, notM_a, andM_a, orM_a, andK_t, andK_f, andV_a, orK_f, orK_t, orV_a, notK_s, notV_a, cD_a, dropM_a, agsM_n, agsM_v, agsM_r, callG_a, ret2_s, callK_s, callEnd_a, setIx_a, ownM_a, meth_a, nextK_s, asgK_n, asgK_t, asgM_a, parM_a, forS_a, rngM_a, enumM_a, zipK_tt, zipK_ll, zipM_a, srcM_a, slM_a, partM_n, partM_s, itM_a, bodyFn_a, subD_i, mulD_i, fdivD_i, modD_i, powD_i, shrD_i, andD_i, Op.val, Op.toR, S.toR, vals, ssOf, slotsIn, ndp, putBack, pick, lentIs, outs, asgT, asgTs, D.tru, addD, lessD_i, lesseqD_i, moreD_i, moreeqD_i, ixD, lenD, absD, intF, max2D, min2D, gcdD, listF, D.seqT, D.seqL, eqD_int, negD, bitsD, atI, ixN, e4, srcD]
  have hc2 := fun (s1 s2 s3 s5 s6 s7 s8 : Option S) => hc _ _ (some (.own b4)) s1 s2 s3 s5 s6 s7 s8 (hsrc [s1, s2, s3, some (.d N1), s5, s6, s7, s8, none])
  clear hsrc hc
  simp [thn_ok, thn_err, bindM_a, retM_a, seqK_n, seqK_r, seqK_b, seqK_c, seqM_a, setS_a, putM_d, putM_o, putM_s, slotM_a, opdM_a, opdK_d, opdK_s, opdK_o, datM_a, datK_d, datK_s, datK_o, resM_a, resK_d, resK_s, resK_o, retS_a, argsM_n, argsM_c, opsM_n, opsM_c, tupM_a, lstM_a, liftOp_a, app2_s, op2_a, app1_s, op1_a, appN_s, opN_a, iteK_t, iteK_f, ifS_a, ifM_a, optM_a, blM_a, isBl_b, truK_s, truM_a, notM_a, andM_a, orM_a, andK_t, andK_f, andV_a, orK_f, orK_t, orV_a, notK_s, notV_a, cD_a, dropM_a, agsM_n, agsM_v, agsM_r, callG_a, ret2_s, callK_s, callEnd_a, setIx_a, ownM_a, meth_a, nextK_s, asgK_n, asgK_t, asgM_a, parM_a, forS_a, rngM_a, enumM_a, zipK_tt, zipK_ll, zipM_a, srcM_a, slM_a, partM_n, partM_s, itM_a, bodyFn_a, subD_i, mulD_i, fdivD_i, modD_i, powD_i, shrD_i, andD_i, Op.val, Op.toR, S.toR, vals, ssOf, slotsIn, ndp, putBack, pick, lentIs, outs, asgT, asgTs, D.tru, addD, lessD_i, lesseqD_i, moreD_i, moreeqD_i, ixD, lenD, absD, intF, max2D, min2D, gcdD, listF, D.seqT, D.seqL, eqD_int, negD, bitsD, atI, ixN, e1, e2, e3, f1, f2, f3, f4, f5, f6, hx, q1, q2, q3, q4, q5, q6, q7, q8, q9, q10, q11, q12, q13, hz, hc2, boolsD, bls]
end Ev

set_option Elab.async false
set_option linter.all false
set_option maxRecDepth 100000
namespace Ev
open PySem PySem.Spec PyProof.Rows L2
def NumD (d : D) : Prop := ∃ (n : Int) (k : Nat), d = nd n (2 ^ k) ∧ k ≤ 3
theorem pds_nums : ∀ (xs : List D), (∀ d ∈ xs, NumD d) → ∃ ps, pds xs = some ps ∧ PyData.canLayAll0 ps = true ∧ PyData.depthAll ps ≤ 60
  | [], _ => ⟨[], rfl, rfl, by simp [PyData.depthAll]⟩
  | x :: xs, h => by
    obtain ⟨n, k, rfl, _⟩ := h x (by simp)
    obtain ⟨ps, e, c, d⟩ := pds_nums xs (fun d hd => h d (by simp [hd]))
    refine ⟨.tuple [.int n, .int (2 ^ k)] :: ps, ?_, ?_, ?_⟩
    · simp [pds, nd, D.pd, e]
    · simp [PyData.canLayAll0, PyData.canLay0, c]
    · simp [PyData.depthAll, PyData.depth]; omega
theorem eq_nums {xs : List D} (h : ∀ d ∈ xs, NumD d) : eqD (.lst xs) (.lst xs) = some (.d (.bl true)) := by
  obtain ⟨ps, e, c, d⟩ := pds_nums xs h
  have hs : SeqAt.shaped (.list ps) = true := by
    unfold SeqAt.shaped
    simp [PyData.canLay0, PyData.depth, c]; omega
  have he := SeqAt.eqv_refl (.list ps) (SeqAt.canLay_of_shaped hs)
  simp [eqD, eqvD, D.pd, e, hs, he]
def blw (d e : D) : Bool := match d, e with
  | .tup [.int a, .int p], .tup [.int c, .int q] => decide (a * q < c * p)
  | _, _ => false
theorem below_nd {d e : D} (hd : NumD d) (he : NumD e) : f_l_below.fn [.d d, .d e] = some (.ok (.d (.bl (blw d e))) [some (.d d), some (.d e)]) ∧ f_is_below.fn [.d d, .d e] = some (.ok (.d (.bl (blw d e))) [some (.d d), some (.d e)]) := by
  obtain ⟨n, k, rfl, hk⟩ := hd
  obtain ⟨m, l, rfl, hl⟩ := he
  exact ⟨l_below_spec n m k l (by omega) (by omega), is_below_spec n m k l (by omega) (by omega)⟩
def lowF (a d : D) : D := if blw d a then d else a
def highF (a d : D) : D := if blw a d then d else a
theorem foldl_take {f : D → D → D} {x : D} {xs : List D} {i : Nat} {d : D} (h : xs[i]? = some d) : (xs.take (i + 1)).foldl f x = f ((xs.take i).foldl f x) d := by
  rw [List.take_add_one, h, List.foldl_append]; rfl
theorem fold_num {f : D → D → D} (hf : ∀ a d, f a d = d ∨ f a d = a) : ∀ (xs : List D) (x : D), NumD x → (∀ d ∈ xs, NumD d) → NumD (xs.foldl f x)
  | [], x, hx, _ => hx
  | y :: ys, x, hx, h => by
    rw [List.foldl_cons]
    refine fold_num hf ys _ ?_ (fun d hd => h d (by simp [hd]))
    rcases hf x y with e | e
    · rw [e]; exact h y (by simp)
    · rw [e]; exact hx
theorem lowF_or (a d : D) : lowF a d = d ∨ lowF a d = a := by unfold lowF; split <;> simp
theorem highF_or (a d : D) : highF a d = d ∨ highF a d = a := by unfold highF; split <;> simp
theorem least_spec {xs : List D} {x : D} (h : ∀ d ∈ xs, NumD d) (hx : atI xs 0 = some x) (nx : NumD x) : f_least_num.fn [.d (.lst xs)] = some (.ok (.d (xs.foldl lowF x)) [some (.d (.lst xs))]) := by
  obtain ⟨δ', e, y, rfl⟩ := forM0 (T := .nm 2) (body := seqM (ifS (truM (callG f_is_below.fn [0, 1] [] [.val (slotM 2), .val (slotM 1)] [])) (seqM (setS 1 (slotM 2)) (retM .next)) (retM .next)) (retM .next))
    (fun i δ => ∃ y, δ = [some (.d (.lst xs)), some (.d ((xs.take i).foldl lowF x)), y]) xs [some (.d (.lst xs)), some (.d x), none] ⟨none, rfl⟩ (by
    rintro i d δ hd ⟨y, rfl⟩
    have hb := (below_nd (h d (List.mem_of_getElem? hd)) (fold_num lowF_or (xs.take i) x nx (fun d hd => h d (List.mem_of_mem_take hd)))).2
    refine ⟨_, ?_, some (.d d), rfl⟩
    rw [foldl_take hd]
    generalize (xs.take i).foldl lowF x = a at *
    unfold lowF
    cases hw : blw d a with
    | true => rw [hw] at hb; simp [thn_ok, thn_err, bindM_a, retM_a, seqK_n, seqK_r, seqK_b, seqK_c, seqM_a, setS_a, putM_d, putM_o, putM_s, slotM_a, opdM_a, opdK_d, opdK_s, opdK_o, datM_a, datK_d, datK_s, datK_o, resM_a, resK_d, resK_s, resK_o, retS_a, argsM_n, argsM_c, opsM_n, opsM_c, tupM_a, lstM_a, liftOp_a, app2_s, op2_a, app1_s, op1_a, appN_s, opN_a, iteK_t, iteK_f, ifS_a, ifM_a, optM_a, blM_a, isBl_b, truK_s, truM_a, notM_a, andM_a, orM_a, andK_t, andK_f, andV_a, orK_f, orK_t, orV_a, notK_s, notV_a, cD_a, dropM_a, agsM_n, agsM_v, agsM_r, callG_a, ret2_s, callK_s, callEnd_a, setIx_a, ownM_a, meth_a, nextK_s, asgK_n, asgK_t, asgM_a, parM_a, forS_a, rngM_a, enumM_a, zipK_tt, zipK_ll, zipM_a, srcM_a, slM_a, partM_n, partM_s, itM_a, bodyFn_a, subD_i, mulD_i, fdivD_i, modD_i, powD_i, shrD_i, andD_i, Op.val, Op.toR, S.toR, vals, ssOf, slotsIn, ndp, putBack, pick, lentIs, outs, asgT, asgTs, D.tru, addD, lessD_i, lesseqD_i, moreD_i, moreeqD_i, ixD, lenD, absD, intF, max2D, min2D, gcdD, listF, D.seqT, D.seqL, eqD_int, negD, bitsD, atI, ixN, hb]
    | false => rw [hw] at hb; simp [thn_ok, thn_err, bindM_a, retM_a, seqK_n, seqK_r, seqK_b, seqK_c, seqM_a, setS_a, putM_d, putM_o, putM_s, slotM_a, opdM_a, opdK_d, opdK_s, opdK_o, datM_a, datK_d, datK_s, datK_o, resM_a, resK_d, resK_s, resK_o, retS_a, argsM_n, argsM_c, opsM_n, opsM_c, tupM_a, lstM_a, liftOp_a, app2_s, op2_a, app1_s, op1_a, appN_s, opN_a, iteK_t, iteK_f, ifS_a, ifM_a, optM_a, blM_a, isBl_b, truK_s, truM_a, notM_a, andM_a, orM_a, andK_t, andK_f, andV_a, orK_f, orK_t, orV_a, notK_s, notV_a, cD_a, dropM_a, agsM_n, agsM_v, agsM_r, callG_a, ret2_s, callK_s, callEnd_a, setIx_a, ownM_a, meth_a, nextK_s, asgK_n, asgK_t, asgM_a, parM_a, forS_a, rngM_a, enumM_a, zipK_tt, zipK_ll, zipM_a, srcM_a, slM_a, partM_n, partM_s, itM_a, bodyFn_a, subD_i, mulD_i, fdivD_i, modD_i, powD_i, shrD_i, andD_i, Op.val, Op.toR, S.toR, vals, ssOf, slotsIn, ndp, putBack, pick, lentIs, outs, asgT, asgTs, D.tru, addD, lessD_i, lesseqD_i, moreD_i, moreeqD_i, ixD, lenD, absD, intF, max2D, min2D, gcdD, listF, D.seqT, D.seqL, eqD_int, negD, bitsD, atI, ixN, hb])
  rw [List.take_of_length_le (Nat.le_refl _)] at e
  unfold f_least_num m_least_num
  simp [thn_ok, thn_err, bindM_a, retM_a, seqK_n, seqK_r, seqK_b, seqK_c, seqM_a, setS_a, putM_d, putM_o, putM_s, slotM_a, opdM_a, opdK_d, opdK_s, opdK_o, datM_a, datK_d, datK_s, datK_o, resM_a, resK_d, resK_s, resK_o, retS_a, argsM_n, argsM_c, opsM_n, opsM_c, tupM_a, lstM_a, liftOp_a, app2_s, op2_a, app1_s, op1_a, appN_s, opN_a, iteK_t, iteK_f, ifS_a, ifM_a, optM_a, blM_a, isBl_b, truK_s, truM_a, notM_a, andM_a, orM_a, andK_t, andK_f, andV_a, orK_f, orK_t, orV_a, notK_s, notV_a, cD_a, dropM_a, agsM_n, agsM_v, agsM_r, callG_a, ret2_s, callK_s, callEnd_a, setIx_a, ownM_a, meth_a, nextK_s, asgK_n, asgK_t, asgM_a, parM_a, forS_a, rngM_a, enumM_a, zipK_tt, zipK_ll, zipM_a, srcM_a, slM_a, partM_n, partM_s, itM_a, bodyFn_a, subD_i, mulD_i, fdivD_i, modD_i, powD_i, shrD_i, andD_i, Op.val, Op.toR, S.toR, vals, ssOf, slotsIn, ndp, putBack, pick, lentIs, outs, asgT, asgTs, D.tru, addD, lessD_i, lesseqD_i, moreD_i, moreeqD_i, ixD, lenD, absD, intF, max2D, min2D, gcdD, listF, D.seqT, D.seqL, eqD_int, negD, bitsD, hx, srcD, e]
theorem most_spec {xs : List D} {x : D} (h : ∀ d ∈ xs, NumD d) (hx : atI xs 0 = some x) (nx : NumD x) : f_most_num.fn [.d (.lst xs)] = some (.ok (.d (xs.foldl highF x)) [some (.d (.lst xs))]) := by
  obtain ⟨δ', e, y, rfl⟩ := forM0 (T := .nm 2) (body := seqM (ifS (truM (callG f_is_below.fn [0, 1] [] [.val (slotM 1), .val (slotM 2)] [])) (seqM (setS 1 (slotM 2)) (retM .next)) (retM .next)) (retM .next))
    (fun i δ => ∃ y, δ = [some (.d (.lst xs)), some (.d ((xs.take i).foldl highF x)), y]) xs [some (.d (.lst xs)), some (.d x), none] ⟨none, rfl⟩ (by
    rintro i d δ hd ⟨y, rfl⟩
    have hb := (below_nd (fold_num highF_or (xs.take i) x nx (fun d hd => h d (List.mem_of_mem_take hd))) (h d (List.mem_of_getElem? hd))).2
    refine ⟨_, ?_, some (.d d), rfl⟩
    rw [foldl_take hd]
    generalize (xs.take i).foldl highF x = a at *
    unfold highF
    cases hw : blw a d with
    | true => rw [hw] at hb; simp [thn_ok, thn_err, bindM_a, retM_a, seqK_n, seqK_r, seqK_b, seqK_c, seqM_a, setS_a, putM_d, putM_o, putM_s, slotM_a, opdM_a, opdK_d, opdK_s, opdK_o, datM_a, datK_d, datK_s, datK_o, resM_a, resK_d, resK_s, resK_o, retS_a, argsM_n, argsM_c, opsM_n, opsM_c, tupM_a, lstM_a, liftOp_a, app2_s, op2_a, app1_s, op1_a, appN_s, opN_a, iteK_t, iteK_f, ifS_a, ifM_a, optM_a, blM_a, isBl_b, truK_s, truM_a, notM_a, andM_a, orM_a, andK_t, andK_f, andV_a, orK_f, orK_t, orV_a, notK_s, notV_a, cD_a, dropM_a, agsM_n, agsM_v, agsM_r, callG_a, ret2_s, callK_s, callEnd_a, setIx_a, ownM_a, meth_a, nextK_s, asgK_n, asgK_t, asgM_a, parM_a, forS_a, rngM_a, enumM_a, zipK_tt, zipK_ll, zipM_a, srcM_a, slM_a, partM_n, partM_s, itM_a, bodyFn_a, subD_i, mulD_i, fdivD_i, modD_i, powD_i, shrD_i, andD_i, Op.val, Op.toR, S.toR, vals, ssOf, slotsIn, ndp, putBack, pick, lentIs, outs, asgT, asgTs, D.tru, addD, lessD_i, lesseqD_i, moreD_i, moreeqD_i, ixD, lenD, absD, intF, max2D, min2D, gcdD, listF, D.seqT, D.seqL, eqD_int, negD, bitsD, atI, ixN, hb]
    | false => rw [hw] at hb; simp [thn_ok, thn_err, bindM_a, retM_a, seqK_n, seqK_r, seqK_b, seqK_c, seqM_a, setS_a, putM_d, putM_o, putM_s, slotM_a, opdM_a, opdK_d, opdK_s, opdK_o, datM_a, datK_d, datK_s, datK_o, resM_a, resK_d, resK_s, resK_o, retS_a, argsM_n, argsM_c, opsM_n, opsM_c, tupM_a, lstM_a, liftOp_a, app2_s, op2_a, app1_s, op1_a, appN_s, opN_a, iteK_t, iteK_f, ifS_a, ifM_a, optM_a, blM_a, isBl_b, truK_s, truM_a, notM_a, andM_a, orM_a, andK_t, andK_f, andV_a, orK_f, orK_t, orV_a, notK_s, notV_a, cD_a, dropM_a, agsM_n, agsM_v, agsM_r, callG_a, ret2_s, callK_s, callEnd_a, setIx_a, ownM_a, meth_a, nextK_s, asgK_n, asgK_t, asgM_a, parM_a, forS_a, rngM_a, enumM_a, zipK_tt, zipK_ll, zipM_a, srcM_a, slM_a, partM_n, partM_s, itM_a, bodyFn_a, subD_i, mulD_i, fdivD_i, modD_i, powD_i, shrD_i, andD_i, Op.val, Op.toR, S.toR, vals, ssOf, slotsIn, ndp, putBack, pick, lentIs, outs, asgT, asgTs, D.tru, addD, lessD_i, lesseqD_i, moreD_i, moreeqD_i, ixD, lenD, absD, intF, max2D, min2D, gcdD, listF, D.seqT, D.seqL, eqD_int, negD, bitsD, atI, ixN, hb])
  rw [List.take_of_length_le (Nat.le_refl _)] at e
  unfold f_most_num m_most_num
  simp [thn_ok, thn_err, bindM_a, retM_a, seqK_n, seqK_r, seqK_b, seqK_c, seqM_a, setS_a, putM_d, putM_o, putM_s, slotM_a, opdM_a, opdK_d, opdK_s, opdK_o, datM_a, datK_d, datK_s, datK_o, resM_a, resK_d, resK_s, resK_o, retS_a, argsM_n, argsM_c, opsM_n, opsM_c, tupM_a, lstM_a, liftOp_a, app2_s, op2_a, app1_s, op1_a, appN_s, opN_a, iteK_t, iteK_f, ifS_a, ifM_a, optM_a, blM_a, isBl_b, truK_s, truM_a, notM_a, andM_a, orM_a, andK_t, andK_f, andV_a, orK_f, orK_t, orV_a, notK_s, notV_a, cD_a, dropM_a, agsM_n, agsM_v, agsM_r, callG_a, ret2_s, callK_s, callEnd_a, setIx_a, ownM_a, meth_a, nextK_s, asgK_n, asgK_t, asgM_a, parM_a, forS_a, rngM_a, enumM_a, zipK_tt, zipK_ll, zipM_a, srcM_a, slM_a, partM_n, partM_s, itM_a, bodyFn_a, subD_i, mulD_i, fdivD_i, modD_i, powD_i, shrD_i, andD_i, Op.val, Op.toR, S.toR, vals, ssOf, slotsIn, ndp, putBack, pick, lentIs, outs, asgT, asgTs, D.tru, addD, lessD_i, lesseqD_i, moreD_i, moreeqD_i, ixD, lenD, absD, intF, max2D, min2D, gcdD, listF, D.seqT, D.seqL, eqD_int, negD, bitsD, hx, srcD, e]
end Ev

set_option Elab.async false
set_option linter.all false
set_option maxRecDepth 100000
namespace Ev
open PySem PySem.Spec PyProof.Rows L2
theorem num_red {t : Int} {k : Nat} (h : k ≤ 3) : NumD (red t (2 ^ k)) := by
  obtain ⟨a, b, hb, e, _⟩ := red_nd2 t k
  exact ⟨a, b, e, by omega⟩
theorem NumD.same {d : D} (h : NumD d) (k : Nat) : SameAt (k + 2) d := by
  obtain ⟨n, k', rfl, _⟩ := h
  exact same_num k _ _
theorem same_pair {d e : D} (hd : NumD d) (he : NumD e) : f_l_same.fn [.d (.lst [d, e]), .d (.lst [d, e])] = some (.ok (.d (.bl true)) [some (.d (.lst [d, e])), some (.d (.lst [d, e]))]) := by
  rw [same_fn]
  show SameAt (39 + 1) (.lst [d, e])
  refine same_lst (n := 39) (show 2 ≤ sizeLine by decide) fun x hx => ?_
  simp only [List.mem_cons, List.not_mem_nil, or_false] at hx
  rcases hx with rfl | rfl
  · exact hd.same 37
  · exact he.same 37
def pushB : M Fl := seqM (dropM (meth 1 appF [callG f_l_num.fn [0, 1] [] [.val (op2 subD (callG f_l_take.fn [0, 1] [] [.rf 0, .val (cD (.int 21))] []) (cD (.int 10))), .val (op2 ixD (lstM [cD (.int 1), cD (.int 2), cD (.int 8)]) (callG f_l_take.fn [0, 1] [] [.rf 0, .val (cD (.int 3))] []))] []])) (retM .next)
theorem push_one {b : List D} {n : Int} (h : Bx b n) (hn : n ≤ 2 ^ 39) (xs : List D) (hx : xs.length < 100) (d : D) (x s3 s4 s5 s6 : Option S) :
    ∃ y b', NumD y ∧ Bx b' (n + 2) ∧ itM (.nm 2) d pushB [some (.own b), some (.own xs), x, s3, s4, s5, s6] = some (.ok .next [some (.own b'), some (.own (xs ++ [y])), some (.d d), s3, s4, s5, s6]) := by
  obtain ⟨r1, b1, e1, h1, l1, u1⟩ := take_spec h (by omega) (m := 21) (by decide) (by decide)
  obtain ⟨r2, b2, e2, h2, l2, u2⟩ := take_spec h1 (by omega) (m := 3) (by decide) (by decide)
  obtain ⟨d2, hd2, ha⟩ := atI_int (xs := [.int 1, .int 2, .int 8]) l2 (by simpa using u2)
  obtain ⟨k, rfl, hk⟩ : ∃ k : Nat, d2 = .int (2 ^ k) ∧ k ≤ 3 := by
    simp only [List.mem_cons, List.not_mem_nil, or_false] at hd2
    rcases hd2 with rfl | rfl | rfl
    · exact ⟨0, rfl, by omega⟩
    · exact ⟨1, rfl, by omega⟩
    · exact ⟨3, rfl, by omega⟩
  have hl := l_num_spec (r1 - 10) k (by omega)
  have hz : xs.length < sizeLine := Nat.lt_of_lt_of_le hx (by decide)
  refine ⟨red (r1 - 10) (2 ^ k), b2, num_red hk, by exact h2.mono (by omega), ?_⟩
  unfold pushB
  simp [thn_ok, thn_err, bindM_a, retM_a, seqK_n, seqK_r, seqK_b, seqK_c, seqM_a, setS_a, putM_d, putM_o, putM_s, slotM_a, opdM_a, opdK_d, opdK_s, opdK_o, datM_a, datK_d, datK_s, datK_o, resM_a, resK_d, resK_s, resK_o, retS_a, argsM_n, argsM_c, opsM_n, opsM_c, tupM_a, lstM_a, liftOp_a, app2_s, op2_a, app1_s, op1_a, appN_s, opN_a, iteK_t, iteK_f, ifS_a, ifM_a, optM_a, blM_a, isBl_b, truK_s, truM_a, notM_a, andM_a, orM_a, andK_t, andK_f, andV_a, orK_f, orK_t, orV_a, notK_s, notV_a, cD_a, dropM_a, agsM_n, agsM_v, agsM_r, callG_a, ret2_s, callK_s, callEnd_a, setIx_a, ownM_a, meth_a, nextK_s, asgK_n, asgK_t, asgM_a, parM_a, forS_a, rngM_a, enumM_a, zipK_tt, zipK_ll, zipM_a, srcM_a, slM_a, partM_n, partM_s, itM_a, bodyFn_a, subD_i, mulD_i, fdivD_i, modD_i, powD_i, shrD_i, andD_i, Op.val, Op.toR, S.toR, vals, ssOf, slotsIn, ndp, putBack, pick, lentIs, outs, asgT, asgTs, D.tru, addD, lessD_i, lesseqD_i, moreD_i, moreeqD_i, ixD, lenD, absD, intF, max2D, min2D, gcdD, listF, D.seqT, D.seqL, eqD_int, negD, bitsD, e1, e2, ha, hl, appF, hz]
def pickB : M Fl := seqM (setS 4 (ifM (truM (callG f_l_below.fn [0, 1] [] [.val (slotM 3), .val (slotM 4)] [])) (slotM 3) (slotM 4))) (seqM (setS 5 (ifM (truM (callG f_l_below.fn [0, 1] [] [.val (slotM 5), .val (slotM 3)] [])) (slotM 3) (slotM 5))) (retM .next))
theorem pick_one {a c d : D} (ha : NumD a) (hc : NumD c) (hd : NumD d) (s0 s1 s2 s3 s6 : Option S) :
    itM (.nm 3) d pickB [s0, s1, s2, s3, some (.d a), some (.d c), s6] = some (.ok .next [s0, s1, s2, some (.d d), some (.d (lowF a d)), some (.d (highF c d)), s6]) := by
  have h1 := (below_nd hd ha).1
  have h2 := (below_nd hc hd).1
  unfold pickB lowF highF
  cases w1 : blw d a with
  | true =>
    cases w2 : blw c d with
    | true => rw [w1] at h1; rw [w2] at h2; simp [thn_ok, thn_err, bindM_a, retM_a, seqK_n, seqK_r, seqK_b, seqK_c, seqM_a, setS_a, putM_d, putM_o, putM_s, slotM_a, opdM_a, opdK_d, opdK_s, opdK_o, datM_a, datK_d, datK_s, datK_o, resM_a, resK_d, resK_s, resK_o, retS_a, argsM_n, argsM_c, opsM_n, opsM_c, tupM_a, lstM_a, liftOp_a, app2_s, op2_a, app1_s, op1_a, appN_s, opN_a, iteK_t, iteK_f, ifS_a, ifM_a, optM_a, blM_a, isBl_b, truK_s, truM_a, notM_a, andM_a, orM_a, andK_t, andK_f, andV_a, orK_f, orK_t, orV_a, notK_s, notV_a, cD_a, dropM_a, agsM_n, agsM_v, agsM_r, callG_a, ret2_s, callK_s, callEnd_a, setIx_a, ownM_a, meth_a, nextK_s, asgK_n, asgK_t, asgM_a, parM_a, forS_a, rngM_a, enumM_a, zipK_tt, zipK_ll, zipM_a, srcM_a, slM_a, partM_n, partM_s, itM_a, bodyFn_a, subD_i, mulD_i, fdivD_i, modD_i, powD_i, shrD_i, andD_i, Op.val, Op.toR, S.toR, vals, ssOf, slotsIn, ndp, putBack, pick, lentIs, outs, asgT, asgTs, D.tru, addD, lessD_i, lesseqD_i, moreD_i, moreeqD_i, ixD, lenD, absD, intF, max2D, min2D, gcdD, listF, D.seqT, D.seqL, eqD_int, negD, bitsD, atI, ixN, h1, h2]
    | false => rw [w1] at h1; rw [w2] at h2; simp [thn_ok, thn_err, bindM_a, retM_a, seqK_n, seqK_r, seqK_b, seqK_c, seqM_a, setS_a, putM_d, putM_o, putM_s, slotM_a, opdM_a, opdK_d, opdK_s, opdK_o, datM_a, datK_d, datK_s, datK_o, resM_a, resK_d, resK_s, resK_o, retS_a, argsM_n, argsM_c, opsM_n, opsM_c, tupM_a, lstM_a, liftOp_a, app2_s, op2_a, app1_s, op1_a, appN_s, opN_a, iteK_t, iteK_f, ifS_a, ifM_a, optM_a, blM_a, isBl_b, truK_s, truM_a, notM_a, andM_a, orM_a, andK_t, andK_f, andV_a, orK_f, orK_t, orV_a, notK_s, notV_a, cD_a, dropM_a, agsM_n, agsM_v, agsM_r, callG_a, ret2_s, callK_s, callEnd_a, setIx_a, ownM_a, meth_a, nextK_s, asgK_n, asgK_t, asgM_a, parM_a, forS_a, rngM_a, enumM_a, zipK_tt, zipK_ll, zipM_a, srcM_a, slM_a, partM_n, partM_s, itM_a, bodyFn_a, subD_i, mulD_i, fdivD_i, modD_i, powD_i, shrD_i, andD_i, Op.val, Op.toR, S.toR, vals, ssOf, slotsIn, ndp, putBack, pick, lentIs, outs, asgT, asgTs, D.tru, addD, lessD_i, lesseqD_i, moreD_i, moreeqD_i, ixD, lenD, absD, intF, max2D, min2D, gcdD, listF, D.seqT, D.seqL, eqD_int, negD, bitsD, atI, ixN, h1, h2]
  | false =>
    cases w2 : blw c d with
    | true => rw [w1] at h1; rw [w2] at h2; simp [thn_ok, thn_err, bindM_a, retM_a, seqK_n, seqK_r, seqK_b, seqK_c, seqM_a, setS_a, putM_d, putM_o, putM_s, slotM_a, opdM_a, opdK_d, opdK_s, opdK_o, datM_a, datK_d, datK_s, datK_o, resM_a, resK_d, resK_s, resK_o, retS_a, argsM_n, argsM_c, opsM_n, opsM_c, tupM_a, lstM_a, liftOp_a, app2_s, op2_a, app1_s, op1_a, appN_s, opN_a, iteK_t, iteK_f, ifS_a, ifM_a, optM_a, blM_a, isBl_b, truK_s, truM_a, notM_a, andM_a, orM_a, andK_t, andK_f, andV_a, orK_f, orK_t, orV_a, notK_s, notV_a, cD_a, dropM_a, agsM_n, agsM_v, agsM_r, callG_a, ret2_s, callK_s, callEnd_a, setIx_a, ownM_a, meth_a, nextK_s, asgK_n, asgK_t, asgM_a, parM_a, forS_a, rngM_a, enumM_a, zipK_tt, zipK_ll, zipM_a, srcM_a, slM_a, partM_n, partM_s, itM_a, bodyFn_a, subD_i, mulD_i, fdivD_i, modD_i, powD_i, shrD_i, andD_i, Op.val, Op.toR, S.toR, vals, ssOf, slotsIn, ndp, putBack, pick, lentIs, outs, asgT, asgTs, D.tru, addD, lessD_i, lesseqD_i, moreD_i, moreeqD_i, ixD, lenD, absD, intF, max2D, min2D, gcdD, listF, D.seqT, D.seqL, eqD_int, negD, bitsD, atI, ixN, h1, h2]
    | false => rw [w1] at h1; rw [w2] at h2; simp [thn_ok, thn_err, bindM_a, retM_a, seqK_n, seqK_r, seqK_b, seqK_c, seqM_a, setS_a, putM_d, putM_o, putM_s, slotM_a, opdM_a, opdK_d, opdK_s, opdK_o, datM_a, datK_d, datK_s, datK_o, resM_a, resK_d, resK_s, resK_o, retS_a, argsM_n, argsM_c, opsM_n, opsM_c, tupM_a, lstM_a, liftOp_a, app2_s, op2_a, app1_s, op1_a, appN_s, opN_a, iteK_t, iteK_f, ifS_a, ifM_a, optM_a, blM_a, isBl_b, truK_s, truM_a, notM_a, andM_a, orM_a, andK_t, andK_f, andV_a, orK_f, orK_t, orV_a, notK_s, notV_a, cD_a, dropM_a, agsM_n, agsM_v, agsM_r, callG_a, ret2_s, callK_s, callEnd_a, setIx_a, ownM_a, meth_a, nextK_s, asgK_n, asgK_t, asgM_a, parM_a, forS_a, rngM_a, enumM_a, zipK_tt, zipK_ll, zipM_a, srcM_a, slM_a, partM_n, partM_s, itM_a, bodyFn_a, subD_i, mulD_i, fdivD_i, modD_i, powD_i, shrD_i, andD_i, Op.val, Op.toR, S.toR, vals, ssOf, slotsIn, ndp, putBack, pick, lentIs, outs, asgT, asgTs, D.tru, addD, lessD_i, lesseqD_i, moreD_i, moreeqD_i, ixD, lenD, absD, intF, max2D, min2D, gcdD, listF, D.seqT, D.seqL, eqD_int, negD, bitsD, atI, ixN, h1, h2]
theorem lists_right_spec {b : List D} {n : Int} (h : Bx b n) (hn : n ≤ 2 ^ 38) : ∃ b', f_l_lists_right.fn [.own b] = some (.ok (.d (.bl true)) [some (.own b')]) ∧ Bx b' (n + 13) := by
  obtain ⟨r, b1, e1, h1, l1, u1⟩ := take_spec h (by omega) (m := 6) (by decide) (by decide)
  obtain ⟨δ1, g1, xs, b2, x, rfl, hlen, hnum, h2⟩ := forM0 (T := .nm 2) (body := pushB) (fun i δ => ∃ xs b2 x, δ = [some (.own b2), some (.own xs), x, none, none, none, none] ∧ xs.length = i ∧ (∀ d ∈ xs, NumD d) ∧ Bx b2 (n + 1 + 2 * i)) (rngD 0 (1 + r).toNat) [some (.own b1), some (.own []), none, none, none, none, none]
    ⟨[], b1, none, rfl, rfl, by simp, h1.mono (by omega)⟩ (by
    rintro i d δ hd ⟨xs, b2, x, rfl, hlen, hnum, h2⟩
    obtain ⟨rfl, hi⟩ := rngD_at hd
    obtain ⟨y, b3, hy, h3, e⟩ := push_one h2 (by omega) xs (by omega) (.int (0 + (i : Int))) x none none none none
    refine ⟨_, e, xs ++ [y], b3, _, rfl, by simp [hlen], ?_, h3.mono (by omega)⟩
    intro d hd
    rcases List.mem_append.mp hd with q | q
    · exact hnum d q
    · simp at q; subst q; exact hy)
  rw [rngD_len] at hlen h2
  obtain ⟨x0, hx0⟩ : ∃ x0, xs[0]? = some x0 := ⟨xs[0]'(by omega), List.getElem?_eq_getElem (by omega)⟩
  have ha : atI xs 0 = some x0 := atI_nat (j := 0) rfl hx0
  have nx0 := hnum x0 (List.mem_of_getElem? hx0)
  obtain ⟨δ2, g2, y, rfl⟩ := forM0 (T := .nm 3) (body := pickB) (fun i δ => ∃ y, δ = [some (.own b2), some (.d (.lst xs)), x, y, some (.d ((xs.take i).foldl lowF x0)), some (.d ((xs.take i).foldl highF x0)), some (.d (.lst xs))]) xs [some (.own b2), some (.d (.lst xs)), x, none, some (.d x0), some (.d x0), some (.d (.lst xs))] ⟨none, rfl⟩ (by
    rintro i d δ hd ⟨y, rfl⟩
    have e := pick_one (fold_num lowF_or (xs.take i) x0 nx0 (fun d hd => hnum d (List.mem_of_mem_take hd))) (fold_num highF_or (xs.take i) x0 nx0 (fun d hd => hnum d (List.mem_of_mem_take hd))) (hnum d (List.mem_of_getElem? hd)) (some (.own b2)) (some (.d (.lst xs))) x y (some (.d (.lst xs)))
    refine ⟨_, e, some (.d d), ?_⟩
    rw [foldl_take hd, foldl_take hd])
  rw [List.take_of_length_le (Nat.le_refl _)] at g2
  have q1 := least_spec hnum ha nx0
  have q2 := most_spec hnum ha nx0
  have q3 := same_pair (fold_num lowF_or xs x0 nx0 hnum) (fold_num highF_or xs x0 nx0 hnum)
  have q4 := eq_nums hnum
  have hr := fun δ => rngK_n δ (1 + r) (1 + r).toNat (by omega) (by omega)
  refine ⟨b2, ?_, h2.mono (by omega)⟩
  unfold f_l_lists_right m_l_lists_right
  unfold pushB at g1
  unfold pickB at g2
  generalize (1 + r).toNat = rr at *
  simp [thn_ok, thn_err, bindM_a, retM_a, seqK_n, seqK_r, seqK_b, seqK_c, seqM_a, setS_a, putM_d, putM_o, putM_s, slotM_a, opdM_a, opdK_d, opdK_s, opdK_o, datM_a, datK_d, datK_s, datK_o, resM_a, resK_d, resK_s, resK_o, retS_a, argsM_n, argsM_c, opsM_n, opsM_c, tupM_a, lstM_a, liftOp_a, app2_s, op2_a, app1_s, op1_a, appN_s, opN_a, iteK_t, iteK_f, ifS_a, ifM_a, optM_a, blM_a, isBl_b, truK_s, truM_a, notM_a, andM_a, orM_a, andK_t, andK_f, andV_a, orK_f, orK_t, orV_a, notK_s, notV_a, cD_a, dropM_a, agsM_n, agsM_v, agsM_r, callG_a, ret2_s, callK_s, callEnd_a, setIx_a, ownM_a, meth_a, nextK_s, asgK_n, asgK_t, asgM_a, parM_a, forS_a, rngM_a, enumM_a, zipK_tt, zipK_ll, zipM_a, srcM_a, slM_a, partM_n, partM_s, itM_a, bodyFn_a, subD_i, mulD_i, fdivD_i, modD_i, powD_i, shrD_i, andD_i, Op.val, Op.toR, S.toR, vals, ssOf, slotsIn, ndp, putBack, pick, lentIs, outs, asgT, asgTs, D.tru, addD, lessD_i, lesseqD_i, moreD_i, moreeqD_i, ixD, lenD, absD, intF, max2D, min2D, gcdD, listF, D.seqT, D.seqL, eqD_int, negD, bitsD, e1, hr, g1, ha, g2, q1, q2, q3, q4, srcD]
end Ev

set_option Elab.async false
set_option linter.all false
set_option maxRecDepth 100000
namespace Ev
open PySem PySem.Spec PyProof.Rows L2
def turnB : M D := datM (andV (callG f_l_pair_right.fn [0] [] [.rf 3] []) (callG f_l_lists_right.fn [0] [] [.rf 3] []))
theorem turn_one {b : List D} {n : Int} (h : Bx b n) (hn : n ≤ 2 ^ 37) (d : D) (s0 s1 s2 x : Option S) : ∃ b', Bx b' (n + 27) ∧ itM (.nm 4) d turnB [s0, s1, s2, some (.own b), x] = some (.ok (.bl true) [s0, s1, s2, some (.own b'), some (.d d)]) := by
  obtain ⟨b1, e1, h1⟩ := pair_right_spec h (by omega)
  obtain ⟨b2, e2, h2⟩ := lists_right_spec h1 (by omega)
  refine ⟨b2, h2.mono (by omega), ?_⟩
  unfold turnB
  simp [thn_ok, thn_err, bindM_a, retM_a, seqK_n, seqK_r, seqK_b, seqK_c, seqM_a, setS_a, putM_d, putM_o, putM_s, slotM_a, opdM_a, opdK_d, opdK_s, opdK_o, datM_a, datK_d, datK_s, datK_o, resM_a, resK_d, resK_s, resK_o, retS_a, argsM_n, argsM_c, opsM_n, opsM_c, tupM_a, lstM_a, liftOp_a, app2_s, op2_a, app1_s, op1_a, appN_s, opN_a, iteK_t, iteK_f, ifS_a, ifM_a, optM_a, blM_a, isBl_b, truK_s, truM_a, notM_a, andM_a, orM_a, andK_t, andK_f, andV_a, orK_f, orK_t, orV_a, notK_s, notV_a, cD_a, dropM_a, agsM_n, agsM_v, agsM_r, callG_a, ret2_s, callK_s, callEnd_a, setIx_a, ownM_a, meth_a, nextK_s, asgK_n, asgK_t, asgM_a, parM_a, forS_a, rngM_a, enumM_a, zipK_tt, zipK_ll, zipM_a, srcM_a, slM_a, partM_n, partM_s, itM_a, bodyFn_a, subD_i, mulD_i, fdivD_i, modD_i, powD_i, shrD_i, andD_i, Op.val, Op.toR, S.toR, vals, ssOf, slotsIn, ndp, putBack, pick, lentIs, outs, asgT, asgTs, D.tru, addD, lessD_i, lesseqD_i, moreD_i, moreeqD_i, ixD, lenD, absD, intF, max2D, min2D, gcdD, listF, D.seqT, D.seqL, eqD_int, negD, bitsD, atI, ixN, e1, e2]
theorem turns {b : List D} (h : Bx b 0) (s0 s1 s2 : Option S) : ∃ b', compM [4] (.nm 4) (rngM (cD (.int 12))) (retM true) turnB [s0, s1, s2, some (.own b), none] = some (.ok (.own (List.replicate 12 (.bl true))) [s0, s1, s2, some (.own b'), none]) := by
  have hr := fun δ => rngK_n δ 12 12 rfl (by decide)
  obtain ⟨out, δe, e, l, rfl, b', rfl, _⟩ := compM_inv (vs := [4]) (T := .nm 4) (te := turnB) (src := rngM (cD (.int 12))) (δ := [s0, s1, s2, some (.own b), none]) (δs := [s0, s1, s2, some (.own b), none]) (ds := rngD 0 12) (by simp [thn_ok, thn_err, bindM_a, retM_a, seqK_n, seqK_r, seqK_b, seqK_c, seqM_a, setS_a, putM_d, putM_o, putM_s, slotM_a, opdM_a, opdK_d, opdK_s, opdK_o, datM_a, datK_d, datK_s, datK_o, resM_a, resK_d, resK_s, resK_o, retS_a, argsM_n, argsM_c, opsM_n, opsM_c, tupM_a, lstM_a, liftOp_a, app2_s, op2_a, app1_s, op1_a, appN_s, opN_a, iteK_t, iteK_f, ifS_a, ifM_a, optM_a, blM_a, isBl_b, truK_s, truM_a, notM_a, andM_a, orM_a, andK_t, andK_f, andV_a, orK_f, orK_t, orV_a, notK_s, notV_a, cD_a, dropM_a, agsM_n, agsM_v, agsM_r, callG_a, ret2_s, callK_s, callEnd_a, setIx_a, ownM_a, meth_a, nextK_s, asgK_n, asgK_t, asgM_a, parM_a, forS_a, rngM_a, enumM_a, zipK_tt, zipK_ll, zipM_a, srcM_a, slM_a, partM_n, partM_s, itM_a, bodyFn_a, subD_i, mulD_i, fdivD_i, modD_i, powD_i, shrD_i, andD_i, Op.val, Op.toR, S.toR, vals, ssOf, slotsIn, ndp, putBack, pick, lentIs, outs, asgT, asgTs, D.tru, addD, lessD_i, lesseqD_i, moreD_i, moreeqD_i, ixD, lenD, absD, intF, max2D, min2D, gcdD, listF, D.seqT, D.seqL, eqD_int, negD, bitsD, atI, ixN, hr]) (by simp [noOwn]) (fun i acc δ => acc = List.replicate i (.bl true) ∧ ∃ b', δ = [s0, s1, s2, some (.own b'), none] ∧ Bx b' (27 * i)) ⟨rfl, b, by simp [wipeD], h.mono (by omega)⟩ (by rw [rngD_len]; decide) (by
    rintro i x acc δ hx ⟨rfl, b', rfl, hb⟩
    obtain ⟨_, hi⟩ := rngD_at hx
    obtain ⟨b2, h2, e⟩ := turn_one hb (by omega) x s0 s1 s2 none
    exact ⟨_, _, e, by rw [List.replicate_succ'], b2, by simp [wipeD], h2.mono (by omega)⟩)
  refine ⟨b', ?_⟩
  rw [e, rngD_len]
  simp [backD]
def lawB : M Fl := seqM (setS 3 (callG f_l_dip.fn [0, 1] [] [.val (slotM 1), .val (slotM 2)] [])) (seqM (ifS (notM (truM (opN (boolsD (·.all id)) [compM [4] (.nm 4) (rngM (cD (.int 12))) (retM true) turnB]))) (seqM (retS (cD (.bl false))) (retM .next)) (retM .next)) (retM .next))
theorem law_true : TrueFn f_law.fn := by
  intro ns hl _
  obtain ⟨ys, hy, e1⟩ := folded_spec ns hl
  obtain ⟨δ', g, s1, s2, s3, _, rfl⟩ := forM0 (T := .nm 2) (body := lawB) (fun _ δ => ∃ s1 s2 s3, (s1 = some (.own (ys.map D.int)) ∨ s1 = some (.d (.lst (ys.map D.int)))) ∧ δ = [some (.d (.scr (ns.map D.int))), s1, s2, s3, none]) (rngD 0 (1 + ys.length)) [some (.d (.scr (ns.map D.int))), some (.own (ys.map D.int)), none, none, none] ⟨_, none, none, .inl rfl, rfl⟩ (by
    rintro i d δ hd ⟨s1, s2, s3, hs, rfl⟩
    obtain ⟨rfl, hi⟩ := rngD_at hd
    obtain ⟨b, hb, e2⟩ := dip_spec ys hy i (by omega)
    obtain ⟨b', e3⟩ := turns hb (some (.d (.scr (ns.map D.int)))) (some (.d (.lst (ys.map D.int)))) (some (.d (.int i)))
    refine ⟨_, ?_, some (.d (.lst (ys.map D.int))), some (.d (.int i)), some (.own b'), .inr rfl, rfl⟩
    unfold lawB
    rw [Int.zero_add]
    rcases hs with rfl | rfl
    · simp [thn_ok, thn_err, bindM_a, retM_a, seqK_n, seqK_r, seqK_b, seqK_c, seqM_a, setS_a, putM_d, putM_o, putM_s, slotM_a, opdM_a, opdK_d, opdK_s, opdK_o, datM_a, datK_d, datK_s, datK_o, resM_a, resK_d, resK_s, resK_o, retS_a, argsM_n, argsM_c, opsM_n, opsM_c, tupM_a, lstM_a, liftOp_a, app2_s, op2_a, app1_s, op1_a, appN_s, opN_a, iteK_t, iteK_f, ifS_a, ifM_a, optM_a, blM_a, isBl_b, truK_s, truM_a, notM_a, andM_a, orM_a, andK_t, andK_f, andV_a, orK_f, orK_t, orV_a, notK_s, notV_a, cD_a, dropM_a, agsM_n, agsM_v, agsM_r, callG_a, ret2_s, callK_s, callEnd_a, setIx_a, ownM_a, meth_a, nextK_s, asgK_n, asgK_t, asgM_a, parM_a, forS_a, rngM_a, enumM_a, zipK_tt, zipK_ll, zipM_a, srcM_a, slM_a, partM_n, partM_s, itM_a, bodyFn_a, subD_i, mulD_i, fdivD_i, modD_i, powD_i, shrD_i, andD_i, Op.val, Op.toR, S.toR, vals, ssOf, slotsIn, ndp, putBack, pick, lentIs, outs, asgT, asgTs, D.tru, addD, lessD_i, lesseqD_i, moreD_i, moreeqD_i, ixD, lenD, absD, intF, max2D, min2D, gcdD, listF, D.seqT, D.seqL, eqD_int, negD, bitsD, atI, ixN, e2, e3, boolsD, bls]
    · simp [thn_ok, thn_err, bindM_a, retM_a, seqK_n, seqK_r, seqK_b, seqK_c, seqM_a, setS_a, putM_d, putM_o, putM_s, slotM_a, opdM_a, opdK_d, opdK_s, opdK_o, datM_a, datK_d, datK_s, datK_o, resM_a, resK_d, resK_s, resK_o, retS_a, argsM_n, argsM_c, opsM_n, opsM_c, tupM_a, lstM_a, liftOp_a, app2_s, op2_a, app1_s, op1_a, appN_s, opN_a, iteK_t, iteK_f, ifS_a, ifM_a, optM_a, blM_a, isBl_b, truK_s, truM_a, notM_a, andM_a, orM_a, andK_t, andK_f, andV_a, orK_f, orK_t, orV_a, notK_s, notV_a, cD_a, dropM_a, agsM_n, agsM_v, agsM_r, callG_a, ret2_s, callK_s, callEnd_a, setIx_a, ownM_a, meth_a, nextK_s, asgK_n, asgK_t, asgM_a, parM_a, forS_a, rngM_a, enumM_a, zipK_tt, zipK_ll, zipM_a, srcM_a, slM_a, partM_n, partM_s, itM_a, bodyFn_a, subD_i, mulD_i, fdivD_i, modD_i, powD_i, shrD_i, andD_i, Op.val, Op.toR, S.toR, vals, ssOf, slotsIn, ndp, putBack, pick, lentIs, outs, asgT, asgTs, D.tru, addD, lessD_i, lesseqD_i, moreD_i, moreeqD_i, ixD, lenD, absD, intF, max2D, min2D, gcdD, listF, D.seqT, D.seqL, eqD_int, negD, bitsD, atI, ixN, e2, e3, boolsD, bls])
  have hr := fun δ => rngK_n δ (1 + ys.length) (1 + ys.length) (by omega) (by omega)
  refine ⟨[some (.d (.scr (ns.map D.int)))], ?_⟩
  unfold lawB turnB at g
  unfold f_law m_law
  simp [thn_ok, thn_err, bindM_a, retM_a, seqK_n, seqK_r, seqK_b, seqK_c, seqM_a, setS_a, putM_d, putM_o, putM_s, slotM_a, opdM_a, opdK_d, opdK_s, opdK_o, datM_a, datK_d, datK_s, datK_o, resM_a, resK_d, resK_s, resK_o, retS_a, argsM_n, argsM_c, opsM_n, opsM_c, tupM_a, lstM_a, liftOp_a, app2_s, op2_a, app1_s, op1_a, appN_s, opN_a, iteK_t, iteK_f, ifS_a, ifM_a, optM_a, blM_a, isBl_b, truK_s, truM_a, notM_a, andM_a, orM_a, andK_t, andK_f, andV_a, orK_f, orK_t, orV_a, notK_s, notV_a, cD_a, dropM_a, agsM_n, agsM_v, agsM_r, callG_a, ret2_s, callK_s, callEnd_a, setIx_a, ownM_a, meth_a, nextK_s, asgK_n, asgK_t, asgM_a, parM_a, forS_a, rngM_a, enumM_a, zipK_tt, zipK_ll, zipM_a, srcM_a, slM_a, partM_n, partM_s, itM_a, bodyFn_a, subD_i, mulD_i, fdivD_i, modD_i, powD_i, shrD_i, andD_i, Op.val, Op.toR, S.toR, vals, ssOf, slotsIn, ndp, putBack, pick, lentIs, outs, asgT, asgTs, D.tru, addD, lessD_i, lesseqD_i, moreD_i, moreeqD_i, ixD, lenD, absD, intF, max2D, min2D, gcdD, listF, D.seqT, D.seqL, eqD_int, negD, bitsD, e1, hr, g]
end Ev

set_option Elab.async false
set_option linter.all false
set_option maxRecDepth 100000
open PySem PySem.W PyProof.Rows in
set_option maxRecDepth 100000 in
set_option maxHeartbeats 0 in
theorem PySem.Challenge.cw_brookworks_k02_numbers_reckoned_holds : PySem.Challenge.rw_brookworks_k02_numbers_reckoned.Holds := by
  w_on; o_law; k_head; (case hw => w_witness2)
  k_fill
  refine Ev.walk (l := PySem.Challenge.rw_brookworks_k02_numbers_reckoned) (k := 44) (x := "_law_script") rfl rfl ⟨rfl, by decide, by decide⟩ (fun w h Y => PySem.W.kIn_of Y) ?F
  case F =>
    intro w mg fa h KX G hmg
    obtain ⟨fd, h1, h2⟩ := Ev.ok_law (P := PySem.Challenge.rw_brookworks_k02_numbers_reckoned.prog) (w := w) KX G (by unfold Ev.SaysE; kernel_rfl) hmg
    exact ⟨fd, h1, fun base => (h2 base).imp (Ev.law_sp (g := ⟨_, mg⟩) Ev.law_true)⟩
