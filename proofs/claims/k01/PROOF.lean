import PyProof.Rows.All
import Wide.All
import OpenK.AllK
import Wide.FinOn
import HandS.ForMost
import HandS.Exc
import HandS.IsInst
import HandS.Dict
import HandS.More
import HandS.ExcInit
import HandS.Wide
import HandS.WideBits
import HandS.Flow
import HandS.Deep
import HandS.Zip
import HandS.Gcd
import HandS.TupAny
import HandS.TupLe
import HandS.Text
import HandS.SortInts
import HandS.RaiseMore
import HandS.Style
import HandS.Iter
import HandS.CallSlots
import HandS.WordsExc
import HandS.StrMore
import HandS.WordsDict
import PyProof.ReprRoads
import KE.GoesNew
import KE.GoesEnumKw
import HandS.SortKw
import HandS.Set
import HandS.SetFor
import HandS.Strs
import HandS.ExcField
import KE.KExcInit
import HandS.Defaults
import KE.KExcIs
import PyProof.ListNew
import PyProof.CollectWalk
import KE.GoesMore
import HandS.MapObj
import KE.KDictZip
import KE.GoesZip
import HandS.ExcValue
import HandS.Head0
import HandS.Head1
import HandS.Head2
import HandS.HeadEnd
import HandS.HeadHook1
import HandS.HeadHook2
import HandS.HeadHook3
import HandS.EndBits
import PySem.Challenge.RW_brookworks_k01_refusals_and_limits
set_option Elab.async false
set_option linter.all false
set_option maxRecDepth 100000
namespace Ev
open PySem PySem.Spec PyProof.Rows L2

/-! ### data -/
inductive D where
  | non | bl (b : Bool) | int (i : Int) | str (x : Str) | ty (n : String) | cls (n : Str)
  | tup (xs : List D) | lst (xs : List D) | scr (xs : List D)
  | dct (ks : List Key) (vs : List D) | exc (c : Str) (fn : List Str) (fv : List D)
  /-- the n-th shared list -/
  | loc (n : Nat)
/-- the mark of the n-th shared list in the frozen heap -/
def mkr (n : Nat) : HO := .rng n n
def isMk : HO → Bool
  | .rng _ _ => true
  | _ => false
theorem mkr_inj {n m : Nat} (h : mkr n = mkr m) : n = m := by
  unfold mkr at h
  injection h with h1 h2
  exact Int.ofNat.inj h1
/-- what is frozen stands in the heap; what is marked stands there, whatever it is -/
structure Fit (F H : Hp) : Prop where
  rd : ∀ a o, F a = some o → isMk o = false → H a = some o
  lv : ∀ a, F a ≠ none → H a ≠ none
theorem Fit.of {F H : Hp} (fh : Fit F H) {a : Addr} {o : HO} (h : F a = some o) (m : isMk o = false := by rfl) : H a = some o := fh.rd a o h m
theorem Fit.free {F H : Hp} (fh : Fit F H) {a : Addr} (h : H a = none) : F a = none := by
  cases e : F a with
  | none => rfl
  | some o => exact absurd h (fh.lv a (by rw [e]; exact fun z => nomatch z))
theorem Fit.up {F H H' : Hp} (fh : Fit F H) (hh : Same H H') : Fit F H' := ⟨fun a o h m => hh _ _ (fh.rd a o h m), fun a h => by
  cases e : H a with
  | none => exact absurd e (fh.lv a h)
  | some o => rw [hh _ _ e]; exact fun z => nomatch z⟩
theorem Fit.dn {F F' H : Hp} (ff : Same F F') (fh : Fit F' H) : Fit F H := ⟨fun a o h m => fh.rd a o (ff _ _ h) m, fun a h => by
  cases e : F a with
  | none => exact absurd e h
  | some o => exact fh.lv a (by rw [ff _ _ e]; exact fun z => nomatch z)⟩

structure Gx where
  K : PySem.W.Frag
  mg : Str → Option Value
  w : World
/-- a dict of the module whose keys are texts -/
def KDc (K : PySem.W.Frag) (w : World) (a : Addr) (kvs : List (Key × V)) : Prop :=
  ∃ es n, KDict K w a es n ∧ ∀ z : Str, ∃ r : Option Value, PySem.W.nsIn K a z = some r ∧ RelO (valV kvs (.inr z)) r
/-- a dict that stands for ever -/
def DcQ (g : Gx) (F : Hp) (a : Addr) (kvs : List (Key × V)) : Prop := F a = some (.dK kvs) ∨ KDc g.K g.w a kvs

/-- an exception that is a value: its class, its dict -/
def exv (a C : Addr) (d : Option Addr) : HO := .ext fun h => ∃ (oe : Obj) (vs : Array Value), h.get? a = some oe ∧ Zc (.ref C) d oe ∧ oe.data = .fields vs
/-- its fields -/
def ExD (F : Hp) (d : Option Addr) (fn : List Str) (vs : List V) : Prop := match d with
  | none => fn = []
  | some dd => F dd = some (exd dd (fn.zip vs))
mutual
inductive Rp (g : Gx) (F : Hp) : V → D → Prop
  | non : Rp g F .non .non
  | bl (b : Bool) : Rp g F (.bl b) (.bl b)
  | int (i : Int) : Rp g F (.int i) (.int i)
  | str (x : Str) : Rp g F (.str x) (.str x)
  | ty (n : String) : Rp g F (.ty n) (.ty n)
  | cls {n : Str} {a : Addr} : g.mg n = some (.ref a) → Rp g F (.ref a) (.cls n)
  | tup {a : Addr} {vs : List V} {xs : List D} : SqT g.K F a vs → RpA g F vs xs → Rp g F (.ref a) (.tup xs)
  | lst {a : Addr} {vs : List V} {xs : List D} : F a = some (.lst vs) → RpA g F vs xs → Rp g F (.ref a) (.lst xs)
  | scr {a : Addr} {vs : List V} {xs : List D} : SqL g.K F a vs → RpA g F vs xs → Rp g F (.ref a) (.scr xs)
  | dct {a : Addr} {kvs : List (Key × V)} {ks : List Key} {xs : List D} : DcQ g F a kvs → kvs.map (·.1) = ks → RpA g F (kvs.map (·.2)) xs → Rp g F (.ref a) (.dct ks xs)
  | loc {a : Addr} {n : Nat} : F a = some (mkr n) → Rp g F (.ref a) (.loc n)
  | exc {a C : Addr} {d : Option Addr} {c : Str} {fn : List Str} {vs : List V} {fv : List D} : F a = some (exv a C d) → g.mg c = some (.ref C) → ExD F d fn vs → RpA g F vs fv → fn.length = fv.length → Rp g F (.ref a) (.exc c fn fv)
inductive RpA (g : Gx) (F : Hp) : List V → List D → Prop
  | nil : RpA g F [] []
  | cons {v : V} {vs : List V} {d : D} {ds : List D} : Rp g F v d → RpA g F vs ds → RpA g F (v :: vs) (d :: ds)
end

section
variable {g : Gx} {F F' : Hp}
theorem sqT_mono {K : PySem.W.Frag} {a : Addr} {xs : List V} (e : Same F F') (h : SqT K F a xs) : SqT K F' a xs := by
  rcases h with (h | ⟨o, h⟩) | h
  · exact .inl (.inl (e _ _ h))
  · exact .inl (.inr ⟨o, e _ _ h⟩)
  · exact .inr h
theorem ExD.mono {d : Option Addr} {fn : List Str} {vs : List V} (e : Same F F') (h : ExD F d fn vs) : ExD F' d fn vs := by
  cases d with
  | none => exact h
  | some dd => exact e _ _ h
mutual
theorem Rp.mono (e' : Same F F') : ∀ (d : D) (v : V), Rp g F v d → Rp g F' v d
  | .non, _, h => by cases h; exact .non
  | .bl b, _, h => by cases h; exact .bl b
  | .int i, _, h => by cases h; exact .int i
  | .str x, _, h => by cases h; exact .str x
  | .ty n, _, h => by cases h; exact .ty n
  | .cls n, _, h => by cases h with | cls q => exact .cls q
  | .tup xs, _, h => by cases h with | tup q r => exact .tup (sqT_mono e' q) (RpA.mono e' xs _ r)
  | .lst xs, _, h => by cases h with | lst q r => exact .lst (e' _ _ q) (RpA.mono e' xs _ r)
  | .scr xs, _, h => by cases h with | scr q r => exact .scr (e'.seq q) (RpA.mono e' xs _ r)
  | .dct _ _, _, h => by cases h with | dct q e r => exact .dct (q.imp (fun z => e' _ _ z) id) e (RpA.mono e' _ _ r)
  | .exc _ _ fv, _, h => by cases h with | exc q m x r l => exact .exc (e' _ _ q) m (x.mono e') (RpA.mono e' fv _ r) l
  | .loc n, _, h => by cases h with | loc q => exact .loc (e' _ _ q)
theorem RpA.mono (e' : Same F F') : ∀ (ds : List D) (vs : List V), RpA g F vs ds → RpA g F' vs ds
  | [], _, h => by cases h; exact .nil
  | d :: ds, _, h => by cases h with | cons a b => exact .cons (Rp.mono e' d _ a) (RpA.mono e' ds _ b)
end
theorem RpA.length : ∀ {vs : List V} {ds : List D}, RpA g F vs ds → vs.length = ds.length
  | _, _, .nil => rfl
  | _, _, .cons _ b => by simp [RpA.length b]
theorem RpA.get : ∀ {vs : List V} {ds : List D} {i : Nat} {d : D}, RpA g F vs ds → ds[i]? = some d → ∃ v, vs[i]? = some v ∧ Rp g F v d
  | _, _, _, _, .nil, h => by simp at h
  | _, _, 0, _, .cons a _, h => by simp at h; subst h; exact ⟨_, rfl, a⟩
  | _, _, i + 1, d, .cons _ b, h => by
    obtain ⟨v, h1, h2⟩ := RpA.get (i := i) (d := d) b (by simpa using h)
    exact ⟨v, by simpa using h1, h2⟩
theorem RpA.get' : ∀ {vs : List V} {ds : List D} {i : Nat} {v : V}, RpA g F vs ds → vs[i]? = some v → ∃ d, ds[i]? = some d ∧ Rp g F v d
  | _, _, _, _, .nil, h => by simp at h
  | _, _, 0, _, .cons a _, h => by simp at h; subst h; exact ⟨_, rfl, a⟩
  | _, _, i + 1, v, .cons _ b, h => by
    obtain ⟨d, h1, h2⟩ := RpA.get' (i := i) (v := v) b (by simpa using h)
    exact ⟨d, by simpa using h1, h2⟩
theorem RpA.append : ∀ {vs ws : List V} {ds es : List D}, RpA g F vs ds → RpA g F ws es → RpA g F (vs ++ ws) (ds ++ es)
  | _, _, _, _, .nil, h => h
  | _, _, _, _, .cons a b, h => .cons a (RpA.append b h)
theorem RpA.take (n : Nat) : ∀ {vs : List V} {ds : List D}, RpA g F vs ds → RpA g F (vs.take n) (ds.take n) := fun {vs ds} h => by
  induction n generalizing vs ds with
  | zero => simp; exact .nil
  | succ n ih => cases h with
    | nil => exact .nil
    | cons a b => exact .cons a (ih b)
theorem RpA.drop (n : Nat) : ∀ {vs : List V} {ds : List D}, RpA g F vs ds → RpA g F (vs.drop n) (ds.drop n) := fun {vs ds} h => by
  induction n generalizing vs ds with
  | zero => simpa using h
  | succ n ih => cases h with
    | nil => exact .nil
    | cons a b => exact ih b
theorem RpA.set {v : V} {d : D} (r : Rp g F v d) : ∀ {vs : List V} {ds : List D} (i : Nat), RpA g F vs ds → RpA g F (vs.set i v) (ds.set i d)
  | _, _, _, .nil => .nil
  | _, _, 0, .cons _ t => .cons r t
  | _, _, i + 1, .cons q t => .cons q (RpA.set r i t)
theorem RpA.reverse {vs : List V} {ds : List D} (h : RpA g F vs ds) : RpA g F vs.reverse ds.reverse := by
  induction h using RpA.rec (motive_1 := fun _ _ _ => True) with
  | nil => exact .nil
  | cons a b _ ih => rw [List.reverse_cons, List.reverse_cons]; exact ih.append (.cons a .nil)
  | _ => trivial
end

/-! ### slots, results -/
inductive S where
  | d (x : D) | own (xs : List D)
  /-- a dict that the slot holds alone -/
  | od (ks : List Key) (vs : List D)
  /-- the shared lists (the last slot, that no name has) -/
  | mem (cs : List (List D))
def S.isOwn : S → Bool
  | .own _ => true
  | .od _ _ => true
  | _ => false
def S.isMem : S → Bool
  | .mem _ => true
  | _ => false
abbrev Dl := List (Option S)
structure Ex where
  c : Str
  fn : List Str
  fv : List D
inductive Rs (α : Type) where
  | ok (a : α) (δ : Dl) | err (e : Ex) (δ : Dl)
abbrev M (α : Type) := Dl → Option (Rs α)
/-- an expression's result: data, what stands in a slot, a new list of one's own -/
inductive R where
  | d (x : D) | slot (i : Nat) | own (xs : List D) | od (ks : List Key) (vs : List D)

/-- what stands at an owned address: a list, a dict -/
def OwnC (g : Gx) (F : Hp) (o : HO) : S → Prop
  | .own xs => ∃ vs, o = .lst vs ∧ RpA g F vs xs
  | .od ks xs => ∃ kvs : List (Key × V), o = .dK kvs ∧ kvs.map (·.1) = ks ∧ RpA g F (kvs.map (·.2)) xs
  | _ => False
def OwnedS (g : Gx) (O F H : Hp) (v : V) (s : S) : Prop := ∃ a o, v = .ref a ∧ H a = some o ∧ OwnC g F o s ∧ F a = none ∧ O a = none
def Owned (g : Gx) (O F H : Hp) (v : V) (xs : List D) : Prop := ∃ a vs, v = .ref a ∧ H a = some (.lst vs) ∧ RpA g F vs xs ∧ F a = none ∧ O a = none
def RpS (g : Gx) (O F H : Hp) (v : V) : S → Prop
  | .d x => Rp g F v x
  | s => OwnedS g O F H v s
theorem Owned.s {g : Gx} {O F H : Hp} {v : V} {xs : List D} (h : Owned g O F H v xs) : OwnedS g O F H v (.own xs) := by
  obtain ⟨a, vs, h1, h2, h3, h4, h5⟩ := h
  exact ⟨a, _, h1, h2, ⟨vs, rfl, h3⟩, h4, h5⟩
theorem OwnedS.o {g : Gx} {O F H : Hp} {v : V} {xs : List D} (h : OwnedS g O F H v (.own xs)) : Owned g O F H v xs := by
  obtain ⟨a, o, h1, h2, ⟨vs, rfl, h3⟩, h4, h5⟩ := h
  exact ⟨a, vs, h1, h2, h3, h4, h5⟩
/-- the shared lists: each marked once, and as told -/
structure Cells (g : Gx) (O F H : Hp) (cs : List (List D)) : Prop where
  at_ : ∀ a n, F a = some (mkr n) → ∃ xs vs, cs[n]? = some xs ∧ H a = some (.lst vs) ∧ RpA g F vs xs ∧ O a = none
  all : ∀ n xs, cs[n]? = some xs → ∃ a, F a = some (mkr n)
  one : ∀ a b n, F a = some (mkr n) → F b = some (mkr n) → a = b
/-- one slot at most has the shared lists -/
def Mem1 (δ : Dl) : Prop := ∀ (i j : Nat) cs ds, δ[i]? = some (some (.mem cs)) → δ[j]? = some (some (.mem ds)) → i = j
structure Ms (g : Gx) (O F H : Hp) (σ : L2.St) (δ : Dl) : Prop where
  fh : Fit F H
  oh : Same O H
  dj : ∀ a, F a = none ∨ O a = none
  sl : ∀ (i : Nat) s, δ[i]? = some (some s) → s.isMem = false → ∃ v, σ[i]? = some (some v) ∧ RpS g O F H v s
  ap : ∀ (i j : Nat) s t v, δ[i]? = some (some s) → δ[j]? = some (some t) → s.isOwn = true → t.isOwn = true → σ[i]? = some (some v) → σ[j]? = some (some v) → i = j
  mm : ∀ (i : Nat) cs, δ[i]? = some (some (.mem cs)) → Cells g O F H cs
  m1 : Mem1 δ
/-- v is no slot's own -/
def Apart (σ : L2.St) (δ : Dl) (v : V) : Prop := ∀ (i : Nat) s, δ[i]? = some (some s) → s.isOwn = true → σ[i]? ≠ some (some v)
def RpR (g : Gx) (O F H : Hp) (σ : L2.St) (δ : Dl) (v : V) : R → Prop
  | .d x => Rp g F v x
  | .slot i => σ[i]? = some (some v)
  | .own xs => OwnedS g O F H v (.own xs) ∧ Apart σ δ v
  | .od ks xs => OwnedS g O F H v (.od ks xs) ∧ Apart σ δ v
def RpT (g : Gx) (O F H : Hp) (σ : L2.St) (δ : Dl) (v : V) : S → Prop
  | .d x => Rp g F v x
  | s => OwnedS g O F H v s ∧ Apart σ δ v
/-- an exception of an own class: its class, the fields in its dict -/
def RpE (g : Gx) (F H : Hp) (e : Ex) (c : Value) (dd : Option Addr) : Prop :=
  g.mg e.c = some c ∧ ∃ (d : Addr) (vs : List V), dd = some d ∧ H d = some (.xd (e.fn.zip vs)) ∧ RpA g F vs e.fv ∧ e.fn.length = e.fv.length

/-! ### what is wanted behind -/
def wp (g : Gx) (O F : Hp) (σ : L2.St) (δ : Dl) {α : Type} (m : M α) (ok : Hp → Hp → Dl → α → Prop) (er : Hp → Hp → Dl → Ex → Prop) : Prop :=
  match m δ with
  | none => False
  | some (.ok a δ') => ∀ F' H', Same F F' → Ms g O F' H' σ δ' → ok F' H' δ' a
  | some (.err e δ') => ∀ F' H', Same F F' → Ms g O F' H' σ δ' → er F' H' δ' e
/-- what is wanted of an exception, by the slots there -/
abbrev WS := L2.St → XK
def eE (g : Gx) (E : XK) : Hp → Hp → Dl → Ex → Prop := fun F H _ e => ∀ c dd, RpE g F H e c dd → E c dd H
def retM {α : Type} (a : α) : M α := fun δ => some (.ok a δ)
def nopeM {α : Type} : M α := fun _ => none
def raiseM {α : Type} (e : Ex) : M α := fun δ => some (.err e δ)
def bindM {α β : Type} (m : M α) (f : α → M β) : M β := fun δ => match m δ with
  | none => none
  | some (.err e δ') => some (.err e δ')
  | some (.ok a δ') => f a δ'
def optM {α : Type} (o : Option α) : M α := fun δ => o.map fun a => .ok a δ
section
variable {g : Gx} {O F H : Hp} {σ : L2.St} {δ : Dl} {α β : Type} {ok ok' : Hp → Hp → Dl → α → Prop} {er : Hp → Hp → Dl → Ex → Prop}
theorem wp_ret {a : α} (M0 : Ms g O F H σ δ) (h : wp g O F σ δ (retM a) ok er) : ok F H δ a := h F H (Same.refl _) M0
theorem wp_opt {o : Option α} (h : wp g O F σ δ (optM o) ok er) : ∃ a, o = some a ∧ ∀ F' H', Same F F' → Ms g O F' H' σ δ → ok F' H' δ a := by
  cases o with
  | none => exact h.elim
  | some a => exact ⟨a, rfl, h⟩
theorem wp_mono {m : M α} (h : wp g O F σ δ m ok er) (k : ∀ F' H' δ' a, Same F F' → Ms g O F' H' σ δ' → ok F' H' δ' a → ok' F' H' δ' a) : wp g O F σ δ m ok' er := by
  unfold wp at h ⊢
  cases e : m δ with
  | none => rw [e] at h; exact h
  | some r => cases r with
    | ok a δ' => rw [e] at h; exact fun F' H' s M => k _ _ _ _ s M (h F' H' s M)
    | err x δ' => rw [e] at h; exact h
theorem wp_bind {m : M α} {f : α → M β} {ok : Hp → Hp → Dl → β → Prop} (h : wp g O F σ δ (bindM m f) ok er) : wp g O F σ δ m (fun F' _ δ' a => wp g O F' σ δ' (f a) ok er) er := by
  unfold wp at h ⊢
  unfold bindM at h
  cases e : m δ with
  | none => rw [e] at h; exact h
  | some r => cases r with
    | err x δ' => rw [e] at h; exact h
    | ok a δ' =>
      rw [e] at h
      intro F' H' s M
      show wp g O F' σ δ' (f a) ok er
      unfold wp
      simp only at h
      cases e2 : f a δ' with
      | none => rw [e2] at h; exact h
      | some r => cases r with
        | ok b δ'' => rw [e2] at h; exact fun F'' H'' s' M' => h F'' H'' (s.trans s') M'
        | err x δ'' => rw [e2] at h; exact fun F'' H'' s' M' => h F'' H'' (s.trans s') M'
end
def tR (g : Gx) (E : WS) (m : M R) : TE := fun σ H Q => ∃ O F δ, Ms g O F H σ δ ∧ wp g O F σ δ m (fun F' H' δ' r => ∀ v, RpR g O F' H' σ δ' v r → Q v H') (eE g (E σ))
def tD (g : Gx) (E : WS) (m : M D) : TE := fun σ H Q => ∃ O F δ, Ms g O F H σ δ ∧ wp g O F σ δ m (fun F' H' _ r => ∀ v, Rp g F' v r → Q v H') (eE g (E σ))
def tT (g : Gx) (E : WS) (m : M Bool) : TT := fun σ H Q => ∃ O F δ, Ms g O F H σ δ ∧ wp g O F σ δ m (fun _ H' _ r => Q r H') (eE g (E σ))
def tAs (g : Gx) (E : WS) (m : M (List D)) : TA := fun σ H Q => ∃ O F δ, Ms g O F H σ δ ∧ wp g O F σ δ m (fun F' H' _ r => ∀ vs, RpA g F' vs r → Q vs H') (eE g (E σ))
/-- an operand: what stands in a slot is left where it is -/
inductive Op where
  | d (x : D) | slot (i : Nat)
def RpO (g : Gx) (F : Hp) (σ : L2.St) (v : V) : Op → Prop
  | .d x => Rp g F v x
  | .slot i => σ[i]? = some (some v)
def tO (g : Gx) (E : WS) (m : M Op) : TE := fun σ H Q => ∃ O F δ, Ms g O F H σ δ ∧ wp g O F σ δ m (fun F' H' _ r => ∀ v, RpO g F' σ v r → Q v H') (eE g (E σ))

theorem _root_.L2.PE.imp {X : Cx} {e : Expr} {t t' : TE} (h : PE X e t) (k : ∀ σ H Q, t' σ H Q → t σ H Q) : PE X e t' := ⟨fun pins s σ H Q I hw => h.run pins s σ H Q I (k σ H Q hw)⟩
theorem _root_.L2.PT.imp {X : Cx} {e : Expr} {t t' : TT} (h : PT X e t) (k : ∀ σ H Q, t' σ H Q → t σ H Q) : PT X e t' := ⟨fun pins s σ H Q I hw => h.run pins s σ H Q I (k σ H Q hw)⟩
theorem _root_.L2.PA.imp {X : Cx} {e : List Expr} {t t' : TA} (h : PA X e t) (k : ∀ σ H Q, t' σ H Q → t σ H Q) : PA X e t' := ⟨fun p pins s σ H Q I hw => h.run p pins s σ H Q I (k σ H Q hw)⟩
theorem _root_.L2.PS.imp {X : Cx} {e : Stmt} {t t' : TS} (h : PS X e t) (k : ∀ D σ H, t' D σ H → t D σ H) : PS X e t' := ⟨fun pins s σ H D I hw => h.run pins s σ H D I (k D σ H hw)⟩
theorem _root_.L2.PSs.imp {X : Cx} {e : List Stmt} {t t' : TS} (h : PSs X e t) (k : ∀ D σ H, t' D σ H → t D σ H) : PSs X e t' := ⟨fun pins s σ H D I hw => h.run pins s σ H D I (k D σ H hw)⟩
end Ev

set_option Elab.async false
set_option linter.all false
set_option maxRecDepth 100000
namespace Ev
open PySem PySem.Spec PyProof.Rows L2

def S.dat : S → D
  | .d x => x
  | .own xs => .lst xs
  | .od ks xs => .dct ks xs
  | .mem _ => .non
def Op.val (δ : Dl) : Op → Option D
  | .d x => some x
  | .slot i => match δ[i]? with
    | some (some (.d x)) => some x
    | some (some (.own xs)) => some (.lst xs)
    | some (some (.od ks xs)) => some (.dct ks xs)
    | _ => none
def Bw (g : Gx) (O F H : Hp) (v : V) (x : D) : Prop := Rp g F v x ∨ (∃ xs, x = .lst xs ∧ Owned g O F H v xs) ∨ ∃ ks xs, x = .dct ks xs ∧ OwnedS g O F H v (.od ks xs)
def S.toR : S → R
  | .d x => .d x
  | .own xs => .own xs
  | .od ks xs => .od ks xs
  | .mem _ => .d .non

structure Grow (F H F' H' : Hp) : Prop where
  ff : Same F F'
  hh : Same H H'
  fh : Fit F' H'
  nw : ∀ a, H a ≠ none → F a = none → F' a = none
  nm : ∀ a n, F' a = some (mkr n) → F a = some (mkr n)
theorem Grow.refl {F H : Hp} (h : Fit F H) : Grow F H F H := ⟨Same.refl _, Same.refl _, h, fun _ _ z => z, fun _ _ z => z⟩
theorem Grow.trans {F H F1 H1 F2 H2 : Hp} (a : Grow F H F1 H1) (b : Grow F1 H1 F2 H2) : Grow F H F2 H2 :=
  ⟨a.ff.trans b.ff, a.hh.trans b.hh, b.fh, fun c h1 h2 => b.nw c (fun z => by
    cases q : H c with
    | none => exact h1 q
    | some o => rw [a.hh _ _ q] at z; cases z) (a.nw c h1 h2), fun c n h => a.nm c n (b.nm c n h)⟩
def RpN (g : Gx) (H F' H' : Hp) (v : V) : S → Prop
  | .d x => Rp g F' v x
  | s => ∃ a o, v = .ref a ∧ H a = none ∧ H' a = some o ∧ OwnC g F' o s ∧ F' a = none

section
variable {g : Gx} {O F H F' H' : Hp} {σ : L2.St} {δ : Dl} {v : V} {xs : List D} {i : Nat}
theorem ne_none {H : Hp} {a : Addr} {o : HO} (h : H a = some o) : H a ≠ none := by rw [h]; exact fun z => nomatch z
theorem mk_ne {F : Hp} {a : Addr} {n : Nat} (h : F a = some (mkr n)) : F a ≠ none := ne_none h
theorem OwnC.mono {o : HO} {s : S} (e : Same F F') (h : OwnC g F o s) : OwnC g F' o s := by
  cases s with
  | own xs => obtain ⟨vs, h1, h2⟩ := h; exact ⟨vs, h1, h2.mono e _ _⟩
  | od ks xs => obtain ⟨vs, h1, h2, h3⟩ := h; exact ⟨vs, h1, h2, h3.mono e _ _⟩
  | _ => exact h.elim
theorem OwnedS.mono {s : S} (ow : OwnedS g O F H v s) (k : Grow F H F' H') : OwnedS g O F' H' v s := by
  obtain ⟨a, vs, rfl, e, r, f, o⟩ := ow
  exact ⟨a, vs, rfl, k.hh _ _ e, r.mono k.ff, k.nw a (ne_none e) f, o⟩
theorem Owned.mono (ow : Owned g O F H v xs) (k : Grow F H F' H') : Owned g O F' H' v xs := (ow.s.mono k).o
theorem RpS.mono {s : S} (r : RpS g O F H v s) (k : Grow F H F' H') : RpS g O F' H' v s := by
  cases s with
  | d x => exact Rp.mono k.ff _ _ r
  | own xs => exact OwnedS.mono r k
  | od ks xs => exact OwnedS.mono r k
  | mem cs => exact OwnedS.mono r k
theorem Cells.grow {cs : List (List D)} (c : Cells g O F H cs) (k : Grow F H F' H') : Cells g O F' H' cs := by
  refine ⟨fun a n h => ?_, fun n xs h => ?_, fun a b n h1 h2 => c.one a b n (k.nm _ _ h1) (k.nm _ _ h2)⟩
  · obtain ⟨xs, vs, h1, h2, h3, h4⟩ := c.at_ a n (k.nm _ _ h)
    exact ⟨xs, vs, h1, k.hh _ _ h2, h3.mono k.ff _ _, h4⟩
  · obtain ⟨a, h⟩ := c.all n xs h
    exact ⟨a, k.ff _ _ h⟩
theorem Ms.grow (M : Ms g O F H σ δ) (k : Grow F H F' H') : Ms g O F' H' σ δ := by
  refine ⟨k.fh, M.oh.trans k.hh, fun a => ?_, fun i s h hm => ?_, M.ap, fun i cs h => (M.mm i cs h).grow k, M.m1⟩
  · rcases M.dj a with h | h
    · cases q : O a with
      | none => exact .inr rfl
      | some o => exact .inl (k.nw a (ne_none (M.oh _ _ q)) h)
    · exact .inr h
  · obtain ⟨v, e, r⟩ := M.sl i s h hm
    exact ⟨v, e, r.mono k⟩
theorem Ms.sd {x : D} (M : Ms g O F H σ δ) (h : δ[i]? = some (some (.d x))) : ∃ v, σ[i]? = some (some v) ∧ Rp g F v x := M.sl i _ h rfl
theorem Ms.so (M : Ms g O F H σ δ) (h : δ[i]? = some (some (.own xs))) : ∃ v, σ[i]? = some (some v) ∧ Owned g O F H v xs := by
  obtain ⟨v, e, r⟩ := M.sl i _ h rfl
  exact ⟨v, e, OwnedS.o r⟩
theorem Ms.sw {s : S} (M : Ms g O F H σ δ) (h : δ[i]? = some (some s)) (ho : s.isOwn = true) : ∃ v, σ[i]? = some (some v) ∧ OwnedS g O F H v s := by
  cases s with
  | own xs => exact M.sl i _ h rfl
  | od ks xs => exact M.sl i _ h rfl
  | _ => cases ho
theorem new_apart {a : Addr} (M : Ms g O F H σ δ) (e : H a = none) : Apart σ δ (.ref a) := fun i s hi ho hs => by
  obtain ⟨v, hv, b, ws, rfl, hb, _⟩ := M.sw hi ho
  rw [hs] at hv; cases hv
  rw [e] at hb; cases hb
theorem Ms.new {s : S} (M : Ms g O F H σ δ) (k : Grow F H F' H') (n : RpN g H F' H' v s) : RpR g O F' H' σ δ v s.toR := by
  cases s with
  | d x => exact n
  | own xs =>
    obtain ⟨a, vs, rfl, e, e', r, f⟩ := n
    exact ⟨⟨a, vs, rfl, e', r, f, M.oh.free e⟩, new_apart M e⟩
  | od ks xs =>
    obtain ⟨a, vs, rfl, e, e', r, f⟩ := n
    exact ⟨⟨a, vs, rfl, e', r, f, M.oh.free e⟩, new_apart M e⟩
  | mem cs => obtain ⟨a, vs, rfl, e, e', r, f⟩ := n; exact r.elim
theorem Grow.frz {a : Addr} {o : HO} (h : Fit F H) (e : H a = some o) (f : F a = none) : Same F (upd F a o) ∧ Fit (upd F a o) H := by
  refine ⟨fun b x q => ?_, fun b x q hm => ?_, fun b q => ?_⟩
  · rw [upd_ne (ne_of_none q f)]; exact q
  · by_cases hb : b = a
    · subst hb; rw [upd_same] at q; rw [e]; exact q
    · rw [upd_ne hb] at q; exact h.rd _ _ q hm
  · by_cases hb : b = a
    · subst hb; rw [e]; exact fun z => nomatch z
    · rw [upd_ne hb] at q; exact h.lv _ q
/-- what's frozen now: no mark is made -/
theorem Cells.frz {cs : List (List D)} {a : Addr} {o : HO} (c : Cells g O F H cs) (s1 : Same F (upd F a o)) (hm : isMk o = false) : Cells g O (upd F a o) H cs := by
  have old : ∀ b n, upd F a o b = some (mkr n) → F b = some (mkr n) := fun b n h => by
    by_cases hb : b = a
    · subst hb; rw [upd_same] at h; cases h; cases hm
    · rw [upd_ne hb] at h; exact h
  refine ⟨fun b n h => ?_, fun n xs h => ?_, fun b d n h1 h2 => c.one b d n (old _ _ h1) (old _ _ h2)⟩
  · obtain ⟨xs, vs, h1, h2, h3, h4⟩ := c.at_ b n (old _ _ h)
    exact ⟨xs, vs, h1, h2, h3.mono s1 _ _, h4⟩
  · obtain ⟨b, h⟩ := c.all n xs h
    exact ⟨b, s1 _ _ h⟩
theorem OwnC.mkf {o : HO} {s : S} (h : OwnC g F o s) : isMk o = false := by
  cases s with
  | own xs => obtain ⟨vs, rfl, _⟩ := h; rfl
  | od ks xs => obtain ⟨vs, rfl, _⟩ := h; rfl
  | _ => exact h.elim
/-- what is owned, frozen -/
theorem OwnC.rp {a : Addr} {o : HO} {s : S} (h : OwnC g F o s) (e : F a = some o) : Rp g F (.ref a) s.dat := by
  cases s with
  | own xs => obtain ⟨vs, rfl, r⟩ := h; exact .lst e r
  | od ks xs => obtain ⟨vs, rfl, h1, r⟩ := h; exact .dct (.inl e) h1 r
  | _ => exact h.elim
theorem RpS.frz {a : Addr} {o : HO} {s : S} (s1 : Same F (upd F a o)) (r : RpS g O F H v s) (hn : s.isOwn = true → v ≠ .ref a) : RpS g O (upd F a o) H v s := by
  have key : ∀ t : S, t.isOwn = true → OwnedS g O F H v t → v ≠ .ref a → OwnedS g O (upd F a o) H v t := fun t _ q hv => by
    obtain ⟨b, ws, rfl, e1, e2, e3, e4⟩ := q
    have ne : b ≠ a := fun z => hv (by rw [z])
    exact ⟨b, ws, rfl, e1, e2.mono s1, by rw [upd_ne ne]; exact e3, e4⟩
  cases s with
  | d x => exact Rp.mono s1 _ _ r
  | own xs => exact key _ rfl r (hn rfl)
  | od ks xs => exact key _ rfl r (hn rfl)
  | mem cs => obtain ⟨b, ws, _, _, z, _⟩ := r; exact z.elim
theorem frz_dj {a : Addr} {o : HO} (dj : ∀ b, F b = none ∨ O b = none) (ho : O a = none) : ∀ b, upd F a o b = none ∨ O b = none := fun b => by
  by_cases hb : b = a
  · subst hb; exact .inr ho
  · rw [upd_ne hb]; exact dj b
theorem Ms.frzS {s : S} (M : Ms g O F H σ δ) (ow : OwnedS g O F H v s) (ap : Apart σ δ v) : ∃ F', Same F F' ∧ Ms g O F' H σ δ ∧ Rp g F' v s.dat := by
  obtain ⟨a, vs, rfl, e, r, f, o⟩ := ow
  obtain ⟨s1, s2⟩ := Grow.frz M.fh e f
  refine ⟨upd F a vs, s1, ⟨s2, M.oh, frz_dj M.dj o, fun i t h hm => ?_, M.ap, fun i cs h => (M.mm i cs h).frz s1 r.mkf, M.m1⟩, (r.mono s1).rp upd_same⟩
  obtain ⟨w, ew, rw'⟩ := M.sl i t h hm
  exact ⟨w, ew, rw'.frz s1 fun ho z => by subst z; exact ap i t h ho ew⟩
theorem Ms.frz (M : Ms g O F H σ δ) (ow : OwnedS g O F H v (.own xs)) (ap : Apart σ δ v) : ∃ F', Same F F' ∧ Ms g O F' H σ δ ∧ Rp g F' v (.lst xs) := M.frzS ow ap
theorem get_set_of {α : Type} {l : List α} {i j : Nat} {x y : α} (h : (l.set i x)[j]? = some y) : (i = j ∧ x = y) ∨ (i ≠ j ∧ l[j]? = some y) := by
  by_cases e : i = j
  · subst e
    by_cases hl : i < l.length
    · rw [List.getElem?_set_self hl] at h; exact .inl ⟨rfl, Option.some.inj h⟩
    · rw [List.getElem?_eq_none (by rw [List.length_set]; omega)] at h; cases h
  · rw [List.getElem?_set_ne e] at h; exact .inr ⟨e, h⟩
theorem Mem1.set {o : Option S} (h : Mem1 δ) (ho : ∀ cs, o ≠ some (.mem cs)) : Mem1 (δ.set i o) := fun j k cs ds h1 h2 => by
  rcases get_set_of h1 with ⟨_, z⟩ | ⟨_, h1'⟩
  · exact absurd z (ho cs)
  rcases get_set_of h2 with ⟨_, z⟩ | ⟨_, h2'⟩
  · exact absurd z (ho ds)
  exact h j k cs ds h1' h2'
theorem Ms.frzSlotS {s : S} (M : Ms g O F H σ δ) (hi : δ[i]? = some (some s)) (ho : s.isOwn = true) : ∃ F' v, σ[i]? = some (some v) ∧ Same F F' ∧ Ms g O F' H σ (δ.set i (some (.d s.dat))) ∧ Rp g F' v s.dat := by
  obtain ⟨v, ev, a, vs, rfl, e, r, f, o⟩ := M.sw hi ho
  obtain ⟨s1, s2⟩ := Grow.frz M.fh e f
  have rp : Rp g (upd F a vs) (.ref a) s.dat := (r.mono s1).rp upd_same
  refine ⟨upd F a vs, _, ev, s1, ⟨s2, M.oh, frz_dj M.dj o, fun j t h hm => ?_, fun j k t u w h1 h2 o1 o2 h3 h4 => ?_, fun j cs h => ?_, M.m1.set (fun _ z => nomatch z)⟩, rp⟩
  · rcases get_set_of h with ⟨e1, e2⟩ | ⟨ne, h'⟩
    · subst e1; cases e2; exact ⟨_, ev, rp⟩
    · obtain ⟨w, ew, rw'⟩ := M.sl j t h' hm
      exact ⟨w, ew, rw'.frz s1 fun ho' z => by subst z; exact ne (M.ap i j s t _ hi h' ho ho' ev ew)⟩
  · rcases get_set_of h1 with ⟨_, z⟩ | ⟨_, h1'⟩
    · cases z; cases o1
    rcases get_set_of h2 with ⟨_, z⟩ | ⟨_, h2'⟩
    · cases z; cases o2
    exact M.ap j k t u w h1' h2' o1 o2 h3 h4
  · rcases get_set_of h with ⟨_, z⟩ | ⟨_, h'⟩
    · cases z
    · exact (M.mm j cs h').frz s1 r.mkf
theorem Ms.frzSlot (M : Ms g O F H σ δ) (hi : δ[i]? = some (some (.own xs))) : ∃ F' v, σ[i]? = some (some v) ∧ Same F F' ∧ Ms g O F' H σ (δ.set i (some (.d (.lst xs)))) ∧ Rp g F' v (.lst xs) := M.frzSlotS hi rfl
theorem Ms.bw {op : Op} {x : D} (M : Ms g O F H σ δ) (h : RpO g F σ v op) (e : op.val δ = some x) : Bw g O F H v x := by
  cases op with
  | d y => cases e; exact .inl h
  | slot i =>
    simp only [Op.val] at e
    split at e
    · rename_i y q
      cases e
      obtain ⟨w, ew, r⟩ := M.sd q
      rw [show σ[i]? = some (some v) from h] at ew; cases ew
      exact .inl r
    · rename_i ys q
      cases e
      obtain ⟨w, ew, r⟩ := M.so q
      rw [show σ[i]? = some (some v) from h] at ew; cases ew
      exact .inr (.inl ⟨ys, rfl, r⟩)
    · rename_i ks ys q
      cases e
      obtain ⟨w, ew, r⟩ := M.sw q rfl
      rw [show σ[i]? = some (some v) from h] at ew; cases ew
      exact .inr (.inr ⟨ks, ys, rfl, r⟩)
    · cases e
theorem RpO.mono {op : Op} (s : Same F F') (h : RpO g F σ v op) : RpO g F' σ v op := by
  cases op with
  | d y => exact Rp.mono s _ _ h
  | slot i => exact h
theorem Bw.list (b : Bw g O F H v (.lst xs)) (fh : Fit F H) : ∃ a vs, v = .ref a ∧ H a = some (.lst vs) ∧ RpA g F vs xs := by
  rcases b with b | ⟨ys, e, a, vs, rfl, h, r, _⟩ | ⟨_, _, e, _⟩
  · cases b with | lst q r => exact ⟨_, _, rfl, fh.of q, r⟩
  · cases e; exact ⟨a, vs, rfl, h, r⟩
  · cases e
theorem fit_seq {K : PySem.W.Frag} {a : Addr} {vs : List V} (fh : Fit F H) (h : SqL K F a vs) : SqL K H a vs := by
  rcases h with (h | ⟨o, h⟩) | h
  · exact .inl (.inl (fh.of h))
  · exact .inl (.inr ⟨o, fh.of h⟩)
  · exact .inr h
theorem fit_tup {K : PySem.W.Frag} {a : Addr} {vs : List V} (fh : Fit F H) (h : SqT K F a vs) : SqT K H a vs := by
  rcases h with (h | ⟨o, h⟩) | h
  · exact .inl (.inl (fh.of h))
  · exact .inl (.inr ⟨o, fh.of h⟩)
  · exact .inr h
theorem Bw.scr (b : Bw g O F H v (.scr xs)) (fh : Fit F H) : ∃ a vs, v = .ref a ∧ SqL g.K H a vs ∧ RpA g F vs xs := by
  rcases b with b | ⟨ys, e, _⟩ | ⟨_, _, e, _⟩
  · cases b with | scr q r => exact ⟨_, _, rfl, fit_seq fh q, r⟩
  · cases e
  · cases e
/-- the items of a list of either kind -/
def D.seqL : D → Option (List D)
  | .lst xs => some xs
  | .scr xs => some xs
  | _ => none
theorem Bw.seqL {x : D} (b : Bw g O F H v x) (e : x.seqL = some xs) (fh : Fit F H) : ∃ a vs, v = .ref a ∧ SqL g.K H a vs ∧ RpA g F vs xs := by
  cases x with
  | lst ys => cases e; obtain ⟨a, vs, h1, h2, h3⟩ := b.list fh; exact ⟨a, vs, h1, .inl (.inl h2), h3⟩
  | scr ys => cases e; exact b.scr fh
  | _ => cases e
theorem Bw.rp {x : D} (b : Bw g O F H v x) (n : ∀ xs, x ≠ .lst xs) (m : ∀ ks xs, x ≠ .dct ks xs := by exact fun _ _ z => nomatch z) : Rp g F v x := by
  rcases b with b | ⟨ys, e, _⟩ | ⟨ks, ys, e, _⟩
  · exact b
  · exact absurd e (n ys)
  · exact absurd e (m ks ys)
theorem Bw.int {n : Int} (b : Bw g O F H v (.int n)) : v = .int n := by
  have := b.rp (fun _ z => nomatch z); cases this; rfl
theorem Bw.str {n : Str} (b : Bw g O F H v (.str n)) : v = .str n := by
  have := b.rp (fun _ z => nomatch z); cases this; rfl
theorem Bw.bl {n : Bool} (b : Bw g O F H v (.bl n)) : v = .bl n := by
  have := b.rp (fun _ z => nomatch z); cases this; rfl
theorem Bw.tup {xs : List D} (b : Bw g O F H v (.tup xs)) : ∃ a vs, v = .ref a ∧ SqT g.K F a vs ∧ RpA g F vs xs := by
  have := b.rp (fun _ z => nomatch z)
  cases this with | tup q r => exact ⟨_, _, rfl, q, r⟩
theorem Bw.grow {x : D} (b : Bw g O F H v x) (k : Grow F H F' H') : Bw g O F' H' v x := by
  rcases b with b | ⟨ys, e, q⟩ | ⟨ks, ys, e, q⟩
  · exact .inl (Rp.mono k.ff _ _ b)
  · exact .inr (.inl ⟨ys, e, q.mono k⟩)
  · exact .inr (.inr ⟨ks, ys, e, q.mono k⟩)
/-- a dict as it can be asked -/
theorem Bw.dict {ks : List Key} (b : Bw g O F H v (.dct ks xs)) (fh : Fit F H) : ∃ a kvs, v = .ref a ∧ (H a = some (.dK kvs) ∨ KDc g.K g.w a kvs) ∧ kvs.map (·.1) = ks ∧ RpA g F (kvs.map (·.2)) xs := by
  rcases b with b | ⟨ys, e, _⟩ | ⟨k2, ys, e, a, o, rfl, h, ⟨kvs, rfl, h1, r⟩, _⟩
  · cases b with
    | dct q h1 r =>
      rcases q with q | q
      · exact ⟨_, _, rfl, .inl (fh.of q), h1, r⟩
      · exact ⟨_, _, rfl, .inr q, h1, r⟩
  · cases e
  · cases e; exact ⟨a, kvs, rfl, .inl h, h1, r⟩
end

/-! ### from results to operands and data -/
def opdM (m : M R) : M Op := bindM m fun r => match r with
  | .d x => retM (.d x)
  | .slot i => retM (.slot i)
  | .own xs => retM (.d (.lst xs))
  | .od ks xs => retM (.d (.dct ks xs))
def datM (m : M R) : M D := bindM m fun r => match r with
  | .d x => retM x
  | .slot i => fun δ => match δ[i]? with
    | some (some (.d x)) => some (.ok x δ)
    | some (some (.own xs)) => some (.ok (.lst xs) (δ.set i (some (.d (.lst xs)))))
    | some (some (.od ks xs)) => some (.ok (.dct ks xs) (δ.set i (some (.d (.dct ks xs)))))
    | _ => none
  | .own xs => retM (.lst xs)
  | .od ks xs => retM (.dct ks xs)
section
variable {X : Cx} {g : Gx} {E : WS} {e : Expr}
theorem wp_elim {O F : Hp} {σ : L2.St} {δ : Dl} {α : Type} {m : M α} {ok : Hp → Hp → Dl → α → Prop} {er : Hp → Hp → Dl → Ex → Prop}
    (h : wp g O F σ δ m ok er) : (∃ a δ', m δ = some (.ok a δ') ∧ ∀ F' H', Same F F' → Ms g O F' H' σ δ' → ok F' H' δ' a) ∨ (∃ x δ', m δ = some (.err x δ') ∧ ∀ F' H', Same F F' → Ms g O F' H' σ δ' → er F' H' δ' x) := by
  unfold wp at h
  cases e : m δ with
  | none => rw [e] at h; exact h.elim
  | some r => cases r with
    | ok a δ' => rw [e] at h; exact .inl ⟨a, δ', rfl, h⟩
    | err x δ' => rw [e] at h; exact .inr ⟨x, δ', rfl, h⟩
theorem pr_opd {m : M R} (h : PE X e (tR g E m)) : PE X e (tO g E (opdM m)) := by
  refine h.imp fun σ H Q ⟨O, F, δ, M, w⟩ => ⟨O, F, δ, M, wp_mono (wp_bind w) fun F' H' δ' r s M' q v hv => ?_⟩
  cases r with
  | d x => exact wp_ret M' q v hv
  | slot i => exact wp_ret M' q v hv
  | own xs =>
    obtain ⟨F2, s2, M2, r2⟩ := M'.frzS hv.1 hv.2
    exact q F2 H' s2 M2 v r2
  | od ks xs =>
    obtain ⟨F2, s2, M2, r2⟩ := M'.frzS hv.1 hv.2
    exact q F2 H' s2 M2 v r2
theorem pr_dat {m : M R} (h : PE X e (tR g E m)) : PE X e (tD g E (datM m)) := by
  refine h.imp fun σ H Q ⟨O, F, δ, M, w⟩ => ⟨O, F, δ, M, wp_mono (wp_bind w) fun F' H' δ' r s M' q v hv => ?_⟩
  cases r with
  | d x => exact wp_ret M' q v hv
  | slot i =>
    rcases wp_elim q with ⟨a, δ2, e1, q1⟩ | ⟨a, δ2, e1, q1⟩
    · simp only at e1
      split at e1
      · rename_i x hx
        cases e1
        obtain ⟨w2, ew, r2⟩ := M'.sd hx
        rw [show σ[i]? = some (some v) from hv] at ew; cases ew
        exact q1 F' H' (Same.refl _) M' v r2
      · rename_i ys hx
        cases e1
        obtain ⟨F2, w2, ew, s2, M2, r2⟩ := M'.frzSlotS hx rfl
        rw [show σ[i]? = some (some v) from hv] at ew; cases ew
        exact q1 F2 H' s2 M2 v r2
      · rename_i ks ys hx
        cases e1
        obtain ⟨F2, w2, ew, s2, M2, r2⟩ := M'.frzSlotS hx rfl
        rw [show σ[i]? = some (some v) from hv] at ew; cases ew
        exact q1 F2 H' s2 M2 v r2
      · cases e1
    · simp only at e1
      split at e1 <;> cases e1
  | own xs =>
    obtain ⟨F2, s2, M2, r2⟩ := M'.frzS hv.1 hv.2
    exact q F2 H' s2 M2 v r2
  | od ks xs =>
    obtain ⟨F2, s2, M2, r2⟩ := M'.frzS hv.1 hv.2
    exact q F2 H' s2 M2 v r2
end
end Ev

set_option Elab.async false
set_option linter.all false
set_option maxRecDepth 100000
namespace Ev
open PySem PySem.Spec PyProof.Rows L2

/-! ### operators by data -/
def liftOp (r : Option S) : M R := fun δ => r.map fun s => .ok s.toR δ
def op2 (f : D → D → Option S) (ma mb : M R) : M R := bindM (opdM ma) fun x => bindM (opdM mb) fun y => fun δ =>
  match x.val δ, y.val δ with
  | some d, some e => liftOp (f d e) δ
  | _, _ => none
def op1 (f : D → Option S) (ma : M R) : M R := bindM (opdM ma) fun x => fun δ =>
  match x.val δ with
  | some d => liftOp (f d) δ
  | none => none
/-- a rule over two values does what f says of their data -/
def O2 (g : Gx) (r : R2) (f : D → D → Option S) : Prop := ∀ (O F H : Hp) (x y : V) (d e : D) (s : S) (Q : VK), Fit F H → Bw g O F H x d → Bw g O F H y e → f d e = some s →
  (∀ F' H' v, Grow F H F' H' → RpN g H F' H' v s → Q v H') → r x y H Q
def O1 (g : Gx) (r : V → Hp → VK → Prop) (f : D → Option S) : Prop := ∀ (O F H : Hp) (x : V) (d : D) (s : S) (Q : VK), Fit F H → Bw g O F H x d → f d = some s →
  (∀ F' H' v, Grow F H F' H' → RpN g H F' H' v s → Q v H') → r x H Q
section
variable {g : Gx} {E : WS} {σ : L2.St} {H : Hp} {Q : VK}
theorem t_op2 {r : R2} {f : D → D → Option S} {ma mb : M R} (h : O2 g r f) (w : tR g E (op2 f ma mb) σ H Q) : tOp r (tO g E (opdM ma)) (tO g E (opdM mb)) σ H Q := by
  obtain ⟨O, F, δ, M, w⟩ := w
  refine ⟨O, F, δ, M, wp_mono (wp_bind w) fun F1 H1 δ1 x s1 M1 w1 vx hx => ?_⟩
  refine ⟨O, F1, δ1, M1, wp_mono (wp_bind w1) fun F2 H2 δ2 y s2 M2 w2 vy hy => ?_⟩
  unfold wp at w2
  simp only at w2
  cases ex : x.val δ2 with
  | none => rw [ex] at w2; exact w2.elim
  | some d =>
    cases ey : y.val δ2 with
    | none => rw [ex, ey] at w2; exact w2.elim
    | some e =>
      rw [ex, ey] at w2
      simp only [liftOp] at w2
      cases ef : f d e with
      | none => rw [ef] at w2; exact w2.elim
      | some s =>
        rw [ef] at w2
        simp only [Option.map_some] at w2
        exact h O F2 H2 vx vy d e s Q M2.fh (M2.bw (hx.mono s2) ex) (M2.bw hy ey) ef fun F' H' v k n => w2 F' H' k.ff (M2.grow k) v (M2.new k n)
theorem t_op1 {r : V → Hp → VK → Prop} {f : D → Option S} {ma : M R} (h : O1 g r f) (w : tR g E (op1 f ma) σ H Q) : tO g E (opdM ma) σ H (fun x H1 => r x H1 Q) := by
  obtain ⟨O, F, δ, M, w⟩ := w
  refine ⟨O, F, δ, M, wp_mono (wp_bind w) fun F1 H1 δ1 x s1 M1 w1 vx hx => ?_⟩
  unfold wp at w1
  simp only at w1
  cases ex : x.val δ1 with
  | none => rw [ex] at w1; exact w1.elim
  | some d =>
    rw [ex] at w1
    simp only [liftOp] at w1
    cases ef : f d with
    | none => rw [ef] at w1; exact w1.elim
    | some s =>
      rw [ef] at w1
      simp only [Option.map_some] at w1
      exact h O F1 H1 vx d s Q M1.fh (M1.bw hx ex) ef fun F' H' v k n => w1 F' H' k.ff (M1.grow k) v (M1.new k n)
end

/-! ### new objects -/
section
variable {g : Gx} {F H : Hp} {p : Addr} {vs : List V} {xs : List D}
theorem grow_obj {o : HO} (fh : Fit F H) (hp : H p = none) : Grow F H F (upd H p o) :=
  ⟨Same.refl _, fun b o e => by rw [upd_ne (ne_of_none e hp)]; exact e, fh.up fun b o e => by rw [upd_ne (ne_of_none e hp)]; exact e, fun _ _ z => z, fun _ _ z => z⟩
theorem grow_lst (fh : Fit F H) (hp : H p = none) : Grow F H F (upd H p (.lst vs)) := grow_obj fh hp
theorem new_own (fh : Fit F H) (hp : H p = none) (r : RpA g F vs xs) : RpN g H F (upd H p (.lst vs)) (.ref p) (.own xs) :=
  ⟨p, _, rfl, hp, upd_same, ⟨vs, rfl, r⟩, fh.free hp⟩
theorem new_od {kvs : List (Key × V)} (fh : Fit F H) (hp : H p = none) (r : RpA g F (kvs.map (·.2)) xs) : RpN g H F (upd H p (.dK kvs)) (.ref p) (.od (kvs.map (·.1)) xs) :=
  ⟨p, _, rfl, hp, upd_same, ⟨kvs, rfl, rfl, r⟩, fh.free hp⟩
theorem grow_frz {o : HO} (fh : Fit F H) (hp : H p = none) (hm : isMk o = false) : Grow F H (upd F p o) (upd H p o) := by
  refine ⟨fun b u e => by rw [upd_ne (ne_of_none e (fh.free hp))]; exact e, fun b u e => by rw [upd_ne (ne_of_none e hp)]; exact e, ⟨fun b u e m => ?_, fun b e => ?_⟩, fun b h1 h2 => ?_, fun b n e => ?_⟩
  · by_cases hb : b = p
    · subst hb; rw [upd_same] at e ⊢; exact e
    · rw [upd_ne hb] at e ⊢; exact fh.rd _ _ e m
  · by_cases hb : b = p
    · subst hb; rw [upd_same]; exact fun z => nomatch z
    · rw [upd_ne hb] at e ⊢; exact fh.lv _ e
  · have : b ≠ p := fun z => by subst z; exact h1 hp
    rw [upd_ne this]; exact h2
  · by_cases hb : b = p
    · subst hb; rw [upd_same] at e; cases e; cases hm
    · rw [upd_ne hb] at e; exact e
theorem grow_tup (fh : Fit F H) (hp : H p = none) : Grow F H (upd F p (.tup vs)) (upd H p (.tup vs)) := grow_frz fh hp rfl
theorem new_tup (fh : Fit F H) (hp : H p = none) (r : RpA g F vs xs) : RpN g H (upd F p (.tup vs)) (upd H p (.tup vs)) (.ref p) (.d (.tup xs)) :=
  .tup (.inl (.inl upd_same)) (r.mono (grow_tup fh hp).ff _ _)
end

/-! ### the operators of ints, texts, lists, tuples -/
def isNil {α : Type} : List α → Bool
  | [] => true
  | _ => false
theorem ne_of_isNil {α : Type} {l : List α} (h : ¬ isNil l = true) : l ≠ [] := by
  cases l with
  | nil => exact absurd rfl h
  | cons a b => exact fun z => nomatch z
theorem RpA.ne {g : Gx} {F : Hp} {vs : List V} {ds : List D} (r : RpA g F vs ds) (h : ds ≠ []) : vs ≠ [] := by
  cases r with
  | nil => exact absurd rfl h
  | cons _ _ => exact fun z => nomatch z
theorem RpA.nil_of {g : Gx} {F : Hp} {vs : List V} {ds : List D} (r : RpA g F vs ds) (h : vs = []) : ds = [] := by
  subst h; cases r; rfl
def addD : D → D → Option S
  | .int i, .int j => some (.d (.int (i + j)))
  | .str a, .str b => if a.length + b.length ≤ sizeLine then some (.d (.str (a ++ b))) else none
  | .lst xs, .lst ys => if xs.length + ys.length ≤ sizeLine then some (.own (xs ++ ys)) else none
  | .tup xs, .tup ys => if xs.length + ys.length ≤ sizeLine then some (.d (.tup (xs ++ ys))) else none
  | _, _ => none
def rStrAdd : R2 := fun x y H Q => ∃ i j, x = .str i ∧ y = .str j ∧ i.length + j.length ≤ sizeLine ∧ Q (.str (i ++ j)) H
def rAddD (K : PySem.W.Frag) : R2 := fun x y H Q => rI0 (fun i j => .int (i + j)) x y H Q ∨ rStrAdd x y H Q ∨ rCat x y H Q ∨ rCatA K x y H Q
section
variable {X : Cx} {g : Gx}
theorem op_addD : OpR X (binaryOp .Add) (rAddD X.K) := op_add.or (op_add_str.or (op_cat.or op_catA))
theorem o2_int {r : R2} {F H : Hp} {i : Int} {Q : VK} (fh : Fit F H) (q : ∀ F' H' v, Grow F H F' H' → RpN g H F' H' v (.d (.int i)) → Q v H') : Q (.int i) H := q F H _ (Grow.refl fh) (.int i)
theorem o2_add : O2 g (rAddD g.K) addD := by
  intro O F H x y d e s Q fh bx by' ef q
  unfold addD at ef
  split at ef
  · cases ef; exact .inl ⟨_, _, bx.int, by'.int, q F H _ (Grow.refl fh) (.int _)⟩
  · split at ef
    · cases ef; exact .inr (.inl ⟨_, _, bx.str, by'.str, by assumption, q F H _ (Grow.refl fh) (.str _)⟩)
    · cases ef
  · split at ef
    · cases ef
      obtain ⟨a, vs, rfl, h1, r1⟩ := bx.list fh
      obtain ⟨b, ws, rfl, h2, r2⟩ := by'.list fh
      refine .inr (.inr (.inl ⟨a, b, vs, ws, rfl, rfl, h1, h2, by rw [r1.length, r2.length]; assumption, fun p hp => ?_⟩))
      exact q _ _ _ (grow_lst fh hp) (new_own fh hp (r1.append r2))
    · cases ef
  · split at ef
    · cases ef
      obtain ⟨a, vs, rfl, h1, r1⟩ := bx.tup
      obtain ⟨b, ws, rfl, h2, r2⟩ := by'.tup
      refine .inr (.inr (.inr ⟨a, b, vs, ws, rfl, rfl, fit_tup fh h1, fit_tup fh h2, by rw [r1.length, r2.length]; assumption, fun z => ?_, fun _ z => ?_, fun _ _ p hp => ?_⟩))
      · have : (_ : List D) = [] := r1.nil_of z
        subst this
        exact q F H _ (Grow.refl fh) (.tup h2 r2)
      · have : (_ : List D) = [] := r2.nil_of z
        subst this
        rw [List.append_nil] at q
        exact q F H _ (Grow.refl fh) (.tup h1 r1)
      · exact q _ _ _ (grow_tup fh hp) (new_tup fh hp (r1.append r2))
    · cases ef
  · cases ef
/-- an operator of two ints -/
def intD (C : Int → Int → Bool) (f : Int → Int → Int) : D → D → Option S
  | .int i, .int j => if C i j then some (.d (.int (f i j))) else none
  | _, _ => none
theorem o2_intD {C : Int → Int → Prop} {c : Int → Int → Bool} {f : Int → Int → Int} (h : ∀ i j, c i j = true → C i j) : O2 g (rI C fun i j => .int (f i j)) (intD c f) := by
  intro O F H x y d e s Q fh bx by' ef q
  unfold intD at ef
  split at ef
  · split at ef
    · cases ef; exact ⟨_, _, bx.int, by'.int, h _ _ (by assumption), q F H _ (Grow.refl fh) (.int _)⟩
    · cases ef
  · cases ef
def subD : D → D → Option S := intD (fun _ _ => true) fun i j => i - j
def mulC (i j : Int) : Bool := decide (i.natAbs < 2 ^ 64) || decide (j.natAbs < 2 ^ 64) || decide ((Builtin.Int.intBits i : Int) + (Builtin.Int.intBits j : Int) ≤ 134217728)
def mulD : D → D → Option S
  | .int i, .int j => if mulC i j then some (.d (.int (i * j))) else none
  | .lst xs, .int k => if -(2 ^ 63) ≤ k ∧ k < 2 ^ 63 ∧ xs.length * k.toNat ≤ sizeLine then some (.own (List.replicate k.toNat xs).flatten) else none
  | _, _ => none
def fdivC (_ j : Int) : Bool := decide (0 < j ∧ j.natAbs.log2 < 9000)
def fdivD : D → D → Option S := intD fdivC fun i j => i / j
def modD : D → D → Option S := intD (fun _ j => decide (0 < j)) fun i j => i % j
def powC (i j : Int) : Bool := decide (0 ≤ j ∧ (Builtin.Int.intBits i : Int) * j ≤ 2 ^ 27)
def powD : D → D → Option S := intD powC fun i j => i ^ j.toNat
def shrD : D → D → Option S := intD (fun _ j => decide (0 ≤ j)) fun i j => i / 2 ^ j.toNat
def andD : D → D → Option S := intD (fun _ _ => true) fun i j => Builtin.bitAnd i j
theorem op_subD : OpR X (binaryOp .Sub) (rI (fun _ _ => True) fun i j => .int (i - j)) := opI fun _ _ _ _ _ _ _ _ q => sub_int q
theorem op_andD : OpR X (binaryOp .BitAnd) (rI (fun _ _ => True) fun i j => .int (Builtin.bitAnd i j)) := opI fun _ _ _ _ _ _ _ _ q => and_int q
theorem op_powD : OpR X (binaryOp .Pow) (rI (fun i j => 0 ≤ j ∧ (Builtin.Int.intBits i : Int) * j ≤ 2 ^ 27) fun i j => .int (i ^ j.toNat)) := opI fun _ _ _ _ _ _ _ hc q => pow_int hc.1 hc.2 q
def CMulY (i j : Int) : Prop := CMul i j ∨ (Builtin.Int.intBits i : Int) + (Builtin.Int.intBits j : Int) ≤ 134217728
theorem op_mulY : OpR X (binaryOp .Mult) (rI CMulY fun i j => .int (i * j)) := opI fun _ _ _ _ _ _ _ hc q => mul_int q (hc.elim CMul.ok CMulX.ok)
theorem mulC_ok {i j : Int} (h : mulC i j = true) : CMulY i j := by
  simp only [mulC, Bool.or_eq_true, decide_eq_true_eq] at h
  rcases h with (h | h) | h
  · exact .inl (.inl (by omega))
  · exact .inl (.inr (by omega))
  · exact .inr h
def rMulD : R2 := fun x y H Q => rI CMulY (fun i j => .int (i * j)) x y H Q ∨ rRep x y H Q
theorem op_mulD : OpR X (binaryOp .Mult) rMulD := op_mulY.or op_rep
theorem RpA.rep {g : Gx} {F : Hp} {vs : List V} {ds : List D} (r : RpA g F vs ds) : ∀ n : Nat, RpA g F (List.replicate n vs).flatten (List.replicate n ds).flatten
  | 0 => .nil
  | n + 1 => by rw [List.replicate_succ, List.replicate_succ, List.flatten_cons, List.flatten_cons]; exact r.append (RpA.rep r n)
theorem o2_mul : O2 g rMulD mulD := by
  intro O F H x y d e s Q fh bx by' ef q
  unfold mulD at ef
  split at ef
  · split at ef
    · cases ef; exact .inl ⟨_, _, bx.int, by'.int, mulC_ok (by assumption), q F H _ (Grow.refl fh) (.int _)⟩
    · cases ef
  · split at ef
    · rename_i hc
      cases ef
      obtain ⟨a, vs, rfl, h1, r1⟩ := bx.list fh
      refine .inr ⟨a, _, vs, rfl, by'.int, h1, hc.1, hc.2.1, by rw [r1.length]; exact hc.2.2, fun p hp => ?_⟩
      exact q _ _ _ (grow_lst fh hp) (new_own fh hp (r1.rep _))
    · cases ef
  · cases ef
/-- the operator of a binary operation, by data -/
def binD : Operator → Option (D → D → Option S)
  | .Add => some addD
  | .Sub => some subD
  | .Mult => some mulD
  | .FloorDiv => some fdivD
  | .Mod => some modD
  | .Pow => some powD
  | .RShift => some shrD
  | .BitAnd => some andD
  | _ => none
theorem bin_ok {op : Operator} {f : D → D → Option S} (h : binD op = some f) : ∃ r, OpR X (binaryOp op) r ∧ O2 ⟨X.K, X.mg, X.w⟩ r f := by
  cases op <;> cases h
  · exact ⟨_, op_addD, o2_add⟩
  · exact ⟨_, op_subD, o2_intD fun _ _ _ => trivial⟩
  · exact ⟨_, op_mulD, o2_mul⟩
  · exact ⟨_, op_mod, o2_intD fun _ _ h => of_decide_eq_true h⟩
  · exact ⟨_, op_powD, o2_intD fun _ _ h => of_decide_eq_true h⟩
  · exact ⟨_, op_shr, o2_intD fun _ _ h => of_decide_eq_true h⟩
  · exact ⟨_, op_andD, o2_intD fun _ _ _ => trivial⟩
  · exact ⟨_, op_fdivW, o2_intD (C := CDivW) fun i j h => (of_decide_eq_true h : 0 < j ∧ j.natAbs.log2 < 9000)⟩
variable {E : WS} {a b : Expr} {ma mb : M R} {pos : Pos}
theorem pr_bin {op : Operator} {f : D → D → Option S} (h : binD op = some f) (ha : PE X a (tR ⟨X.K, X.mg, X.w⟩ E ma)) (hb : PE X b (tR ⟨X.K, X.mg, X.w⟩ E mb)) : PE X (.BinOp a op b pos) (tR ⟨X.K, X.mg, X.w⟩ E (op2 f ma mb)) := by
  obtain ⟨r, h1, h2⟩ := bin_ok (X := X) h
  exact (pe_op h1 (pr_opd ha) (pr_opd hb)).imp fun σ H Q w => t_op2 h2 w
end
end Ev

set_option Elab.async false
set_option linter.all false
set_option maxRecDepth 100000
namespace Ev
open PySem PySem.Spec PyProof.Rows L2

/-! ### data as the library's -/
mutual
def D.pd : D → Option PyData
  | .non => some .none
  | .bl b => some (.bool b)
  | .int i => some (.int i)
  | .str x => some (.str x)
  | .tup xs => (pds xs).map .tuple
  | .lst xs => (pds xs).map .list
  | .scr xs => (pds xs).map .list
  | _ => none
def pds : List D → Option (List PyData)
  | [] => some []
  | x :: xs => match x.pd, pds xs with
    | some p, some ps => some (p :: ps)
    | _, _ => none
end
section
variable {g : Gx} {O F H : Hp}
mutual
theorem Rp.dp (fh : Fit F H) : ∀ (d : D) (v : V) (p : PyData), Rp g F v d → d.pd = some p → Dp g.K H v p
  | .non, _, _, h, e => by cases h; cases e; exact .non
  | .bl b, _, _, h, e => by cases h; cases e; exact .bl b
  | .int i, _, _, h, e => by cases h; cases e; exact .int i
  | .str x, _, _, h, e => by cases h; cases e; exact .str x
  | .ty _, _, _, _, e => by cases e
  | .cls _, _, _, _, e => by cases e
  | .dct _ _, _, _, _, e => by cases e
  | .exc _ _ _, _, _, _, e => by cases e
  | .loc _, _, _, _, e => by cases e
  | .tup xs, _, _, h, e => by
    cases h with
    | tup q r =>
      simp only [D.pd, Option.map_eq_some_iff] at e
      obtain ⟨ps, e1, e2⟩ := e
      subst e2
      exact .tup (fit_tup fh q) (RpA.dp fh xs _ ps r e1)
  | .lst xs, _, _, h, e => by
    cases h with
    | lst q r =>
      simp only [D.pd, Option.map_eq_some_iff] at e
      obtain ⟨ps, e1, e2⟩ := e
      subst e2
      exact .lst (.inl (.inl (fh.of q))) (RpA.dp fh xs _ ps r e1)
  | .scr xs, _, _, h, e => by
    cases h with
    | scr q r =>
      simp only [D.pd, Option.map_eq_some_iff] at e
      obtain ⟨ps, e1, e2⟩ := e
      subst e2
      exact .lst (fit_seq fh q) (RpA.dp fh xs _ ps r e1)
theorem RpA.dp (fh : Fit F H) : ∀ (ds : List D) (vs : List V) (ps : List PyData), RpA g F vs ds → pds ds = some ps → DpAll g.K H vs ps
  | [], _, _, h, e => by cases h; cases e; exact .nil
  | d :: ds, _, _, h, e => by
    cases h with
    | cons a b =>
      simp only [pds] at e
      split at e
      · cases e; exact .cons (Rp.dp fh d _ _ a (by assumption)) (RpA.dp fh ds _ _ b (by assumption))
      · cases e
end
theorem Bw.dp {v : V} {d : D} {p : PyData} (b : Bw g O F H v d) (fh : Fit F H) (e : d.pd = some p) : Dp g.K H v p := by
  rcases b with b | ⟨xs, rfl, a, vs, rfl, h, r, _⟩ | ⟨_, _, rfl, _⟩
  · exact Rp.dp fh _ _ _ b e
  rotate_left
  · cases e
  · simp only [D.pd, Option.map_eq_some_iff] at e
    obtain ⟨ps, e1, e2⟩ := e
    subst e2
    exact .lst (.inl (.inl h)) (RpA.dp fh _ _ _ r e1)
end
/-- flat data as values -/
def D.fv : D → Option V
  | .non => some .non
  | .bl b => some (.bl b)
  | .int i => some (.int i)
  | .str x => some (.str x)
  | _ => none
def fvs : List D → Option (List V)
  | [] => some []
  | x :: xs => match x.fv, fvs xs with
    | some p, some ps => some (p :: ps)
    | _, _ => none
theorem Rp.fv {g : Gx} {F : Hp} {v : V} {d : D} {x : V} (h : Rp g F v d) (e : d.fv = some x) : v = x ∧ flatV v = true := by
  cases h <;> cases e <;> exact ⟨rfl, rfl⟩
theorem RpA.fvs {g : Gx} {F : Hp} : ∀ {vs : List V} {ds : List D} {xs : List V}, RpA g F vs ds → Ev.fvs ds = some xs → vs = xs ∧ vs.all flatV = true
  | _, _, _, .nil, e => by cases e; exact ⟨rfl, rfl⟩
  | _, _, _, .cons a b, e => by
    simp only [Ev.fvs] at e
    split at e
    · cases e
      obtain ⟨h1, h2⟩ := a.fv (by assumption)
      obtain ⟨h3, h4⟩ := b.fvs (by assumption)
      subst h1; subst h3
      exact ⟨rfl, by rw [List.all_cons, h2, h4]; rfl⟩
    · cases e
theorem Bw.fv {g : Gx} {O F H : Hp} {v : V} {d : D} {x : V} (b : Bw g O F H v d) (e : d.fv = some x) : v = x ∧ flatV v = true := by
  rcases b with b | ⟨xs, rfl, _⟩ | ⟨_, _, rfl, _⟩
  · exact b.fv e
  · cases e
  · cases e
def D.seqT : D → Option (List D)
  | .lst xs => some xs
  | .scr xs => some xs
  | .tup xs => some xs
  | _ => none
theorem Bw.seqT {g : Gx} {O F H : Hp} {v : V} {x : D} {xs : List D} (b : Bw g O F H v x) (e : x.seqT = some xs) (fh : Fit F H) : ∃ a vs, v = .ref a ∧ (SqL g.K H a vs ∨ SqT g.K H a vs) ∧ RpA g F vs xs := by
  cases x with
  | lst ys => cases e; obtain ⟨a, vs, h1, h2, h3⟩ := b.list fh; exact ⟨a, vs, h1, .inl (.inl (.inl h2)), h3⟩
  | scr ys => cases e; obtain ⟨a, vs, h1, h2, h3⟩ := b.scr fh; exact ⟨a, vs, h1, .inl h2, h3⟩
  | tup ys => cases e; obtain ⟨a, vs, h1, h2, h3⟩ := b.tup; exact ⟨a, vs, h1, .inr (fit_tup fh h2), h3⟩
  | _ => cases e

/-! ### dicts by key -/
def D.key : D → Option Str
  | .str x => some x
  | _ => none
def findK (k : Key) : List Key → List D → Option D
  | j :: ks, d :: ds => if j = k then some d else findK k ks ds
  | _, _ => none
theorem find_rp {g : Gx} {F : Hp} {k : Key} : ∀ {kvs : List (Key × V)} {ks : List Key} {ds : List D}, kvs.map (·.1) = ks → RpA g F (kvs.map (·.2)) ds →
    (∃ v d, valV kvs k = some v ∧ findK k ks ds = some d ∧ Rp g F v d) ∨ (valV kvs k = none ∧ findK k ks ds = none)
  | [], _, _, e, r => by subst e; exact .inr ⟨rfl, by cases r; rfl⟩
  | p :: kvs, _, _, e, r => by
    subst e
    rw [List.map_cons] at r
    cases r with
    | cons a b =>
      rw [List.map_cons]
      by_cases h : p.1 = k
      · exact .inl ⟨p.2, _, valV_pos h, by simp only [findK, if_pos h], a⟩
      · rcases find_rp (k := k) rfl b with ⟨v, d, h1, h2, h3⟩ | ⟨h1, h2⟩
        · exact .inl ⟨v, d, by rw [valV_neg h]; exact h1, by simp only [findK, if_neg h]; exact h2, h3⟩
        · exact .inr ⟨by rw [valV_neg h]; exact h1, by simp only [findK, if_neg h]; exact h2⟩
theorem Bw.key {g : Gx} {O F H : Hp} {v : V} {d : D} {z : Str} (b : Bw g O F H v d) (e : d.key = some z) : v = .str z := by
  cases d with
  | str x => cases e; exact b.str
  | _ => cases e
/-- what the dict x is asked for y: in the heap, or of the module -/
def rDk (K : PySem.W.Frag) (w : World) (ok : Option V → Hp → Prop) : V → V → Hp → Prop := fun x y H => (∃ a kvs z, x = .ref a ∧ y = .str z ∧ H a = some (.dK kvs) ∧ ok (valV kvs (.inr z)) H) ∨
  ∃ a es n z r o, x = .ref a ∧ y = .str z ∧ KDict K w a es n ∧ PySem.W.nsIn K a z = some r ∧ RelO o r ∧ ok o H
theorem Bw.dk {g : Gx} {O F H : Hp} {x y : V} {ks : List Key} {ds : List D} {d : D} {z : Str} {ok : Option V → Hp → Prop} (bx : Bw g O F H x (.dct ks ds)) (by' : Bw g O F H y d) (fh : Fit F H) (e : d.key = some z)
    (q1 : ∀ v d, findK (.inr z) ks ds = some d → Rp g F v d → ok (some v) H) (q0 : findK (.inr z) ks ds = none → ok none H) : rDk g.K g.w ok x y H := by
  obtain ⟨a, kvs, rfl, h, h1, r⟩ := bx.dict fh
  have ey := by'.key e
  have fin : ok (valV kvs (.inr z)) H := by
    rcases find_rp (k := .inr z) h1 r with ⟨v, d, z1, z2, z3⟩ | ⟨z1, z2⟩
    · rw [z1]; exact q1 v d z2 z3
    · rw [z1]; exact q0 z2
  rcases h with h | ⟨es, n, D, hz⟩
  · exact .inl ⟨a, kvs, z, rfl, ey, h, fin⟩
  · obtain ⟨r', e1, e2⟩ := hz z
    exact .inr ⟨a, es, n, z, r', _, rfl, ey, D, e1, e2, fin⟩
section
variable {X : Cx}
theorem op_in_dk (hu : X.A.units + 64 < cLine) : OpR X (compareOp .In) (fun y x H Q => rDk X.K X.w (fun o H => Q (.bl o.isSome) H) x y H) := by
  intro pins s σ H y x u v Q I ry rx h
  rcases h with ⟨a, kvs, z, rfl, rfl, e, q⟩ | ⟨a, es, n, z, r, o, rfl, rfl, D, e, ro, q⟩
  · cases rx
    exact d_in (by omega) I (DGet.k (k := .inr z) e) ry fun s' I' => ⟨.bl _, H, I', rfl, q⟩
  · refine op_in_kd D pins s σ H _ _ u v Q I ry rx ⟨z, r, rfl, rfl, e, ?_⟩
    rw [← ro.isSome_eq]; exact q
theorem op_nin_dk (hu : X.A.units + 64 < cLine) : OpR X (compareOp .NotIn) (fun y x H Q => rDk X.K X.w (fun o H => Q (.bl (!o.isSome)) H) x y H) := by
  intro pins s σ H y x u v Q I ry rx h
  rcases h with ⟨a, kvs, z, rfl, rfl, e, q⟩ | ⟨a, es, n, z, r, o, rfl, rfl, D, e, ro, q⟩
  · cases rx
    exact d_notIn (by omega) I (DGet.k (k := .inr z) e) ry fun s' I' => ⟨.bl _, H, I', rfl, q⟩
  · refine op_notIn_kd D pins s σ H _ _ u v Q I ry rx ⟨z, r, rfl, rfl, e, ?_⟩
    rw [← ro.isSome_eq]; exact q
theorem ix_dk (hu : X.A.units + 64 < cLine) : IxR X (fun x y H Q => rDk X.K X.w (fun o H => ∃ v, o = some v ∧ Q v H) x y H) := by
  intro value slice pins s σ H x y v u Q I rx ry h hs
  rcases h with ⟨a, kvs, z, rfl, rfl, e, w, ew, q⟩ | ⟨a, es, n, z, r, o, rfl, rfl, D, e, ro, w, ew, q⟩
  · cases rx
    have g := DGet.k (k := .inr z) e
    rw [ew] at g
    exact tail_any (dict_typeIs I g) PySem.F.slot_dict_getitem.lookup (d_getItem (by omega) I g ry fun w' s' I' r' => ⟨_, H, I', r', q⟩) hs
  · subst ew
    cases r with
    | none => exact ro.elim
    | some u' => exact ix_kdict value slice pins s σ H _ _ v u Q I rx ry ⟨a, z, w, rfl, rfl, ⟨es, n, u', D.at_, D.lit, e, ro⟩, q⟩ hs
end

/-! ### comparisons -/
def shp (p : PyData) : Bool := SeqAt.shaped p
def eqvD (d e : D) : Option Bool := match d.pd, e.pd with
  | some p, some q => if SeqAt.shaped p && SeqAt.shaped q then some (PyData.eqv p q) else none
  | _, _ => none
def eqD (d e : D) : Option S := (eqvD d e).map fun b => .d (.bl b)
def neD (d e : D) : Option S := (eqvD d e).map fun b => .d (.bl (!b))
def ltD (f : Int → Int → Bool) (h : Str → Str → Bool) : D → D → Option S
  | .int i, .int j => some (.d (.bl (f i j)))
  | .str i, .str j => some (.d (.bl (h i j)))
  | _, _ => none
def inB (d e : D) : Option Bool := match d, e with
  | d, .dct ks ds => d.key.map fun z => (findK (.inr z) ks ds).isSome
  | .str i, .str j => some (!(Builtin.Str.occurrences j i 0 j.length 1).isEmpty)
  | d, e => match e.seqT with
    | none => none
    | some xs => match d.fv, fvs xs with
      | some x, some vs => some (inV x vs)
      | _, _ => none
def inD (d e : D) : Option S := (inB d e).map fun b => .d (.bl b)
def ninD (d e : D) : Option S := (inB d e).map fun b => .d (.bl (!b))
def isB : D → D → Option Bool
  | .ty a, .ty b => some (decide (a = b))
  | .bl a, .bl b => some (decide (a = b))
  | .non, .non => some true
  | _, .non => some false
  | _, _ => none
def isD (d e : D) : Option S := (isB d e).map fun b => .d (.bl b)
def nisD (d e : D) : Option S := (isB d e).map fun b => .d (.bl (!b))
def cmpD : CmpOp → Option (D → D → Option S)
  | .Eq => some eqD
  | .NotEq => some neD
  | .Lt => some (ltD (fun i j => decide (i < j)) fun i j => decide (i.cps.toList < j.cps.toList))
  | .LtE => some (ltD (fun i j => decide (i ≤ j)) fun i j => !decide (j.cps.toList < i.cps.toList))
  | .Gt => some (ltD (fun i j => decide (j < i)) fun i j => decide (j.cps.toList < i.cps.toList))
  | .GtE => some (ltD (fun i j => decide (j ≤ i)) fun i j => !decide (i.cps.toList < j.cps.toList))
  | .In => some inD
  | .NotIn => some ninD
  | .Is => some isD
  | .IsNot => some nisD
section
variable {X : Cx} {g : Gx}
theorem q_bl {F H : Hp} {b : Bool} {Q : VK} (fh : Fit F H) (q : ∀ F' H' v, Grow F H F' H' → RpN g H F' H' v (.d (.bl b)) → Q v H') : Q (.bl b) H := q F H _ (Grow.refl fh) (.bl b)
theorem o2_lt {f : Int → Int → Bool} {h : Str → Str → Bool} : O2 g (fun x y H Q => rI0 (fun i j => .bl (f i j)) x y H Q ∨ ∃ i j, x = .str i ∧ y = .str j ∧ Q (.bl (h i j)) H) (ltD f h) := by
  intro O F H x y d e s Q fh bx by' ef q
  unfold ltD at ef
  split at ef
  · cases ef; exact .inl ⟨_, _, bx.int, by'.int, q_bl fh q⟩
  · cases ef; exact .inr ⟨_, _, bx.str, by'.str, q_bl fh q⟩
  · cases ef
theorem eqvD_some {d e : D} {b : Bool} (h : eqvD d e = some b) : ∃ p q, d.pd = some p ∧ e.pd = some q ∧ SeqAt.shaped p = true ∧ SeqAt.shaped q = true ∧ b = PyData.eqv p q := by
  unfold eqvD at h
  split at h
  · split at h
    · rename_i hc
      rw [Bool.and_eq_true] at hc
      cases h
      exact ⟨_, _, by assumption, by assumption, hc.1, hc.2, rfl⟩
    · cases h
  · cases h
theorem o2_eq : O2 g (rEqD g.K) eqD := by
  intro O F H x y d e s Q fh bx by' ef q
  simp only [eqD, Option.map_eq_some_iff] at ef
  obtain ⟨b, eb, rfl⟩ := ef
  obtain ⟨p, p', h1, h2, h3, h4, rfl⟩ := eqvD_some eb
  exact ⟨p, p', bx.dp fh h1, by'.dp fh h2, h3, h4, q_bl fh q⟩
theorem o2_ne : O2 g (rNeD g.K) neD := by
  intro O F H x y d e s Q fh bx by' ef q
  simp only [neD, Option.map_eq_some_iff] at ef
  obtain ⟨b, eb, rfl⟩ := ef
  obtain ⟨p, p', h1, h2, h3, h4, rfl⟩ := eqvD_some eb
  exact ⟨p, p', bx.dp fh h1, by'.dp fh h2, h3, h4, q_bl fh q⟩
def rInDD (K : PySem.W.Frag) (w : World) (neg : Bool) : R2 := fun x y H Q => rDk K w (fun o H => Q (.bl (if neg then !o.isSome else o.isSome)) H) y x H ∨ (∃ i j, x = .str i ∧ y = .str j ∧ Q (.bl (if neg then !(!(Builtin.Str.occurrences j i 0 j.length 1).isEmpty) else !(Builtin.Str.occurrences j i 0 j.length 1).isEmpty)) H) ∨ rIn K neg x y H Q
theorem op_inDD (hu : X.A.units + 64 < cLine) : OpR X (compareOp .In) (rInDD X.K X.w false) := OpR.or (op_in_dk hu) (OpR.or op_in_str op_in_seq)
theorem op_ninDD (hu : X.A.units + 64 < cLine) : OpR X (compareOp .NotIn) (rInDD X.K X.w true) := OpR.or (op_nin_dk hu) (OpR.or op_notin_str op_notIn_seq)
theorem o2_inG {neg : Bool} {O F H : Hp} {x y : V} {d e : D} {b : Bool} {Q : VK} (fh : Fit F H) (bx : Bw g O F H x d) (by' : Bw g O F H y e) (ef : inB d e = some b) (q : Q (.bl (if neg then !b else b)) H) : rInDD g.K g.w neg x y H Q := by
  unfold inB at ef
  split at ef
  · rw [Option.map_eq_some_iff] at ef
    obtain ⟨z, ez, rfl⟩ := ef
    exact .inl (by'.dk bx fh ez (fun v d' h _ => by rw [h] at q; exact q) (fun h => by rw [h] at q; exact q))
  · cases ef; exact .inr (.inl ⟨_, _, bx.str, by'.str, q⟩)
  · split at ef
    · cases ef
    · rename_i hs
      split at ef
      · cases ef
        obtain ⟨a, vs, rfl, h1, r⟩ := by'.seqT hs fh
        obtain ⟨h2, h3⟩ := bx.fv (by assumption)
        obtain ⟨h4, h5⟩ := r.fvs (by assumption)
        subst h2; subst h4
        exact .inr (.inr ⟨a, _, rfl, h1, h3, h5, q⟩)
      · cases ef
theorem o2_in : O2 g (rInDD g.K g.w false) inD := by
  intro O F H x y d e s Q fh bx by' ef q
  simp only [inD, Option.map_eq_some_iff] at ef
  obtain ⟨b, eb, rfl⟩ := ef
  exact o2_inG fh bx by' eb (q_bl fh q)
theorem o2_nin : O2 g (rInDD g.K g.w true) ninD := by
  intro O F H x y d e s Q fh bx by' ef q
  simp only [ninD, Option.map_eq_some_iff] at ef
  obtain ⟨b, eb, rfl⟩ := ef
  exact o2_inG fh bx by' eb (q_bl fh q)
def rIsD (neg : Bool) : R2 := fun x y H Q => (∃ a b, x = .ty a ∧ y = .ty b ∧ Q (.bl (if neg then !decide (a = b) else decide (a = b))) H) ∨ (∃ a b, x = .bl a ∧ y = .bl b ∧ Q (.bl (if neg then !decide (a = b) else decide (a = b))) H) ∨ (y = .non ∧ Q (.bl (if neg then !decide (x = .non) else decide (x = .non))) H)
theorem op_isD : OpR X (compareOp .Is) (rIsD false) := OpR.or op_isTyB (OpR.or op_is_bl op_isN)
theorem op_nisD : OpR X (compareOp .IsNot) (rIsD true) := OpR.or op_notTyB (OpR.or op_isnot_bl op_notN)
theorem Bw.ty {O F H : Hp} {v : V} {n : String} (b : Bw g O F H v (.ty n)) : v = .ty n := by
  have := b.rp (fun _ z => nomatch z); cases this; rfl
theorem Bw.non {O F H : Hp} {v : V} (b : Bw g O F H v .non) : v = .non := by
  have := b.rp (fun _ z => nomatch z); cases this; rfl
theorem Bw.not_non {O F H : Hp} {v : V} {d : D} (b : Bw g O F H v d) (h : d ≠ .non) : v ≠ .non := by
  rcases b with b | ⟨xs, rfl, a, vs, rfl, _⟩ | ⟨_, _, rfl, a, o, rfl, _⟩
  · intro z; subst z; cases b; exact h rfl
  · exact fun z => nomatch z
  · exact fun z => nomatch z
theorem o2_isG {neg : Bool} {O F H : Hp} {x y : V} {d e : D} {b : Bool} {Q : VK} (fh : Fit F H) (bx : Bw g O F H x d) (by' : Bw g O F H y e) (ef : isB d e = some b) (q : Q (.bl (if neg then !b else b)) H) : rIsD neg x y H Q := by
  unfold isB at ef
  split at ef
  · cases ef; exact .inl ⟨_, _, bx.ty, by'.ty, q⟩
  · cases ef; exact .inr (.inl ⟨_, _, bx.bl, by'.bl, q⟩)
  · cases ef; have := bx.non; subst this; exact .inr (.inr ⟨by'.non, by rw [decide_eq_true rfl]; exact q⟩)
  · cases ef
    rename_i hn
    refine .inr (.inr ⟨by'.non, ?_⟩)
    rw [decide_eq_false (bx.not_non (fun z => hn z))]
    exact q
  · cases ef
theorem o2_is : O2 g (rIsD false) isD := by
  intro O F H x y d e s Q fh bx by' ef q
  simp only [isD, Option.map_eq_some_iff] at ef
  obtain ⟨b, eb, rfl⟩ := ef
  exact o2_isG fh bx by' eb (q_bl fh q)
theorem o2_nis : O2 g (rIsD true) nisD := by
  intro O F H x y d e s Q fh bx by' ef q
  simp only [nisD, Option.map_eq_some_iff] at ef
  obtain ⟨b, eb, rfl⟩ := ef
  exact o2_isG fh bx by' eb (q_bl fh q)
theorem cmp_ok {op : CmpOp} {f : D → D → Option S} (hu : X.A.units + 64 < cLine) (h : cmpD op = some f) : ∃ r, OpR X (compareOp op) r ∧ O2 ⟨X.K, X.mg, X.w⟩ r f := by
  cases op <;> cases h
  · exact ⟨_, op_eqD hu, o2_eq⟩
  · exact ⟨_, op_neD hu, o2_ne⟩
  · exact ⟨_, op_lt.or op_lt_str, o2_lt⟩
  · exact ⟨_, op_le.or op_le_str, o2_lt⟩
  · exact ⟨_, op_gt.or op_gt_str, o2_lt⟩
  · exact ⟨_, op_ge.or op_ge_str, o2_lt⟩
  · exact ⟨_, op_isD, o2_is⟩
  · exact ⟨_, op_nisD, o2_nis⟩
  · exact ⟨_, op_inDD hu, o2_in⟩
  · exact ⟨_, op_ninDD hu, o2_nin⟩
end
end Ev

set_option Elab.async false
set_option linter.all false
set_option maxRecDepth 100000
namespace Ev
open PySem PySem.Spec PyProof.Rows L2
abbrev gx (X : Cx) : Gx := ⟨X.K, X.mg, X.w⟩

def Op.toR : Op → R
  | .d x => .d x
  | .slot i => .slot i
/-! ### names, constants -/
def slotM (i : Nat) : M R := fun δ => match δ[i]? with
  | some (some (.mem _)) => none
  | some (some _) => some (.ok (.slot i) δ)
  | _ => none
def cD (d : D) : M R := retM (.d d)
section
variable {X : Cx} {E : WS} {a b e : Expr} {pos : Pos}
theorem pr_name {i : Nat} {x : Str} (hN : X.N[i]? = some x) (hv : Vis X.env.scope x) (hd : (x == ("__debug__" : Str)) = false) (hcd : (x == ("__classdict__" : Str)) = false) : PE X (.Name x pos) (tR (gx X) E (slotM i)) := by
  refine (pe_var hN hv hd hcd).imp fun σ H Q ⟨O, F, δ, M, w⟩ => ?_
  rcases wp_elim w with ⟨r, δ', e1, q⟩ | ⟨r, δ', e1, q⟩
  · unfold slotM at e1
    cases hs : δ[i]? with
    | none => rw [hs] at e1; cases e1
    | some o => cases o with
      | none => rw [hs] at e1; cases e1
      | some s =>
        rw [hs] at e1
        have hm : s.isMem = false ∧ r = .slot i ∧ δ' = δ := by
          cases s <;> first | (cases e1; exact ⟨rfl, rfl, rfl⟩) | cases e1
        obtain ⟨hm, rfl, rfl⟩ := hm
        obtain ⟨v, ev, r'⟩ := M.sl i s hs hm
        exact ⟨v, ev, q F H (Same.refl _) M v ev⟩
  · unfold slotM at e1
    split at e1 <;> cases e1
theorem pr_c {d : D} {v : V} (h : PE X e (tC v)) (r : ∀ F, Rp (gx X) F v d) : PE X e (tR (gx X) E (cD d)) :=
  h.imp fun σ H Q ⟨O, F, δ, M, w⟩ => wp_ret M w v (r F)
theorem pr_int {i j} : PE X (.Constant (.int i) j pos) (tR (gx X) E (cD (.int i))) := pr_c pe_int fun _ => .int i
theorem pr_bl {b j} : PE X (.Constant (.bool b) j pos) (tR (gx X) E (cD (.bl b))) := pr_c pe_bl fun _ => .bl b
theorem pr_non {j} : PE X (.Constant .none j pos) (tR (gx X) E (cD .non)) := pr_c pe_non fun _ => .non
theorem pr_str {x j} : PE X (.Constant (.str x) j pos) (tR (gx X) E (cD (.str x))) := pr_c pe_str fun _ => .str x
theorem pr_ty {x : Str} {n : String} (hg : Gl X x) (hm : X.mg x = none) (hv : bootBuiltins x = some (.type n)) (hn : x ≠ "__name__") (hd : (x == ("__debug__" : Str)) = false) : PE X (.Name x pos) (tR (gx X) E (cD (.ty n))) :=
  pr_c (pe_bltn hg hm hv (v := .ty n) rfl hn hd) fun _ => .ty n
theorem pr_cls {x : Str} {c : Addr} (hg : Gl X x) (hm : X.mg x = some (.ref c)) (hd : (x == ("__debug__" : Str)) = false) : PE X (.Name x pos) (tR (gx X) E (cD (.cls x))) :=
  pr_c (pe_glob hg hm (v := .ref c) rfl hd) fun _ => .cls hm

/-! ### tests -/
def D.tru : D → Option Bool
  | .non => some false
  | .bl b => some b
  | .int i => some (i != 0)
  | .str x => if x.length ≤ sizeLine then some ((x.length : Int) != 0) else none
  | .tup xs => some (!isNil xs)
  | .lst xs => some (!isNil xs)
  | .scr xs => some (!isNil xs)
  | _ => none
def truM (m : M R) : M Bool := bindM (opdM m) fun o => fun δ => match (o.val δ).bind D.tru with
  | some b => some (.ok b δ)
  | none => none
/-- a result that is a truth -/
def isBl : R → Option Bool
  | .d (.bl b) => some b
  | _ => none
def blM (m : M R) : M Bool := bindM m fun r => optM (isBl r)
theorem RpA.isE {g : Gx} {F : Hp} {vs : List V} {ds : List D} (r : RpA g F vs ds) : vs.isEmpty = isNil ds := by
  cases r <;> rfl
theorem Bw.tru {O F H : Hp} {v : V} {d : D} {k : Bool} (b : Bw (gx X) O F H v d) (fh : Fit F H) (e : d.tru = some k) : TruV X.K v H k := by
  cases d with
  | non => cases e; have := b.non; subst this; rfl
  | bl b' => cases e; have := b.bl; subst this; rfl
  | int i => cases e; have := b.int; subst this; rfl
  | str x =>
    have := b.str; subst this
    simp only [D.tru] at e
    split at e
    · cases e; exact ⟨by assumption, rfl⟩
    · cases e
  | tup xs => cases e; obtain ⟨a, vs, rfl, h1, r⟩ := b.tup; exact .inr (.inl ⟨vs, fit_tup fh h1, by rw [r.isE]⟩)
  | lst xs => cases e; obtain ⟨a, vs, rfl, h1, r⟩ := b.list fh; exact .inl ⟨vs, .inl (.inl h1), by rw [r.isE]⟩
  | scr xs => cases e; obtain ⟨a, vs, rfl, h1, r⟩ := b.scr fh; exact .inl ⟨vs, h1, by rw [r.isE]⟩
  | _ => cases e
theorem pt_tru {m : M R} (h : PE X e (tR (gx X) E m)) (he : ∀ whole, isTrue e X.env whole = (do let v ← whole; standAt e.pos; holding [v] (truthy v))) : PT X e (tT (gx X) E (truM m)) := by
  refine (pt_truth (pr_opd h) he).imp fun σ H Q ⟨O, F, δ, M, w⟩ => ⟨O, F, δ, M, wp_mono (wp_bind w) fun F' H' δ' o s M' q v hv => ?_⟩
  rcases wp_elim q with ⟨k, δ2, e1, q1⟩ | ⟨k, δ2, e1, q1⟩
  · try simp only at e1
    split at e1
    · rename_i k' hk
      cases e1
      rw [Option.bind_eq_some_iff] at hk
      obtain ⟨d, hd, hk⟩ := hk
      exact ⟨_, (M'.bw hv hd).tru M'.fh hk, q1 F' H' (Same.refl _) M'⟩
    · cases e1
  · try simp only at e1
    split at e1 <;> cases e1
theorem tT_bl {m : M R} {t : TE} (k : ∀ σ H Q, tR (gx X) E m σ H Q → t σ H Q) : ∀ σ H Q, tT (gx X) E (blM m) σ H Q → tTest t σ H Q := by
  intro σ H Q ⟨O, F, δ, M, w⟩
  refine k σ H _ ⟨O, F, δ, M, wp_mono (wp_bind w) fun F' H' δ' r s M' q v hv => ?_⟩
  obtain ⟨b, eb, q⟩ := wp_opt q
  cases r with
  | d x =>
    cases x <;> cases eb
    cases hv
    exact ⟨_, rfl, q F' H' (Same.refl _) M'⟩
  | _ => cases eb
theorem pr_cmp {op : CmpOp} {f : D → D → Option S} {ma mb : M R} (hu : X.A.units + 64 < cLine) (h : cmpD op = some f) (ha : PE X a (tR (gx X) E ma)) (hb : PE X b (tR (gx X) E mb)) (hm : behindInMarks op b = false) : PE X (.Compare a [op] [b] pos) (tR (gx X) E (op2 f ma mb)) := by
  obtain ⟨r, h1, h2⟩ := cmp_ok (X := X) hu h
  exact (pe_cmpR h1 (pr_opd ha) (pr_opd hb) hm).imp fun σ H Q w => t_op2 h2 w
theorem pt_cmp' {op : CmpOp} {f : D → D → Option S} {ma mb : M R} (hu : X.A.units + 64 < cLine) (h : cmpD op = some f) (ha : PE X a (tR (gx X) E ma)) (hb : PE X b (tR (gx X) E mb)) (hm : behindInMarks op b = false) : PT X (.Compare a [op] [b] pos) (tT (gx X) E (blM (op2 f ma mb))) := by
  obtain ⟨r, h1, h2⟩ := cmp_ok (X := X) hu h
  exact (pt_cmpR h1 (pr_opd ha) (pr_opd hb) hm).imp (tT_bl fun σ H Q w => t_op2 h2 w)
/-- a op b op' c -/
def chainM (f f' : D → D → Option S) (ma mb mc : M R) : M R := bindM (opdM ma) fun x => bindM (opdM mb) fun y => fun δ =>
  match x.val δ, y.val δ with
  | some d, some e => match f d e with
    | some (.d (.bl true)) => bindM (opdM mc) (fun z => fun δ => match y.val δ, z.val δ with
      | some d, some e => liftOp (f' d e) δ
      | _, _ => none) δ
    | some (.d (.bl false)) => some (.ok (.d (.bl false)) δ)
    | _ => none
  | _, _ => none
def andM (a b : M Bool) : M Bool := bindM a fun x => if x then b else retM false
def orM (a b : M Bool) : M Bool := bindM a fun x => if x then retM true else b
def notM (a : M Bool) : M Bool := bindM a fun x => retM (!x)
variable {ta tb : M Bool} {rest : List Expr}
theorem pwt_one_and (h : PT X a (tT (gx X) E ta)) : PW X (.BoolOp .And [a] pos) (tT (gx X) E ta) := pw_and1 h
theorem pwt_one_or (h : PT X a (tT (gx X) E ta)) : PW X (.BoolOp .Or [a] pos) (tT (gx X) E ta) := pw_or1 h
theorem _root_.L2.PW.imp {X : Cx} {e : Expr} {t t' : TT} (h : PW X e t) (k : ∀ σ H Q, t' σ H Q → t σ H Q) : PW X e t' := ⟨fun wh pins s σ H Q I hw => h.run wh pins s σ H Q I (k σ H Q hw)⟩
theorem t_and (σ : L2.St) (H : Hp) (Q) (w : tT (gx X) E (andM ta tb) σ H Q) : tAnd (tT (gx X) E ta) (tT (gx X) E tb) σ H Q := by
  obtain ⟨O, F, δ, M, w⟩ := w
  refine ⟨O, F, δ, M, wp_mono (wp_bind w) fun F' H' δ' k s M' q => ?_⟩
  cases k with
  | true => exact ⟨O, F', δ', M', q⟩
  | false => exact wp_ret M' q
theorem t_or (σ : L2.St) (H : Hp) (Q) (w : tT (gx X) E (orM ta tb) σ H Q) : tOr (tT (gx X) E ta) (tT (gx X) E tb) σ H Q := by
  obtain ⟨O, F, δ, M, w⟩ := w
  refine ⟨O, F, δ, M, wp_mono (wp_bind w) fun F' H' δ' k s M' q => ?_⟩
  cases k with
  | true => exact wp_ret M' q
  | false => exact ⟨O, F', δ', M', q⟩
theorem pwt_and (ha : PT X a (tT (gx X) E ta)) (hb : PW X (.BoolOp .And (b :: rest) pos) (tT (gx X) E tb)) : PW X (.BoolOp .And (a :: b :: rest) pos) (tT (gx X) E (andM ta tb)) := (pw_and ha hb).imp t_and
theorem pwt_or (ha : PT X a (tT (gx X) E ta)) (hb : PW X (.BoolOp .Or (b :: rest) pos) (tT (gx X) E tb)) : PW X (.BoolOp .Or (a :: b :: rest) pos) (tT (gx X) E (orM ta tb)) := (pw_or ha hb).imp t_or
theorem pt_not' (ha : PT X a (tT (gx X) E ta)) : PT X (.UnaryOp .Not a pos) (tT (gx X) E (notM ta)) :=
  (pt_not ha).imp fun σ H Q ⟨O, F, δ, M, w⟩ => ⟨O, F, δ, M, wp_mono (wp_bind w) fun F' H' δ' k s M' q => wp_ret M' q⟩
/-! as values -/
/-- what an operand is worth by truth: x and y, x or y hand on the operand itself -/
def andV (ma mb : M R) : M R := bindM (opdM ma) fun x => fun δ => match x.val δ with
  | some d => match d.tru with
    | some true => mb δ
    | some false => some (.ok x.toR δ)
    | none => none
  | none => none
def orV (ma mb : M R) : M R := bindM (opdM ma) fun x => fun δ => match x.val δ with
  | some d => match d.tru with
    | some false => mb δ
    | some true => some (.ok x.toR δ)
    | none => none
  | none => none
def notV (ma : M R) : M R := bindM (opdM ma) fun x => fun δ => match (x.val δ).bind D.tru with
  | some b => some (.ok (.d (.bl (!b))) δ)
  | none => none
theorem RpO.r {O F H : Hp} {σ : L2.St} {δ : Dl} {v : V} {x : Op} (h : RpO (gx X) F σ v x) : RpR (gx X) O F H σ δ v x.toR := by
  cases x with
  | d x => exact h
  | slot i => exact h
theorem pr_one {op} {m : M R} (h : PE X a (tR (gx X) E m)) : PE X (.BoolOp op [a] pos) (tR (gx X) E m) := pe_one h
theorem pr_and {ma mb : M R} (ha : PE X a (tR (gx X) E ma)) (hb : PE X (.BoolOp .And (b :: rest) pos) (tR (gx X) E mb)) : PE X (.BoolOp .And (a :: b :: rest) pos) (tR (gx X) E (andV ma mb)) := by
  refine (pe_andT (pr_opd ha) hb).imp fun σ H Q ⟨O, F, δ, M, w⟩ => ⟨O, F, δ, M, wp_mono (wp_bind w) fun F' H' δ' x s M' q v hv => ?_⟩
  unfold wp at q
  simp only at q
  cases ex : x.val δ' with
  | none => rw [ex] at q; exact q.elim
  | some d =>
    rw [ex] at q
    cases et : d.tru with
    | none => simp only [et] at q
    | some k =>
      refine ⟨k, (M'.bw hv ex).tru M'.fh et, ?_⟩
      cases k with
      | true => simp only [et] at q; exact ⟨O, F', δ', M', q⟩
      | false => simp only [et] at q; exact q F' H' (Same.refl _) M' v hv.r
theorem pr_or {ma mb : M R} (ha : PE X a (tR (gx X) E ma)) (hb : PE X (.BoolOp .Or (b :: rest) pos) (tR (gx X) E mb)) : PE X (.BoolOp .Or (a :: b :: rest) pos) (tR (gx X) E (orV ma mb)) := by
  refine (pe_orT (pr_opd ha) hb).imp fun σ H Q ⟨O, F, δ, M, w⟩ => ⟨O, F, δ, M, wp_mono (wp_bind w) fun F' H' δ' x s M' q v hv => ?_⟩
  unfold wp at q
  simp only at q
  cases ex : x.val δ' with
  | none => rw [ex] at q; exact q.elim
  | some d =>
    rw [ex] at q
    cases et : d.tru with
    | none => simp only [et] at q
    | some k =>
      refine ⟨k, (M'.bw hv ex).tru M'.fh et, ?_⟩
      cases k with
      | true => simp only [et] at q; exact q F' H' (Same.refl _) M' v hv.r
      | false => simp only [et] at q; exact ⟨O, F', δ', M', q⟩
theorem pr_not {ma : M R} (ha : PE X a (tR (gx X) E ma)) : PE X (.UnaryOp .Not a pos) (tR (gx X) E (notV ma)) := by
  refine (pe_notT (pr_opd ha)).imp fun σ H Q ⟨O, F, δ, M, w⟩ => ⟨O, F, δ, M, wp_mono (wp_bind w) fun F' H' δ' x s M' q v hv => ?_⟩
  rcases wp_elim q with ⟨r, δ2, e1, q1⟩ | ⟨r, δ2, e1, q1⟩
  · try simp only at e1
    split at e1
    · rename_i k hk
      cases e1
      rw [Option.bind_eq_some_iff] at hk
      obtain ⟨d, hd, hk⟩ := hk
      exact ⟨k, (M'.bw hv hd).tru M'.fh hk, q1 F' H' (Same.refl _) M' _ (.bl _)⟩
    · cases e1
  · try simp only at e1
    split at e1 <;> cases e1
def ifM {α : Type} (c : M Bool) (a b : M α) : M α := bindM c fun x => if x then a else b
theorem pr_if {mc : M Bool} {c : Expr} {ma mb : M R} (hc : PT X c (tT (gx X) E mc)) (ha : PE X a (tR (gx X) E ma)) (hb : PE X b (tR (gx X) E mb)) : PE X (.IfExp c a b pos) (tR (gx X) E (ifM mc ma mb)) := by
  refine (pe_ifExp hc ha hb).imp fun σ H Q ⟨O, F, δ, M, w⟩ => ⟨O, F, δ, M, wp_mono (wp_bind w) fun F' H' δ' k s M' q => ?_⟩
  cases k with
  | true => exact ⟨O, F', δ', M', q⟩
  | false => exact ⟨O, F', δ', M', q⟩

/-! ### minus -/
def negD : D → Option S
  | .int i => some (.d (.int (-i)))
  | _ => none
theorem pr_neg {ma : M R} (ha : PE X a (tR (gx X) E ma)) : PE X (.UnaryOp .USub a pos) (tR (gx X) E (op1 negD ma)) := by
  refine (pe_un un_neg (pr_opd ha)).imp fun σ H Q w => t_op1 (r := rU fun i => .int (-i)) (fun O F H x d s Q fh bx ef q => ?_) w
  unfold negD at ef
  split at ef
  · cases ef; exact ⟨_, bx.int, q F H _ (Grow.refl fh) (.int _)⟩
  · cases ef
end
end Ev

set_option Elab.async false
set_option linter.all false
set_option maxRecDepth 100000
namespace Ev
open PySem PySem.Spec PyProof.Rows L2

/-! ### operands and data in a row -/
def argsM : List (M R) → M (List D)
  | [] => retM []
  | m :: ms => bindM (datM m) fun x => bindM (argsM ms) fun xs => retM (x :: xs)
def opsM : List (M R) → M (List Op)
  | [] => retM []
  | m :: ms => bindM (opdM m) fun x => bindM (opsM ms) fun xs => retM (x :: xs)
inductive RpOs (g : Gx) (F : Hp) (σ : L2.St) : List V → List Op → Prop
  | nil : RpOs g F σ [] []
  | cons {v : V} {vs : List V} {o : Op} {os : List Op} : RpO g F σ v o → RpOs g F σ vs os → RpOs g F σ (v :: vs) (o :: os)
theorem RpOs.mono {g : Gx} {F F' : Hp} {σ : L2.St} (s : Same F F') : ∀ {vs : List V} {os : List Op}, RpOs g F σ vs os → RpOs g F' σ vs os
  | _, _, .nil => .nil
  | _, _, .cons a b => .cons (a.mono s) (b.mono s)
def tOs (g : Gx) (E : WS) (m : M (List Op)) : TA := fun σ H Q => ∃ O F δ, Ms g O F H σ δ ∧ wp g O F σ δ m (fun F' H' _ r => ∀ vs, RpOs g F' σ vs r → Q vs H') (eE g (E σ))
def vals (δ : Dl) : List Op → Option (List D)
  | [] => some []
  | o :: os => match o.val δ, vals δ os with
    | some d, some ds => some (d :: ds)
    | _, _ => none
inductive BwA (g : Gx) (O F H : Hp) : List V → List D → Prop
  | nil : BwA g O F H [] []
  | cons {v : V} {vs : List V} {d : D} {ds : List D} : Bw g O F H v d → BwA g O F H vs ds → BwA g O F H (v :: vs) (d :: ds)
theorem Ms.bws {g : Gx} {O F H : Hp} {σ : L2.St} {δ : Dl} (M : Ms g O F H σ δ) : ∀ {vs : List V} {os : List Op} {ds : List D}, RpOs g F σ vs os → vals δ os = some ds → BwA g O F H vs ds
  | _, _, _, .nil, e => by cases e; exact .nil
  | _, _, _, .cons a b, e => by
    simp only [vals] at e
    split at e
    · cases e; exact .cons (M.bw a (by assumption)) (M.bws b (by assumption))
    · cases e
/-- a call of a built-in: what f says of the data -/
def opN (f : List D → Option S) (ms : List (M R)) : M R := bindM (opsM ms) fun os => fun δ => match vals δ os with
  | some ds => liftOp (f ds) δ
  | none => none
def ON (g : Gx) (r : List V → Hp → VK → Prop) (f : List D → Option S) : Prop := ∀ (O F H : Hp) (vs : List V) (ds : List D) (s : S) (Q : VK), Fit F H → BwA g O F H vs ds → f ds = some s →
  (∀ F' H' v, Grow F H F' H' → RpN g H F' H' v s → Q v H') → r vs H Q
theorem t_opN {g : Gx} {E : WS} {σ : L2.St} {H : Hp} {Q : VK} {r : List V → Hp → VK → Prop} {f : List D → Option S} {ms : List (M R)} (h : ON g r f) (w : tR g E (opN f ms) σ H Q) : tOs g E (opsM ms) σ H (fun vs H1 => r vs H1 Q) := by
  obtain ⟨O, F, δ, M, w⟩ := w
  refine ⟨O, F, δ, M, wp_mono (wp_bind w) fun F1 H1 δ1 os s1 M1 w1 vs hv => ?_⟩
  unfold wp at w1
  simp only at w1
  cases ex : vals δ1 os with
  | none => rw [ex] at w1; exact w1.elim
  | some ds =>
    rw [ex] at w1
    simp only [liftOp] at w1
    cases ef : f ds with
    | none => rw [ef] at w1; exact w1.elim
    | some s =>
      rw [ef] at w1
      simp only [Option.map_some] at w1
      exact h O F1 H1 vs ds s Q M1.fh (M1.bws hv ex) ef fun F' H' v k n => w1 F' H' k.ff (M1.grow k) v (M1.new k n)
section
variable {X : Cx} {E : WS} {a b e : Expr} {es : List Expr} {pos : Pos}
theorem star_plain {e : Expr} {es : List Expr} {env : Env} (h : (match e with | .Starred .. => false | _ => true) = true) : starEach (e :: es) env = (false, eval e env) :: starEach es env := by
  cases e <;> first | rfl | cases h
theorem pa_args_nil : PA X [] (tAs (gx X) E (argsM [])) := pa_nil.imp fun σ H Q ⟨O, F, δ, M, w⟩ => wp_ret M w [] .nil
theorem pa_args {m : M R} {ms : List (M R)} (h : PE X e (tR (gx X) E m)) (hr : PA X es (tAs (gx X) E (argsM ms))) (hs : starEach (e :: es) X.env = (false, eval e X.env) :: starEach es X.env) : PA X (e :: es) (tAs (gx X) E (argsM (m :: ms))) := by
  refine (pa_cons (pr_dat h) hr hs).imp fun σ H Q ⟨O, F, δ, M, w⟩ => ⟨O, F, δ, M, wp_mono (wp_bind w) fun F1 H1 δ1 x s1 M1 w1 v hv => ?_⟩
  exact ⟨O, F1, δ1, M1, wp_mono (wp_bind w1) fun F2 H2 δ2 xs s2 M2 w2 vs hvs => wp_ret M2 w2 _ (.cons (Rp.mono s2 _ _ hv) hvs)⟩
theorem pa_ops_nil : PA X [] (tOs (gx X) E (opsM [])) := pa_nil.imp fun σ H Q ⟨O, F, δ, M, w⟩ => wp_ret M w [] .nil
theorem pa_ops {m : M R} {ms : List (M R)} (h : PE X e (tR (gx X) E m)) (hr : PA X es (tOs (gx X) E (opsM ms))) (hs : starEach (e :: es) X.env = (false, eval e X.env) :: starEach es X.env) : PA X (e :: es) (tOs (gx X) E (opsM (m :: ms))) := by
  refine (pa_cons (pr_opd h) hr hs).imp fun σ H Q ⟨O, F, δ, M, w⟩ => ⟨O, F, δ, M, wp_mono (wp_bind w) fun F1 H1 δ1 x s1 M1 w1 v hv => ?_⟩
  exact ⟨O, F1, δ1, M1, wp_mono (wp_bind w1) fun F2 H2 δ2 xs s2 M2 w2 vs hvs => wp_ret M2 w2 _ (.cons (hv.mono s2) hvs)⟩

/-! ### displays -/
theorem argsM_len : ∀ {ms : List (M R)} {δ δ' : Dl} {xs : List D}, argsM ms δ = some (.ok xs δ') → xs.length = ms.length
  | [], _, _, _, h => by cases h; rfl
  | m :: ms, δ, δ', xs, h => by
    unfold argsM bindM at h
    cases e1 : datM m δ with
    | none => rw [e1] at h; cases h
    | some r => cases r with
      | err x d => rw [e1] at h; cases h
      | ok x d =>
        rw [e1] at h
        simp only [bindM] at h
        cases e2 : argsM ms d with
        | none => rw [e2] at h; cases h
        | some r => cases r with
          | err x d => rw [e2] at h; cases h
          | ok ys d' =>
            rw [e2] at h
            simp only [retM] at h
            cases h
            rw [List.length_cons, List.length_cons, argsM_len e2]
def tupM (ms : List (M R)) : M R := bindM (argsM ms) fun xs => retM (.d (.tup xs))
def lstM (ms : List (M R)) : M R := bindM (argsM ms) fun xs => retM (.own xs)
theorem wp_len {g : Gx} {O F : Hp} {σ : L2.St} {δ : Dl} {ms : List (M R)} {ok : Hp → Hp → Dl → List D → Prop} {er} (h : wp g O F σ δ (argsM ms) ok er) : wp g O F σ δ (argsM ms) (fun F' H' δ' xs => xs.length = ms.length ∧ ok F' H' δ' xs) er := by
  unfold wp at h ⊢
  cases e : argsM ms δ with
  | none => rw [e] at h; exact h
  | some r => cases r with
    | err x d => rw [e] at h; exact h
    | ok xs d => rw [e] at h; exact fun F' H' s M => ⟨argsM_len e, h F' H' s M⟩
theorem small_line {n : Nat} (h : n ≤ 1000) : n ≤ sizeLine := Nat.le_trans h (by decide)
theorem pr_tup {ms : List (M R)} {k} (h : PA X es (tAs (gx X) E (argsM ms))) (hl : ms.length ≤ 1000) : PE X (.Tuple es k pos) (tR (gx X) E (tupM ms)) := by
  refine (pe_tup h).imp fun σ H Q ⟨O, F, δ, M, w⟩ => ⟨O, F, δ, M, wp_mono (wp_len (wp_bind w)) fun F1 H1 δ1 xs s1 M1 w1 vs hv => ?_⟩
  refine ⟨by rw [hv.length, w1.1]; exact small_line hl, fun p hp => ?_⟩
  have k := grow_tup (vs := vs) M1.fh hp
  exact w1.2 _ _ k.ff (M1.grow k) _ (new_tup M1.fh hp hv)
theorem pr_lst {ms : List (M R)} (h : PA X es (tAs (gx X) E (argsM ms))) (hl : ms.length ≤ 1000) : PE X (.List es pos) (tR (gx X) E (lstM ms)) := by
  refine (pe_lst h).imp fun σ H Q ⟨O, F, δ, M, w⟩ => ⟨O, F, δ, M, wp_mono (wp_len (wp_bind w)) fun F1 H1 δ1 xs s1 M1 w1 vs hv => ?_⟩
  refine ⟨by rw [hv.length, w1.1]; exact small_line hl, fun p hp => ?_⟩
  have k := grow_lst (vs := vs) M1.fh hp
  exact w1.2 _ _ k.ff (M1.grow k) _ (M1.new k (new_own M1.fh hp hv))

/-! ### subscripts -/
theorem atI_rp {g : Gx} {F : Hp} {vs : List V} {ds : List D} {i : Int} {d : D} (r : RpA g F vs ds) (h : atI ds i = some d) : ∃ v, atI vs i = some v ∧ Rp g F v d := by
  unfold atI at h ⊢
  rw [r.length]
  cases e : ixN ds.length i with
  | none => rw [e] at h; cases h
  | some j =>
    rw [e] at h
    exact r.get h
def ixD : D → D → Option S
  | .dct ks ds, d => (d.key.bind fun z => findK (.inr z) ks ds).map .d
  | .tup xs, .int i => (atI xs i).map .d
  | .str z, .int i => if z.length ≤ sizeLine then (atI z.cps.toList i).map fun c => .d (.str ⟨#[c]⟩) else none
  | .lst xs, .int i => (atI xs i).map .d
  | .scr xs, .int i => (atI xs i).map .d
  | _, _ => none
def rIxD' (K : PySem.W.Frag) (w : World) : R2 := fun x y H Q => rDk K w (fun o H => ∃ v, o = some v ∧ Q v H) x y H ∨ rIx K x y H Q
theorem o2_ix {g : Gx} : O2 g (rIxD' g.K g.w) ixD := by
  intro O F H x y d e s Q fh bx by' ef q
  unfold ixD at ef
  split at ef
  · rw [Option.map_eq_some_iff] at ef
    obtain ⟨d, ed, rfl⟩ := ef
    rw [Option.bind_eq_some_iff] at ed
    obtain ⟨z, ez, ed⟩ := ed
    refine .inl (bx.dk by' fh ez (fun v d' h r => ?_) (fun h => ?_))
    · rw [ed] at h; cases h
      exact ⟨v, rfl, q F H _ (Grow.refl fh) r⟩
    · rw [ed] at h; cases h
  · rw [Option.map_eq_some_iff] at ef
    obtain ⟨d, ed, rfl⟩ := ef
    obtain ⟨a, vs, rfl, h1, r⟩ := bx.tup
    obtain ⟨v, hv, rv⟩ := atI_rp r ed
    exact .inr (.inr (.inl ⟨a, vs, _, v, rfl, by'.int, fit_tup fh h1, hv, q F H _ (Grow.refl fh) rv⟩))
  · split at ef
    · rw [Option.map_eq_some_iff] at ef
      obtain ⟨c, ed, rfl⟩ := ef
      exact .inr (.inr (.inr ⟨_, _, c, bx.str, by'.int, by assumption, ed, q F H _ (Grow.refl fh) (.str _)⟩))
    · cases ef
  · rw [Option.map_eq_some_iff] at ef
    obtain ⟨d, ed, rfl⟩ := ef
    obtain ⟨a, vs, rfl, h1, r⟩ := bx.list fh
    obtain ⟨v, hv, rv⟩ := atI_rp r ed
    exact .inr (.inl ⟨a, vs, _, v, rfl, by'.int, .inl (.inl h1), hv, q F H _ (Grow.refl fh) rv⟩)
  · rw [Option.map_eq_some_iff] at ef
    obtain ⟨d, ed, rfl⟩ := ef
    obtain ⟨a, vs, rfl, h1, r⟩ := bx.scr fh
    obtain ⟨v, hv, rv⟩ := atI_rp r ed
    exact .inr (.inl ⟨a, vs, _, v, rfl, by'.int, h1, hv, q F H _ (Grow.refl fh) rv⟩)
  · cases ef
theorem pr_ix {ma mb : M R} (hu : X.A.units + 64 < cLine) (ha : PE X a (tR (gx X) E ma)) (hb : PE X b (tR (gx X) E mb)) (hs : PlainIx b) : PE X (.Subscript a b pos) (tR (gx X) E (op2 ixD ma mb)) :=
  (pe_ix ((ix_dk hu).or ix_seq) (pr_opd ha) (pr_opd hb) hs).imp fun σ H Q w => t_op2 o2_ix w

/-! slices -/
def partM : Option (M R) → M (Option Int)
  | none => retM none
  | some m => bindM (opdM m) fun x => fun δ => match x.val δ with
    | some (.int i) => some (.ok (some i) δ)
    | _ => none
def tP (g : Gx) (E : WS) (m : M (Option Int)) : TO := fun σ H Q => ∃ O F δ, Ms g O F H σ δ ∧ wp g O F σ δ m (fun _ H' _ r => Q r H') (eE g (E σ))
theorem _root_.L2.PO.imp {X : Cx} {e : Option Expr} {t t' : TO} (h : PO X e t) (k : ∀ σ H Q, t' σ H Q → t σ H Q) : PO X e t' := ⟨fun pins s σ H Q I hw => h.run pins s σ H Q I (k σ H Q hw)⟩
theorem po_no : PO X none (tP (gx X) E (partM none)) := po_none.imp fun σ H Q ⟨O, F, δ, M, w⟩ => wp_ret M w
theorem po_is {m : M R} (h : PE X e (tR (gx X) E m)) : PO X (some e) (tP (gx X) E (partM (some m))) := by
  refine (po_some (pr_opd h)).imp fun σ H Q ⟨O, F, δ, M, w⟩ => ⟨O, F, δ, M, wp_mono (wp_bind w) fun F1 H1 δ1 x s1 M1 w1 v hv => ?_⟩
  unfold wp at w1
  simp only at w1
  cases ex : x.val δ1 with
  | none => rw [ex] at w1; exact w1.elim
  | some d =>
    rw [ex] at w1
    cases d with
    | int i => exact ⟨i, (M1.bw hv ex).int, w1 F1 H1 (Same.refl _) M1⟩
    | _ => exact w1.elim
def cutD {α : Type} (xs : List α) (lo hi : Option Int) : List α := (xs.drop (HT.sIx xs.length 0 lo)).take (HT.sIx xs.length xs.length hi - HT.sIx xs.length 0 lo)
theorem RpA.cut {g : Gx} {F : Hp} {vs : List V} {ds : List D} (r : RpA g F vs ds) (lo hi : Option Int) : RpA g F (cutV vs lo hi) (cutD ds lo hi) := by
  unfold cutV cutD; rw [r.length]; exact (r.drop _).take _
def slM (ma : M R) (lo hi : Option (M R)) (f : D → Option Int → Option Int → Option S) : M R := bindM (opdM ma) fun x => bindM (partM lo) fun l => bindM (partM hi) fun h => fun δ => match x.val δ with
  | some d => liftOp (f d l h) δ
  | none => none
def slD : D → Option Int → Option Int → Option S
  | .lst xs, l, h => some (.own (cutD xs l h))
  | .scr xs, l, h => some (.own (cutD xs l h))
  | .tup xs, l, h => some (.d (.tup (cutD xs l h)))
  | .str z, l, h => if z.length ≤ sizeLine then some (.d (.str (cutS z l h))) else none
  | _, _, _ => none
def rSlD (K : PySem.W.Frag) : V → Option Int → Option Int → Hp → VK → Prop := fun x l h H Q => rSlL K x l h H Q ∨ rSlA K x l h H Q ∨ rSlS x l h H Q
theorem sl_D : SlR X (rSlD X.K) := sl_list.or (sl_tupA.or sl_str)
theorem pr_sl {ma : M R} {lo hi : Option Expr} {ml mh : Option (M R)} {p2 : Pos} (ha : PE X a (tR (gx X) E ma)) (hl : PO X lo (tP (gx X) E (partM ml))) (hh : PO X hi (tP (gx X) E (partM mh))) : PE X (.Subscript a (.Slice lo hi none p2) pos) (tR (gx X) E (slM ma ml mh slD)) := by
  refine (pe_slice sl_D (pr_opd ha) hl hh).imp fun σ H Q ⟨O, F, δ, M, w⟩ => ⟨O, F, δ, M, wp_mono (wp_bind w) fun F1 H1 δ1 x s1 M1 w1 v hv => ?_⟩
  refine ⟨O, F1, δ1, M1, wp_mono (wp_bind w1) fun F2 H2 δ2 l s2 M2 w2 => ?_⟩
  refine ⟨O, F2, δ2, M2, wp_mono (wp_bind w2) fun F3 H3 δ3 h s3 M3 w3 => ?_⟩
  unfold wp at w3
  simp only at w3
  cases ex : x.val δ3 with
  | none => rw [ex] at w3; exact w3.elim
  | some d =>
    rw [ex] at w3
    have bw := M3.bw ((hv.mono s2).mono s3) ex
    simp only [liftOp] at w3
    cases ef : slD d l h with
    | none => rw [ef] at w3; exact w3.elim
    | some s =>
      rw [ef] at w3
      simp only [Option.map_some] at w3
      have fin : ∀ F' H' u, Grow F3 H3 F' H' → RpN (gx X) H3 F' H' u s → Q u H' := fun F' H' u k n => w3 F' H' k.ff (M3.grow k) u (M3.new k n)
      unfold slD at ef
      split at ef
      · cases ef
        obtain ⟨p, vs, rfl, h1, r⟩ := bw.list M3.fh
        exact .inl ⟨p, vs, rfl, .inl (.inl h1), fun p hp => fin _ _ _ (grow_lst M3.fh hp) (new_own M3.fh hp (r.cut _ _))⟩
      · cases ef
        obtain ⟨p, vs, rfl, h1, r⟩ := bw.scr M3.fh
        exact .inl ⟨p, vs, rfl, h1, fun p hp => fin _ _ _ (grow_lst M3.fh hp) (new_own M3.fh hp (r.cut _ _))⟩
      · cases ef
        obtain ⟨p, vs, rfl, h1, r⟩ := bw.tup
        refine .inr (.inl ⟨p, vs, rfl, fit_tup M3.fh h1, fun hw => ?_, fun _ p hp => fin _ _ _ (grow_tup M3.fh hp) (new_tup M3.fh hp (r.cut _ _))⟩)
        have hc : cutV vs l h = vs := by
          unfold cutV
          rw [hw.1, hw.2, List.drop_zero, Nat.sub_zero, List.take_length]
        have r2 := r.cut l h
        rw [hc] at r2
        exact fin F3 H3 _ (Grow.refl M3.fh) (.tup h1 r2)
      · split at ef
        · cases ef
          have := bw.str; subst this
          exact .inr (.inr ⟨_, rfl, by assumption, fin F3 H3 _ (Grow.refl M3.fh) (.str _)⟩)
        · cases ef
      · cases ef
end
end Ev

set_option Elab.async false
set_option linter.all false
set_option maxRecDepth 100000
namespace Ev
open PySem PySem.Spec PyProof.Rows L2

theorem BwA.one {g : Gx} {O F H : Hp} {vs : List V} {d : D} (b : BwA g O F H vs [d]) : ∃ v, vs = [v] ∧ Bw g O F H v d := by
  cases b with | cons a b => cases b; exact ⟨_, rfl, a⟩
theorem BwA.two {g : Gx} {O F H : Hp} {vs : List V} {d e : D} (b : BwA g O F H vs [d, e]) : ∃ v w, vs = [v, w] ∧ Bw g O F H v d ∧ Bw g O F H w e := by
  cases b with | cons a b => cases b with | cons b c => cases c; exact ⟨_, _, rfl, a, b⟩
/-! ### built-in functions by data -/
def lenD : List D → Option S
  | [.str z] => if z.length ≤ sizeLine then some (.d (.int (z.length : Nat))) else none
  | [d] => (d.seqT).map fun xs => .d (.int (xs.length : Nat))
  | _ => none
def rLenD (K : PySem.W.Frag) : List V → Hp → VK → Prop := fun xs H Q => (∃ p ys, xs = [.ref p] ∧ (SqL K H p ys ∨ SqT K H p ys) ∧ Q (.int ys.length) H) ∨ (∃ z, xs = [.str z] ∧ z.length ≤ sizeLine ∧ Q (.int z.length) H)
theorem _root_.L2.CallR.or' {X : Cx} {f : Value} {r r' : List V → Hp → VK → Prop} (h : CallR X f r) (h' : CallR X f r') : CallR X f (fun xs H Q => r xs H Q ∨ r' xs H Q) := by
  intro pins s σ H xs us Q I rv q
  rcases q with q | q
  · exact h pins s σ H xs us Q I rv q
  · exact h' pins s σ H xs us Q I rv q
section
variable {X : Cx} {g : Gx} {E : WS}
theorem call_lenD : CallR X (.builtin "len") (rLenD X.K) := call_len_seq.or' call_len_str
theorem on_len : ON g (rLenD g.K) lenD := by
  intro O F H vs ds s Q fh b ef q
  unfold lenD at ef
  split at ef
  · split at ef
    · cases ef
      obtain ⟨v, rfl, b1⟩ := b.one
      have := b1.str; subst this
      exact .inr ⟨_, rfl, by assumption, q F H _ (Grow.refl fh) (.int _)⟩
    · cases ef
  · rw [Option.map_eq_some_iff] at ef
    obtain ⟨xs, ex, rfl⟩ := ef
    obtain ⟨v, rfl, b1⟩ := b.one
    obtain ⟨a, vs, rfl, h1, r⟩ := b1.seqT ex fh
    refine .inl ⟨a, vs, rfl, h1, ?_⟩
    rw [r.length]
    exact q F H _ (Grow.refl fh) (.int _)
  · cases ef
def absD : List D → Option S
  | [.int i] => some (.d (.int (if i < 0 then -i else i)))
  | _ => none
theorem on_abs : ON g (fun xs H Q => ∃ i, xs = [.int i] ∧ Q (.int (if i < 0 then -i else i)) H) absD := by
  intro O F H vs ds s Q fh b ef q
  unfold absD at ef
  split at ef
  · cases ef
    obtain ⟨v, rfl, b1⟩ := b.one
    have := b1.int; subst this
    exact ⟨_, rfl, q F H _ (Grow.refl fh) (.int _)⟩
  · cases ef
def max2D : List D → Option S
  | [.int i, .int j] => some (.d (.int (if j > i then j else i)))
  | _ => none
def min2D : List D → Option S
  | [.int i, .int j] => some (.d (.int (if j < i then j else i)))
  | _ => none
theorem on_max2 : ON g (fun xs H Q => ∃ i j, xs = [.int i, .int j] ∧ Q (.int (if j > i then j else i)) H) max2D := by
  intro O F H vs ds s Q fh b ef q
  unfold max2D at ef
  split at ef
  · cases ef
    obtain ⟨v, w, rfl, b1, c⟩ := b.two
    have := b1.int; subst this
    have := c.int; subst this
    exact ⟨_, _, rfl, q F H _ (Grow.refl fh) (.int _)⟩
  · cases ef
theorem on_min2 : ON g (fun xs H Q => ∃ i j, xs = [.int i, .int j] ∧ Q (.int (if j < i then j else i)) H) min2D := by
  intro O F H vs ds s Q fh b ef q
  unfold min2D at ef
  split at ef
  · cases ef
    obtain ⟨v, w, rfl, b1, c⟩ := b.two
    have := b1.int; subst this
    have := c.int; subst this
    exact ⟨_, _, rfl, q F H _ (Grow.refl fh) (.int _)⟩
  · cases ef
def gcdD : List D → Option S
  | [.int i, .int j] => some (.d (.int ((Nat.gcd i.natAbs j.natAbs : Nat) : Int)))
  | _ => none
theorem on_gcd : ON g rGcd gcdD := by
  intro O F H vs ds s Q fh b ef q
  unfold gcdD at ef
  split at ef
  · cases ef
    obtain ⟨v, w, rfl, b1, c⟩ := b.two
    have := b1.int; subst this
    have := c.int; subst this
    exact ⟨_, _, rfl, q F H _ (Grow.refl fh) (.int _)⟩
  · cases ef
def intF : List D → Option S
  | [.int i] => some (.d (.int i))
  | [.bl k] => some (.d (.int (if k then 1 else 0)))
  | [.str a] => match PySem.intText? a with
    | some n => if a.length ≤ 640 then some (.d (.int n)) else none
    | none => none
  | _ => none
def rIntD : List V → Hp → VK → Prop := fun xs H Q => ((∃ i, xs = [.int i] ∧ Q (.int i) H) ∨ ∃ k, xs = [.bl k] ∧ Q (.int (if k then 1 else 0)) H) ∨ ∃ a n, xs = [.str a] ∧ PySem.intText? a = some n ∧ a.length ≤ 640 ∧ Q (.int n) H
theorem call_intD : CallR X (.type "int") rIntD := call_int1.or' call_int_str
theorem on_int : ON g rIntD intF := by
  intro O F H vs ds s Q fh b ef q
  unfold intF at ef
  split at ef
  · cases ef
    obtain ⟨v, rfl, b1⟩ := b.one
    have := b1.int; subst this
    exact .inl (.inl ⟨_, rfl, q F H _ (Grow.refl fh) (.int _)⟩)
  · cases ef
    obtain ⟨v, rfl, b1⟩ := b.one
    have := b1.bl; subst this
    exact .inl (.inr ⟨_, rfl, q F H _ (Grow.refl fh) (.int _)⟩)
  · split at ef
    · split at ef
      · cases ef
        obtain ⟨v, rfl, b1⟩ := b.one
        have := b1.str; subst this
        exact .inr ⟨_, _, rfl, by assumption, by assumption, q F H _ (Grow.refl fh) (.int _)⟩
      · cases ef
    · cases ef
  · cases ef
def strF : List D → Option S
  | [.int i] => if i.natAbs.log2 < 1920 then some (.d (.str (Str.ofString (toString i)))) else none
  | [.str a] => some (.d (.str a))
  | _ => none
def rStrD : List V → Hp → VK → Prop := fun xs H Q => (∃ i, xs = [.int i] ∧ i.natAbs.log2 < 1920 ∧ Q (.str (toString i)) H) ∨ ∃ a, xs = [.str a] ∧ Q (.str a) H
theorem call_strD : CallR X (.type "str") rStrD := call_str_int.or' SkE.call_str_str
theorem on_str : ON g rStrD strF := by
  intro O F H vs ds s Q fh b ef q
  unfold strF at ef
  split at ef
  · split at ef
    · cases ef
      obtain ⟨v, rfl, b1⟩ := b.one
      have := b1.int; subst this
      exact .inl ⟨_, rfl, by assumption, q F H _ (Grow.refl fh) (.str _)⟩
    · cases ef
  · cases ef
    obtain ⟨v, rfl, b1⟩ := b.one
    have := b1.str; subst this
    exact .inr ⟨_, rfl, q F H _ (Grow.refl fh) (.str _)⟩
  · cases ef
def listF : List D → Option S
  | [d] => (d.seqT).map fun xs => .own xs
  | _ => none
theorem on_list : ON g (fun xs H Q => ∃ p ys, xs = [.ref p] ∧ (SqL g.K H p ys ∨ SqT g.K H p ys) ∧ ∀ l, H l = none → Q (.ref l) (upd H l (.lst ys))) listF := by
  intro O F H vs ds s Q fh b ef q
  unfold listF at ef
  split at ef
  · rw [Option.map_eq_some_iff] at ef
    obtain ⟨xs, ex, rfl⟩ := ef
    obtain ⟨v, rfl, b1⟩ := b.one
    obtain ⟨a, vs, rfl, h1, r⟩ := b1.seqT ex fh
    exact ⟨a, vs, rfl, h1, fun p hp => q _ _ _ (grow_lst fh hp) (new_own fh hp r)⟩
  · cases ef
def tupleF : List D → Option S
  | [.tup xs] => some (.d (.tup xs))
  | [d] => (d.seqL).map fun xs => .d (.tup xs)
  | _ => none
theorem on_tuple : ON g (fun xs H Q => ∃ p ys, xs = [.ref p] ∧ ((SqL g.K H p ys ∧ ∀ l, H l = none → Q (.ref l) (upd H l (.tup ys))) ∨ (SqT g.K H p ys ∧ Q (.ref p) H))) tupleF := by
  intro O F H vs ds s Q fh b ef q
  unfold tupleF at ef
  split at ef
  · cases ef
    obtain ⟨v, rfl, b1⟩ := b.one
    obtain ⟨a, vs, rfl, h1, r⟩ := b1.tup
    exact ⟨a, vs, rfl, .inr ⟨fit_tup fh h1, q F H _ (Grow.refl fh) (.tup h1 r)⟩⟩
  · rw [Option.map_eq_some_iff] at ef
    obtain ⟨xs, ex, rfl⟩ := ef
    obtain ⟨v, rfl, b1⟩ := b.one
    obtain ⟨a, vs, rfl, h1, r⟩ := b1.seqL ex fh
    exact ⟨a, vs, rfl, .inl ⟨h1, fun p hp => q _ _ _ (grow_tup fh hp) (new_tup fh hp r)⟩⟩
  · cases ef
/-! truths -/
def bls : List D → Option (List Bool)
  | [] => some []
  | .bl b :: xs => (bls xs).map (b :: ·)
  | _ => none
theorem RpA.bls {F : Hp} : ∀ {vs : List V} {ds : List D} {bs : List Bool}, RpA g F vs ds → Ev.bls ds = some bs → vs = bs.map V.bl
  | _, _, _, .nil, e => by cases e; rfl
  | _, _, _, .cons (d := d) a b, e => by
    cases d with
    | bl x =>
      simp only [Ev.bls, Option.map_eq_some_iff] at e
      obtain ⟨bs, e1, rfl⟩ := e
      cases a
      rw [List.map_cons, b.bls e1]
    | _ => cases e
def boolsD (f : List Bool → Bool) : List D → Option S
  | [d] => match d.seqL with
    | some xs => (bls xs).map fun bs => .d (.bl (f bs))
    | none => none
  | _ => none
theorem on_bools {f : List Bool → Bool} : ON g (fun vs H Q => ∃ (a : Addr) (bs : List Bool), vs = [V.ref a] ∧ SqL g.K H a (bs.map V.bl) ∧ Q (.bl (f bs)) H) (boolsD f) := by
  intro O F H vs ds s Q fh b ef q
  unfold boolsD at ef
  split at ef
  · split at ef
    · rename_i xs ex
      rw [Option.map_eq_some_iff] at ef
      obtain ⟨bs, eb, rfl⟩ := ef
      obtain ⟨v, rfl, b1⟩ := b.one
      obtain ⟨a, vs, rfl, h1, r⟩ := b1.seqL ex fh
      have := r.bls eb; subst this
      exact ⟨a, bs, rfl, h1, q F H _ (Grow.refl fh) (.bl _)⟩
    · cases ef
  · cases ef
/-! ints -/
def intsOf : List D → Option (List Int)
  | [] => some []
  | .int b :: xs => (intsOf xs).map (b :: ·)
  | _ => none
theorem RpA.intsOf {F : Hp} : ∀ {vs : List V} {ds : List D} {bs : List Int}, RpA g F vs ds → Ev.intsOf ds = some bs → vs = bs.map V.int
  | _, _, _, .nil, e => by cases e; rfl
  | _, _, _, .cons (d := d) a b, e => by
    cases d with
    | int x =>
      simp only [Ev.intsOf, Option.map_eq_some_iff] at e
      obtain ⟨bs, e1, rfl⟩ := e
      cases a
      rw [List.map_cons, b.intsOf e1]
    | _ => cases e
def sumD : List D → Option S
  | [d] => match d.seqL with
    | some xs => (intsOf xs).map fun bs => .d (.int bs.sum)
    | none => none
  | _ => none
theorem on_sum : ON g (rSum g.K) sumD := by
  intro O F H vs ds s Q fh b ef q
  unfold sumD at ef
  split at ef
  · split at ef
    · rename_i xs ex
      rw [Option.map_eq_some_iff] at ef
      obtain ⟨bs, eb, rfl⟩ := ef
      obtain ⟨v, rfl, b1⟩ := b.one
      obtain ⟨a, vs, rfl, h1, r⟩ := b1.seqL ex fh
      have := r.intsOf eb; subst this
      exact ⟨a, bs, rfl, h1, q F H _ (Grow.refl fh) (.int _)⟩
    · cases ef
  · cases ef
/-! isinstance, type -/
def D.tyn : D → Option String
  | .non => some "NoneType"
  | .bl _ => some "bool"
  | .int _ => some "int"
  | .str _ => some "str"
  | .tup _ => some "tuple"
  | .lst _ => some "list"
  | .scr _ => some "list"
  | _ => none
theorem SqL.tyx {K : PySem.W.Frag} {H : Hp} {a : Addr} {vs : List V} (h : SqL K H a vs) : TyX K H (.ref a) (.type "list") := by
  rcases h with (h | ⟨o, h⟩) | ⟨o, its, n, h1, h2, _⟩
  · exact .base (.lst h)
  · exact .base (.frz h)
  · exact .kList h1 h2
theorem SqT.tyx {K : PySem.W.Frag} {H : Hp} {a : Addr} {vs : List V} (h : SqT K H a vs) : TyX K H (.ref a) (.type "tuple") := by
  rcases h with (h | ⟨o, h⟩) | ⟨o, its, n, h1, h2, _⟩
  · exact .base (.tup h)
  · exact .fTuple h
  · exact .kTuple h1 h2
theorem Bw.tyx {O F H : Hp} {v : V} {d : D} {n : String} (b : Bw g O F H v d) (fh : Fit F H) (e : d.tyn = some n) : TyX g.K H v (.type n) := by
  cases d with
  | non => cases e; have := b.non; subst this; exact .base .non
  | bl x => cases e; have := b.bl; subst this; exact .base (.bl x)
  | int x => cases e; have := b.int; subst this; exact .base (.int x)
  | str x => cases e; have := b.str; subst this; exact .base (.str x)
  | tup xs => cases e; obtain ⟨a, vs, rfl, h1, r⟩ := b.tup; exact SqT.tyx (fit_tup fh h1)
  | lst xs => cases e; obtain ⟨a, vs, rfl, h1, r⟩ := b.list fh; exact .base (.lst h1)
  | scr xs => cases e; obtain ⟨a, vs, rfl, h1, r⟩ := b.scr fh; exact SqL.tyx h1
  | _ => cases e
def rIsiD (K : PySem.W.Frag) : List V → Hp → VK → Prop := fun xs H Q => rIsi K xs H Q ∨ rIsiT K xs H Q
theorem call_isiD : CallR X (.builtin "isinstance") (rIsiD X.K) := call_isi.or' call_isiT
def allTy : List D → Option (List String)
  | [] => some []
  | .ty n :: r => (allTy r).map (n :: ·)
  | _ => none
theorem allTy_ok {F : Hp} : ∀ {cs : List D} {vs : List V} {ns : List String}, RpA g F vs cs → allTy cs = some ns → Paired ClsV vs (ns.map Value.type)
  | _, _, _, .nil, e => by cases e; exact .nil
  | _, _, _, .cons (d := d) a b, e => by
    cases d with
    | ty n =>
      simp only [allTy, Option.map_eq_some_iff] at e
      obtain ⟨ns, e1, rfl⟩ := e
      cases a
      exact .cons (.ty n) (allTy_ok b e1)
    | _ => cases e
def kitAny' (t : String) : List String → Option Bool
  | [] => some false
  | n :: r => match kitB t n with
    | some true => some true
    | some false => kitAny' t r
    | none => none
theorem kitAny'_ok {K : PySem.W.Frag} {t : String} : ∀ {ns : List String} {b : Bool}, kitAny' t ns = some b → PySem.W.kitAny K (.type t) (ns.map Value.type) = some b
  | [], _, h => by cases h; exact kitAny_nil
  | n :: r, b, h => by
    unfold kitAny' at h
    split at h
    · rename_i hk; cases h; exact kitAny_cons (kit_ty hk) (fun z => nomatch z) (fun _ => rfl)
    · rename_i hk; exact kitAny_cons (kit_ty hk) (fun _ => kitAny'_ok h) (fun z => nomatch z)
    · cases h
def isiF : List D → Option S
  | [d, .ty n] => match d.tyn with
    | some t => (kitB t n).map fun b => .d (.bl b)
    | none => none
  | [d, .tup cs] => match d.tyn, allTy cs with
    | some t, some ns => (kitAny' t ns).map fun b => .d (.bl b)
    | _, _ => none
  | _ => none
end
end Ev

set_option Elab.async false
set_option linter.all false
set_option maxRecDepth 100000
namespace Ev
open PySem PySem.Spec PyProof.Rows L2

/-! ### statements: L the slots that are lent (parameters by reference): never bound anew -/
inductive Fl where
  | next | ret (s : S) | brk | cont
def FlP (g : Gx) (O : Hp) (D : Ends) (F' H' : Hp) (σ' : L2.St) (δ' : Dl) : Fl → Prop
  | .next => D.nx σ' H'
  | .brk => D.bk σ' H'
  | .cont => D.ct σ' H'
  | .ret s => ∀ v, RpT g O F' H' σ' δ' v s → D.rt v H'
def Keep (L : List Nat) (σ σ' : L2.St) : Prop := σ'.length = σ.length ∧ ∀ i ∈ L, σ'[i]? = σ[i]?
theorem Keep.refl {L : List Nat} {σ : L2.St} : Keep L σ σ := ⟨rfl, fun _ _ => rfl⟩
theorem Keep.trans {L : List Nat} {σ σ1 σ2 : L2.St} (a : Keep L σ σ1) (b : Keep L σ1 σ2) : Keep L σ σ2 := ⟨b.1.trans a.1, fun i h => (b.2 i h).trans (a.2 i h)⟩
/-- what is wanted behind a statement that runs from F, σ, δ -/
def wps (g : Gx) (E : WS) (O F : Hp) (L : List Nat) (σ : L2.St) (δ : Dl) (m : M Fl) (D : Ends) : Prop :=
  match m δ with
  | none => False
  | some (.ok fl δ') => ∀ F' H' σ', Same F F' → Keep L σ σ' → Ms g O F' H' σ' δ' → FlP g O D F' H' σ' δ' fl
  | some (.err e δ') => ∀ F' H' σ' c dd, Same F F' → Keep L σ σ' → Ms g O F' H' σ' δ' → RpE g F' H' e c dd → E σ' c dd H'
/-- E's wish is told of the lent slots as they stood at the entry -/
def tS (g : Gx) (E : WS) (L : List Nat) (m : M Fl) : TS := fun D σ H => ∃ O F δ, Ms g O F H σ δ ∧ wps g E O F L σ δ m D
def seqM (a b : M Fl) : M Fl := bindM a fun fl => match fl with
  | .next => b
  | x => retM x
section
variable {g : Gx} {E : WS} {O F H : Hp} {L : List Nat} {σ : L2.St} {δ : Dl} {D : Ends}
theorem wps_mono {F0 : Hp} {σ0 : L2.St} {m : M Fl} (s : Same F0 F) (k : Keep L σ0 σ) (h : wps g E O F0 L σ0 δ m D) : wps g E O F L σ δ m D := by
  unfold wps at h ⊢
  cases e : m δ with
  | none => rw [e] at h; exact h
  | some r => cases r with
    | ok fl δ' => rw [e] at h; exact fun F' H' σ' s' k' M => h F' H' σ' (s.trans s') (k.trans k') M
    | err x δ' => rw [e] at h; exact fun F' H' σ' c dd s' k' M r => h F' H' σ' c dd (s.trans s') (k.trans k') M r
/-- an expression ahead of a statement's end -/
theorem wps_bind {α : Type} {m : M α} {f : α → M Fl} (h : wps g E O F L σ δ (bindM m f) D) : wp g O F σ δ m (fun F' _ δ' a => wps g E O F' L σ δ' (f a) D) (eE g (E σ)) := by
  unfold wps at h
  unfold wp
  unfold bindM at h
  cases e : m δ with
  | none => rw [e] at h; exact h
  | some r => cases r with
    | err x δ' => rw [e] at h; exact fun F' H' s M c dd r => h F' H' σ c dd s Keep.refl M r
    | ok a δ' =>
      rw [e] at h
      intro F' H' s M
      simp only at h
      show wps g E O F' L σ δ' (f a) D
      unfold wps
      cases e2 : f a δ' with
      | none => rw [e2] at h; exact h
      | some r => cases r with
        | ok b δ'' => rw [e2] at h; exact fun F'' H'' σ'' s' k' M' => h F'' H'' σ'' (s.trans s') k' M'
        | err x δ'' => rw [e2] at h; exact fun F'' H'' σ'' c dd s' k' M' r => h F'' H'' σ'' c dd (s.trans s') k' M' r
theorem wps_ret {fl : Fl} (M : Ms g O F H σ δ) (h : wps g E O F L σ δ (retM fl) D) : FlP g O D F H σ δ fl := h F H σ (Same.refl _) Keep.refl M
/-- a statement ahead of a statement: at each end of the first -/
theorem wps_seq {a b : M Fl} (h : wps g E O F L σ δ (seqM a b) D) : ∃ P : Hp → L2.St → Dl → Prop, wps g E O F L σ δ a { D with nx := fun σ' H' => ∃ F' δ', Ms g O F' H' σ' δ' ∧ wps g E O F' L σ' δ' b D } := by
  refine ⟨fun _ _ _ => True, ?_⟩
  unfold wps at h ⊢
  unfold seqM bindM at h
  cases e : a δ with
  | none => rw [e] at h; exact h
  | some r => cases r with
    | err x δ' => rw [e] at h; exact h
    | ok fl δ' =>
      rw [e] at h
      simp only at h
      cases fl with
      | next =>
        intro F' H' σ' s k M
        refine ⟨F', δ', M, ?_⟩
        simp only at h
        show wps g E O F' L σ' δ' b D
        unfold wps
        cases e2 : b δ' with
        | none => rw [e2] at h; exact h
        | some r => cases r with
          | ok b δ'' => rw [e2] at h; exact fun F'' H'' σ'' s' k' M' => h F'' H'' σ'' (s.trans s') (k.trans k') M'
          | err x δ'' => rw [e2] at h; exact fun F'' H'' σ'' c dd s' k' M' r => h F'' H'' σ'' c dd (s.trans s') (k.trans k') M' r
      | ret s => exact h
      | brk => exact h
      | cont => exact h
theorem t_seq {a b : M Fl} (w : tS g E L (seqM a b) D σ H) : tSeq (tS g E L a) (tS g E L b) D σ H := by
  obtain ⟨O, F, δ, M, w⟩ := w
  obtain ⟨_, w⟩ := wps_seq w
  refine ⟨O, F, δ, M, ?_⟩
  unfold wps at w ⊢
  cases e : a δ with
  | none => rw [e] at w; exact w
  | some r => cases r with
    | err x δ' => rw [e] at w; exact w
    | ok fl δ' =>
      rw [e] at w
      cases fl with
      | next =>
        intro F' H' σ' s k M'
        obtain ⟨F2, δ2, M2, w2⟩ := w F' H' σ' s k M'
        exact ⟨O, F2, δ2, M2, w2⟩
      | ret s => exact w
      | brk => exact w
      | cont => exact w
end
section
variable {X : Cx} {E : WS} {L : List Nat} {st : Stmt} {rest : List Stmt} {e : Expr} {pos : Pos} {m n : M Fl}
theorem ps_nil' : PSs X [] (tS (gx X) E L (retM .next)) := pss_nil.imp fun D σ H ⟨O, F, δ, M, w⟩ => wps_ret M w
theorem ps_cons' (h1 : PS X st (tS (gx X) E L m)) (h2 : PSs X rest (tS (gx X) E L n)) : PSs X (st :: rest) (tS (gx X) E L (seqM m n)) := (pss_cons h1 h2).imp fun D σ H w => t_seq w
theorem ps_pass' : PS X (.Pass pos) (tS (gx X) E L (retM .next)) := ps_pass.imp fun D σ H ⟨O, F, δ, M, w⟩ => wps_ret M w
theorem ps_break' : PS X (.Break pos) (tS (gx X) E L (retM .brk)) := ps_break.imp fun D σ H ⟨O, F, δ, M, w⟩ => wps_ret M w
theorem ps_cont' : PS X (.Continue pos) (tS (gx X) E L (retM .cont)) := ps_continue.imp fun D σ H ⟨O, F, δ, M, w⟩ => wps_ret M w
theorem ps_doc' {x j pos'} : PS X (.Expr (.Constant (.str x) j pos) pos') (tS (gx X) E L (retM .next)) := ps_doc.imp fun D σ H ⟨O, F, δ, M, w⟩ => wps_ret M w
def dropM (a : M R) : M Fl := bindM a fun _ => retM .next
theorem RpO.some {g : Gx} {F : Hp} {σ : L2.St} {v : V} {o : Op} (h : RpO g F σ v o) : True := trivial
theorem ps_expr' {a : M R} (he : PE X e (tR (gx X) E a)) (hs : swapsWith e none pos.line X.env = pure false) : PS X (.Expr e pos) (tS (gx X) E L (dropM a)) := by
  refine (ps_expr he hs).imp fun D σ H ⟨O, F, δ, M, w⟩ => ⟨O, F, δ, M, wp_mono (wps_bind w) fun F1 H1 δ1 r s1 M1 w1 v hv => wps_ret M1 w1⟩
/-- the result as it leaves a def: a slot's list leaves as data (it is frozen) or, a list of one's own that stands in a local slot, as it is -/
def resM (a : M R) : M S := bindM a fun r => match r with
  | .d x => retM (.d x)
  | .own xs => retM (.own xs)
  | .od ks xs => retM (.od ks xs)
  | .slot i => fun δ => match δ[i]? with
    | some (some (.d x)) => some (.ok (.d x) δ)
    | some (some (.own xs)) => some (.ok (.own xs) (δ.set i none))
    | some (some (.od ks xs)) => some (.ok (.od ks xs) (δ.set i none))
    | _ => none
def retS (a : M R) : M Fl := bindM (resM a) fun s => retM (.ret s)
end
theorem Ms.forget {g : Gx} {O F H : Hp} {σ : L2.St} {δ : Dl} {i : Nat} (M : Ms g O F H σ δ) : Ms g O F H σ (δ.set i none) := by
  refine ⟨M.fh, M.oh, M.dj, fun j s h hm => ?_, fun j k s t v h1 h2 => ?_, fun j cs h => ?_, M.m1.set (fun _ z => nomatch z)⟩
  · rcases get_set_of h with ⟨_, z⟩ | ⟨_, h'⟩
    · cases z
    · exact M.sl j s h' hm
  · rcases get_set_of h1 with ⟨_, z⟩ | ⟨_, h1'⟩
    · cases z
    rcases get_set_of h2 with ⟨_, z⟩ | ⟨_, h2'⟩
    · cases z
    exact M.ap j k s t v h1' h2'
  · rcases get_set_of h with ⟨_, z⟩ | ⟨_, h'⟩
    · cases z
    · exact M.mm j cs h'
theorem forget_apart {g : Gx} {O F H : Hp} {σ : L2.St} {δ : Dl} {i : Nat} {s : S} {v : V} (M : Ms g O F H σ δ) (hx : δ[i]? = some (some s)) (ho : s.isOwn = true) (hv : σ[i]? = some (some v)) : Apart σ (δ.set i none) v := fun j t hj ht hs => by
  rcases get_set_of hj with ⟨_, z⟩ | ⟨ne, hj'⟩
  · cases z
  · exact ne (M.ap i j s t v hx hj' ho ht hv hs)
theorem wp_resM {g : Gx} {E : WS} {O F : Hp} {σ : L2.St} {δ : Dl} {a : M R} {ok : Hp → Hp → Dl → S → Prop} (h : wp g O F σ δ (resM a) ok (eE g (E σ))) :
    wp g O F σ δ a (fun F' H' δ' r => ∀ v, RpR g O F' H' σ δ' v r → ∃ F2 δ2 s, Same F' F2 ∧ Ms g O F2 H' σ δ2 ∧ RpT g O F2 H' σ δ2 v s ∧ ok F2 H' δ2 s) (eE g (E σ)) := by
  refine wp_mono (wp_bind h) fun F' H' δ' r s M q v hv => ?_
  cases r with
  | d x => exact ⟨F', δ', .d x, Same.refl _, M, hv, wp_ret M q⟩
  | own xs => exact ⟨F', δ', .own xs, Same.refl _, M, hv, wp_ret M q⟩
  | od ks xs => exact ⟨F', δ', .od ks xs, Same.refl _, M, hv, wp_ret M q⟩
  | slot i =>
    have hv' : σ[i]? = some (some v) := hv
    unfold wp at q
    simp only at q
    split at q
    · exact q.elim
    · rename_i a δ2 e
      split at e
      · rename_i x hx
        cases e
        obtain ⟨w, ew, rw'⟩ := M.sd hx
        rw [hv'] at ew; cases ew
        exact ⟨F', _, .d x, Same.refl _, M, rw', q F' H' (Same.refl _) M⟩
      · rename_i xs hx
        cases e
        obtain ⟨w, ew, rw'⟩ := M.sw hx rfl
        rw [hv'] at ew; cases ew
        exact ⟨F', _, .own xs, Same.refl _, M.forget, ⟨rw', forget_apart M hx rfl hv'⟩, q F' H' (Same.refl _) M.forget⟩
      · rename_i ks xs hx
        cases e
        obtain ⟨w, ew, rw'⟩ := M.sw hx rfl
        rw [hv'] at ew; cases ew
        exact ⟨F', _, .od ks xs, Same.refl _, M.forget, ⟨rw', forget_apart M hx rfl hv'⟩, q F' H' (Same.refl _) M.forget⟩
      · cases e
    · rename_i e
      split at e <;> cases e
section
variable {X : Cx} {E : WS} {L : List Nat} {st : Stmt} {rest : List Stmt} {e : Expr} {pos : Pos} {m n : M Fl}
theorem ps_ret' {a : M R} (he : PE X e (tR (gx X) E a)) : PS X (.Return (some e) pos) (tS (gx X) E L (retS a)) := by
  refine (ps_ret he).imp fun D σ H ⟨O, F, δ, M, w⟩ => ⟨O, F, δ, M, wp_mono (wp_resM (wps_bind w)) fun F1 H1 δ1 r s1 M1 q v hv => ?_⟩
  obtain ⟨F2, δ2, s, s2, M2, r2, w2⟩ := q v hv
  exact wps_ret M2 w2 v r2
theorem ps_retN' : PS X (.Return none pos) (tS (gx X) E L (retM (.ret (.d .non)))) := ps_retN.imp fun D σ H ⟨O, F, δ, M, w⟩ => wps_ret M w _ .non
def ifS (c : M Bool) (a b : M Fl) : M Fl := bindM c fun x => if x then a else b
theorem ps_if' {c : Expr} {p q : List Stmt} {mc : M Bool} {a b : M Fl} (hc : PT X c (tT (gx X) E mc)) (ha : PSs X p (tS (gx X) E L a)) (hb : PSs X q (tS (gx X) E L b)) : PS X (.If c p q pos) (tS (gx X) E L (ifS mc a b)) := by
  refine (ps_if hc ha hb).imp fun D σ H ⟨O, F, δ, M, w⟩ => ⟨O, F, δ, M, wp_mono (wps_bind w) fun F1 H1 δ1 k s1 M1 w1 => ?_⟩
  cases k with
  | true => exact ⟨O, F1, δ1, M1, w1⟩
  | false => exact ⟨O, F1, δ1, M1, w1⟩

/-! ### stores -/
/-- a result goes into a slot; what stood in another slot is frozen on both -/
def putM (i : Nat) (r : R) : M Fl := fun δ => match r with
  | .d x => some (.ok .next (δ.set i (some (.d x))))
  | .own xs => some (.ok .next (δ.set i (some (.own xs))))
  | .od ks xs => some (.ok .next (δ.set i (some (.od ks xs))))
  | .slot j => match δ[j]? with
    | some (some (.d x)) => some (.ok .next (δ.set i (some (.d x))))
    | some (some (.own xs)) => some (.ok .next ((δ.set j (some (.d (.lst xs)))).set i (some (.d (.lst xs)))))
    | some (some (.od ks xs)) => some (.ok .next ((δ.set j (some (.d (.dct ks xs)))).set i (some (.d (.dct ks xs)))))
    | _ => none
def setS (i : Nat) (a : M R) : M Fl := bindM a fun r => putM i r
end
theorem get_set_self' {α : Type} {l : List α} {i : Nat} {x : α} (h : i < l.length) : (l.set i x)[i]? = some x := List.getElem?_set_self h
theorem RpT.rs {g : Gx} {O F H : Hp} {σ : L2.St} {δ : Dl} {v : V} {s : S} (r : RpT g O F H σ δ v s) : RpS g O F H v s := by
  cases s with
  | d x => exact r
  | own xs => exact r.1
  | od ks xs => exact r.1
  | mem cs => exact r.1
theorem RpT.ap {g : Gx} {O F H : Hp} {σ : L2.St} {δ : Dl} {v : V} {s : S} (r : RpT g O F H σ δ v s) (ho : s.isOwn = true) : Apart σ δ v := by
  cases s with
  | own xs => exact r.2
  | od ks xs => exact r.2
  | _ => cases ho
theorem RpT.nm {g : Gx} {O F H : Hp} {σ : L2.St} {δ : Dl} {v : V} {s : S} (r : RpT g O F H σ δ v s) : s.isMem = false := by
  cases s with
  | mem cs => obtain ⟨_, _, _, _, z, _⟩ := r.1; exact z.elim
  | _ => rfl
theorem Ms.put {g : Gx} {O F H : Hp} {σ : L2.St} {δ : Dl} {i : Nat} {v : V} {s : S} (M : Ms g O F H σ δ) (hi : i < σ.length) (r : RpT g O F H σ δ v s) : Ms g O F H (σ.set i (some v)) (δ.set i (some s)) := by
  refine ⟨M.fh, M.oh, M.dj, fun j t h hm => ?_, fun j k t u w h1 h2 o1 o2 h3 h4 => ?_, fun j cs h => ?_, M.m1.set (fun cs z => by cases z; cases r.nm)⟩
  · rcases get_set_of h with ⟨e1, e2⟩ | ⟨ne, h'⟩
    · subst e1; cases e2; exact ⟨v, get_set_self' hi, r.rs⟩
    · obtain ⟨w, ew, rw'⟩ := M.sl j t h' hm
      exact ⟨w, by rw [List.getElem?_set_ne ne]; exact ew, rw'⟩
  · rcases get_set_of h1 with ⟨e1, e2⟩ | ⟨ne, h1'⟩
    · subst e1
      rcases get_set_of h2 with ⟨e3, _⟩ | ⟨ne2, h2'⟩
      · exact e3
      · rw [get_set_self' hi] at h3
        rw [List.getElem?_set_ne ne2] at h4
        cases e2; cases h3
        exact absurd h4 (r.ap o1 k u h2' o2)
    · rw [List.getElem?_set_ne ne] at h3
      rcases get_set_of h2 with ⟨e3, e4⟩ | ⟨ne2, h2'⟩
      · subst e3
        rw [get_set_self' hi] at h4
        cases e4; cases h4
        exact absurd h3 (r.ap o2 j t h1' o1)
      · rw [List.getElem?_set_ne ne2] at h4
        exact M.ap j k t u w h1' h2' o1 o2 h3 h4
  · rcases get_set_of h with ⟨_, z⟩ | ⟨_, h'⟩
    · cases z; cases r.nm
    · exact M.mm j cs h'
theorem wps_put {g : Gx} {E : WS} {O F H : Hp} {L : List Nat} {σ : L2.St} {δ : Dl} {D : Ends} {i : Nat} {r : R} {v : V} (M : Ms g O F H σ δ) (hi : i < σ.length) (hL : i ∉ L) (hv : RpR g O F H σ δ v r) (w : wps g E O F L σ δ (putM i r) D) : D.nx (σ.set i (some v)) H := by
  have kp : Keep L σ (σ.set i (some v)) := ⟨List.length_set, fun j hj => List.getElem?_set_ne (fun z => hL (by rw [z]; exact hj))⟩
  unfold wps at w
  cases r with
  | d x => exact w F H _ (Same.refl _) kp (M.put (s := .d x) hi hv)
  | own xs => exact w F H _ (Same.refl _) kp (M.put (s := .own xs) hi hv)
  | od ks xs => exact w F H _ (Same.refl _) kp (M.put (s := .od ks xs) hi hv)
  | slot j =>
    have hv' : σ[j]? = some (some v) := hv
    simp only [putM] at w
    split at w
    · exact w.elim
    · rename_i a δ2 e
      split at e
      · rename_i x hx
        cases e
        obtain ⟨u, eu, ru⟩ := M.sd hx
        rw [hv'] at eu; cases eu
        exact w F H _ (Same.refl _) kp (M.put (s := .d x) hi ru)
      · rename_i xs hx
        cases e
        obtain ⟨F2, u, eu, s2, M2, r2⟩ := M.frzSlotS hx rfl
        rw [hv'] at eu; cases eu
        exact w F2 H _ s2 kp (M2.put (s := .d (.lst xs)) hi r2)
      · rename_i ks xs hx
        cases e
        obtain ⟨F2, u, eu, s2, M2, r2⟩ := M.frzSlotS hx rfl
        rw [hv'] at eu; cases eu
        exact w F2 H _ s2 kp (M2.put (s := .d (.dct ks xs)) hi r2)
      · cases e
    · rename_i e
      split at e <;> cases e
section
variable {X : Cx} {E : WS} {L : List Nat} {e : Expr} {pos : Pos}
theorem ps_set' {i : Nat} {x : Str} {pos' : Pos} {a : M R} (hN : X.N.Nodup) (hi : X.N[i]? = some x) (hx : Loc X.env.scope x) (hL : i ∉ L) (he : PE X e (tR (gx X) E a)) (hs : swapsWith e (some (.Name x pos')) pos.line X.env = pure false) (hf : X.fn x = true ∨ X.env.scope.names.lookup x = some .local) :
    PS X (.Assign [.Name x pos'] e pos) (tS (gx X) E L (setS i a)) := by
  refine ⟨fun pins s σ H D I w => (ps_set hN hi hx he hs hf).run pins s σ H D I ?_⟩
  obtain ⟨O, F, δ, M, w⟩ := w
  refine ⟨O, F, δ, M, wp_mono (wps_bind w) fun F1 H1 δ1 r s1 M1 w1 v hv => wps_put M1 ?_ hL hv w1⟩
  rw [I.len]; exact (List.getElem?_eq_some_iff.mp hi).1
end
end Ev

set_option Elab.async false
set_option linter.all false
set_option maxRecDepth 100000
namespace Ev
open PySem PySem.Spec PyProof.Rows L2

/-! ### targets -/
inductive Tg where
  | nm (i : Nat) | tup (ts : List Tg)
mutual
def asgT : Tg → D → Dl → Option Dl
  | .nm i, d, δ => some (δ.set i (some (.d d)))
  | .tup ts, .tup xs, δ => asgTs ts xs δ
  | .tup _, _, _ => none
def asgTs : List Tg → List D → Dl → Option Dl
  | [], [], δ => some δ
  | t :: ts, x :: xs, δ => match asgT t x δ with
    | some δ' => asgTs ts xs δ'
    | none => none
  | _, _, _ => none
end
def tG (g : Gx) (L : List Nat) (T : Tg) : TG := fun v σ H Q => ∃ O F δ d δ', Ms g O F H σ δ ∧ Rp g F v d ∧ asgT T d δ = some δ' ∧ ∀ σ', Keep L σ σ' → Ms g O F H σ' δ' → Q σ' H
def tGs (g : Gx) (L : List Nat) (T : List Tg) : TGs := fun vs σ H Q => ∃ O F δ ds δ', Ms g O F H σ δ ∧ RpA g F vs ds ∧ asgTs T ds δ = some δ' ∧ ∀ σ', Keep L σ σ' → Ms g O F H σ' δ' → Q σ' H
theorem _root_.L2.PG.impI {X : Cx} {e : Expr} {t t' : TG} (h : PG X e t) (k : ∀ v σ H Q, σ.length = X.N.length → t' v σ H Q → t v σ H Q) : PG X e t' := ⟨fun pins s σ H v u Q I r hw => h.run pins s σ H v u Q I r (k v σ H Q I.len hw)⟩
theorem _root_.L2.PGs.imp {X : Cx} {e : List Expr} {t t' : TGs} (h : PGs X e t) (k : ∀ v σ H Q, t' v σ H Q → t v σ H Q) : PGs X e t' := ⟨fun pins s σ H v u Q I r hw => h.run pins s σ H v u Q I r (k v σ H Q hw)⟩
theorem asgTs_cons {t : Tg} {ts : List Tg} {ds : List D} {δ δ' : Dl} (h : asgTs (t :: ts) ds δ = some δ') : ∃ d r δ1, ds = d :: r ∧ asgT t d δ = some δ1 ∧ asgTs ts r δ1 = some δ' := by
  cases ds with
  | nil => simp [asgTs] at h
  | cons d r =>
    simp only [asgTs] at h
    split at h
    · exact ⟨d, r, _, rfl, by assumption, h⟩
    · cases h
theorem asgTs_nil {ds : List D} {δ δ' : Dl} (h : asgTs [] ds δ = some δ') : ds = [] ∧ δ' = δ := by
  cases ds with
  | nil => simp [asgTs] at h; exact ⟨rfl, h.symm⟩
  | cons d r => simp [asgTs] at h
theorem asgTs_len : ∀ {ts : List Tg} {ds : List D} {δ δ' : Dl}, asgTs ts ds δ = some δ' → ds.length = ts.length
  | [], ds, _, _, h => by rw [(asgTs_nil h).1]; rfl
  | t :: ts, ds, _, _, h => by
    obtain ⟨d, r, δ1, rfl, _, h2⟩ := asgTs_cons h
    rw [List.length_cons, List.length_cons, asgTs_len h2]
section
variable {X : Cx} {E : WS} {L : List Nat} {pos : Pos}
theorem pg_nm {i : Nat} {x : Str} (hN : X.N.Nodup) (hi : X.N[i]? = some x) (hx : Loc X.env.scope x) (hL : i ∉ L) (hf : X.fn x = true ∨ X.env.scope.names.lookup x = some .local) : PG X (.Name x pos) (tG (gx X) L (.nm i)) := by
  refine (pg_name hN hi hx hf).impI fun v σ H Q hl ⟨O, F, δ, d, δ', M, r, e, q⟩ => ?_
  simp only [asgT, Option.some.injEq] at e
  subst e
  have hi' : i < σ.length := by rw [hl]; exact (List.getElem?_eq_some_iff.mp hi).1
  exact q _ ⟨List.length_set, fun j hj => List.getElem?_set_ne (fun z => hL (by rw [z]; exact hj))⟩ (M.put (s := .d d) hi' r)
theorem pgs_nil' : PGs X [] (tGs (gx X) L []) := pgs_nil.imp fun vs σ H Q ⟨O, F, δ, ds, δ', M, r, e, q⟩ => by
  obtain ⟨rfl, rfl⟩ := asgTs_nil e
  cases r
  exact ⟨rfl, q σ Keep.refl M⟩
theorem pgs_cons' {e : Expr} {es : List Expr} {t : Tg} {ts : List Tg} (h1 : PG X e (tG (gx X) L t)) (h2 : PGs X es (tGs (gx X) L ts)) (hs : (assignEach (e :: es) X.env).map (·.2) = assign e X.env :: (assignEach es X.env).map (·.2)) : PGs X (e :: es) (tGs (gx X) L (t :: ts)) := by
  refine (pgs_cons h1 h2 hs).imp fun vs σ H Q ⟨O, F, δ, ds, δ', M, r, e, q⟩ => ?_
  obtain ⟨d, dr, δ1, rfl, e1, e2⟩ := asgTs_cons e
  cases r with
  | cons a b => exact ⟨_, _, rfl, O, F, δ, d, δ1, M, a, e1, fun σ1 k1 M1 => ⟨O, F, δ1, dr, δ', M1, b, e2, fun σ2 k2 M2 => q σ2 (k1.trans k2) M2⟩⟩
theorem pg_tup' {es : List Expr} {k : Nat} {ts : List Tg} (hc : X.calm = true) (h : PGs X es (tGs (gx X) L ts)) (hn : (assignEach es X.env).length = ts.length) (hst : (assignEach es X.env).findIdx? (·.1) = none) : PG X (.Tuple es k pos) (tG (gx X) L (.tup ts)) := by
  refine (pg_tup hc h hn hst).impI fun v σ H Q hl ⟨O, F, δ, d, δ', M, r, e, q⟩ => ?_
  cases d with
  | tup xs =>
    cases r with
    | tup h1 r1 =>
      simp only [asgT] at e
      exact ⟨_, _, rfl, fit_tup M.fh h1, by rw [r1.length, asgTs_len e], O, F, δ, xs, δ', M, r1, e, q⟩
  | _ => simp [asgT] at e
/-- target = e -/
def asgM (T : Tg) (a : M R) : M Fl := bindM (datM a) fun d => fun δ => (asgT T d δ).map fun δ' => .ok .next δ'
theorem wps_asg {g : Gx} {O F H : Hp} {σ : L2.St} {δ : Dl} {D : Ends} {T : Tg} {d : Ev.D} {v : V} (M : Ms g O F H σ δ) (r : Rp g F v d) (w : wps g E O F L σ δ (fun δ => (asgT T d δ).map fun δ' => .ok .next δ') D) : tG g L T v σ H D.nx := by
  unfold wps at w
  cases e : asgT T d δ with
  | none => simp [e] at w
  | some δ' =>
    simp only [e, Option.map_some] at w
    exact ⟨O, F, δ, d, δ', M, r, e, fun σ' k M' => w F H σ' (Same.refl _) k M'⟩
theorem ps_asg' {tg e : Expr} {T : Tg} {a : M R} (he : PE X e (tR (gx X) E a)) (hg : PG X tg (tG (gx X) L T)) (hs : swapsWithSole [tg] e pos.line X.env = pure false) (hw : swappedStores [tg] e X.env = pure none) (h1 : (assignEach [tg] X.env).map (·.2) = [assign tg X.env]) :
    PS X (.Assign [tg] e pos) (tS (gx X) E L (asgM T a)) := by
  refine (ps_asg (pr_dat he) hg hs hw h1).imp fun D σ H ⟨O, F, δ, M, w⟩ => ⟨O, F, δ, M, wp_mono (wps_bind w) fun F1 H1 δ1 d s1 M1 w1 v hv => wps_asg M1 hv w1⟩
/-- x, y = a, b: stored from the right, all data first -/
def parM (is : List Nat) (ms : List (M R)) : M Fl := bindM (argsM ms) fun ds => fun δ => if ds.length = is.length then some (.ok .next ((is.zip ds).foldl (fun δ p => δ.set p.1 (some (.d p.2))) δ)) else none
theorem ps_par' {i j : Nat} {x y : Str} {a b : Expr} {ma mb : M R} {px py pt : Pos} {kt k2 pt2} (hc : X.calm = true) (hN : X.N.Nodup) (hi : X.N[i]? = some x) (hj : X.N[j]? = some y) (hij : i ≠ j) (hLi : i ∉ L) (hLj : j ∉ L)
    (hx : X.env.scope.names.lookup x = some .local) (hy : X.env.scope.names.lookup y = some .local) (ha : PA X [a, b] (tAs (gx X) E (argsM [ma, mb])))
    (hw : swappedStores [.Tuple [.Name x px, .Name y py] kt pt] (.Tuple [a, b] k2 pt2) X.env = pure (some [x, y]))
    (hs : swapsWithSole [.Tuple [.Name x px, .Name y py] kt pt] (.Tuple [a, b] k2 pt2) pos.line X.env = pure false) :
    PS X (.Assign [.Tuple [.Name x px, .Name y py] kt pt] (.Tuple [a, b] k2 pt2) pos) (tS (gx X) E L (parM [i, j] [ma, mb])) := by
  refine ⟨fun pins s σ H D I w => (ps_par hc hN hi hj hij hx hy ha hw hs).run pins s σ H D I ?_⟩
  obtain ⟨O, F, δ, M, w⟩ := w
  have hi' : i < σ.length := by rw [I.len]; exact (List.getElem?_eq_some_iff.mp hi).1
  have hj' : j < σ.length := by rw [I.len]; exact (List.getElem?_eq_some_iff.mp hj).1
  refine ⟨O, F, δ, M, wp_mono (wp_len (wps_bind w)) fun F1 H1 δ1 ds s1 M1 w1 vs hv => ?_⟩
  obtain ⟨hl, w1⟩ := w1
  match ds, hl, vs, hv with
  | [d1, d2], _, _, .cons (v := v1) r1 (.cons (v := v2) r2 .nil) =>
    refine ⟨v1, v2, rfl, ?_⟩
    have M2 : Ms (gx X) O F1 H1 ((σ.set i (some v1)).set j (some v2)) ((δ1.set i (some (.d d1))).set j (some (.d d2))) := (M1.put (s := .d d1) hi' r1).put (s := .d d2) (by rw [List.length_set]; exact hj') r2
    refine w1 F1 H1 _ (Same.refl _) ⟨by rw [List.length_set, List.length_set], fun n hn => ?_⟩ M2
    rw [List.getElem?_set_ne (fun z => hLj (by rw [z]; exact hn)), List.getElem?_set_ne (fun z => hLi (by rw [z]; exact hn))]
theorem ps_par3' {i j l : Nat} {x y z : Str} {a b c : Expr} {ma mb mc : M R} {px py pz pt : Pos} {kt k2 pt2} (hc : X.calm = true) (hN : X.N.Nodup) (hi : X.N[i]? = some x) (hj : X.N[j]? = some y) (hl : X.N[l]? = some z) (hij : i ≠ j) (hil : i ≠ l) (hjl : j ≠ l) (hLi : i ∉ L) (hLj : j ∉ L) (hLl : l ∉ L)
    (hx : X.env.scope.names.lookup x = some .local) (hy : X.env.scope.names.lookup y = some .local) (hz : X.env.scope.names.lookup z = some .local) (ha : PA X [a, b, c] (tAs (gx X) E (argsM [ma, mb, mc])))
    (hw : swappedStores [.Tuple [.Name x px, .Name y py, .Name z pz] kt pt] (.Tuple [a, b, c] k2 pt2) X.env = pure (some [x, y, z]))
    (hs : swapsWithSole [.Tuple [.Name x px, .Name y py, .Name z pz] kt pt] (.Tuple [a, b, c] k2 pt2) pos.line X.env = pure false) :
    PS X (.Assign [.Tuple [.Name x px, .Name y py, .Name z pz] kt pt] (.Tuple [a, b, c] k2 pt2) pos) (tS (gx X) E L (parM [i, j, l] [ma, mb, mc])) := by
  refine ⟨fun pins s σ H D I w => (ps_par3 hc hN hi hj hl hij hil hjl hx hy hz ha hw hs).run pins s σ H D I ?_⟩
  obtain ⟨O, F, δ, M, w⟩ := w
  have hi' : i < σ.length := by rw [I.len]; exact (List.getElem?_eq_some_iff.mp hi).1
  have hj' : j < σ.length := by rw [I.len]; exact (List.getElem?_eq_some_iff.mp hj).1
  have hl' : l < σ.length := by rw [I.len]; exact (List.getElem?_eq_some_iff.mp hl).1
  refine ⟨O, F, δ, M, wp_mono (wp_len (wps_bind w)) fun F1 H1 δ1 ds s1 M1 w1 vs hv => ?_⟩
  obtain ⟨hln, w1⟩ := w1
  match ds, hln, vs, hv with
  | [d1, d2, d3], _, _, .cons (v := v1) r1 (.cons (v := v2) r2 (.cons (v := v3) r3 .nil)) =>
    refine ⟨v1, v2, v3, rfl, ?_⟩
    have M2 : Ms (gx X) O F1 H1 (((σ.set i (some v1)).set j (some v2)).set l (some v3)) (((δ1.set i (some (.d d1))).set j (some (.d d2))).set l (some (.d d3))) :=
      ((M1.put (s := .d d1) hi' r1).put (s := .d d2) (by rw [List.length_set]; exact hj') r2).put (s := .d d3) (by rw [List.length_set, List.length_set]; exact hl') r3
    refine w1 F1 H1 _ (Same.refl _) ⟨by rw [List.length_set, List.length_set, List.length_set], fun n hn => ?_⟩ M2
    rw [List.getElem?_set_ne (fun z => hLl (by rw [z]; exact hn)), List.getElem?_set_ne (fun z => hLj (by rw [z]; exact hn)), List.getElem?_set_ne (fun z => hLi (by rw [z]; exact hn))]
end
end Ev

set_option Elab.async false
set_option linter.all false
set_option maxRecDepth 100000
namespace Ev
open PySem PySem.Spec PyProof.Rows L2

/-! ### what is walked -/
structure Wk (g : Gx) (J : It) (F : Hp) (ds : List D) : Prop where
  go : ∀ (i : Nat) (F1 H : Hp), Same F F1 → Fit F1 H → i < ds.length → J.go i H
  yl : ∀ (i : Nat) (F1 H : Hp) (x : V) (H' : Hp) d, Same F F1 → Fit F1 H → ds[i]? = some d → J.yld i H x H' → ∃ F2, Grow F1 H F2 H' ∧ Rp g F2 x d
  st : ∀ (i : Nat) (F1 H : Hp), Same F F1 → Fit F1 H → i = ds.length → J.stop i H
def tI (g : Gx) (E : WS) (m : M (List D)) : TI := fun σ H R => ∃ O F δ, Ms g O F H σ δ ∧ wp g O F σ δ m (fun F' H' _ ds => ∀ J, Wk g J F' ds → R J H') (eE g (E σ))
theorem _root_.L2.PI.imp {X : Cx} {tg e : Expr} {t t' : TI} (h : PI X tg e t) (k : ∀ σ H R, t' σ H R → t σ H R) : PI X tg e t' := ⟨fun pins s σ H R I hw => h.run pins s σ H R I (k σ H R hw)⟩
theorem _root_.L2.PI.or {X : Cx} {tg e : Expr} {t t' : TI} (h : PI X tg e t) (h' : PI X tg e t') : PI X tg e (fun σ H R => t σ H R ∨ t' σ H R) := ⟨fun pins s σ H R I hw => hw.elim (h.run pins s σ H R I) (h'.run pins s σ H R I)⟩
theorem idx {α : Type} {l : List α} {i : Nat} (h : i < l.length) : ∃ x, l[i]? = some x := ⟨l[i], List.getElem?_eq_getElem h⟩
section
variable {g : Gx} {F : Hp} {a : Addr} {vs : List V} {ds : List D}
theorem wk_list (h : SqL g.K F a vs) (r : RpA g F vs ds) : Wk g (Itl g.K a) F ds where
  go := fun i F1 H s1 s2 hi => by
    obtain ⟨x, hx⟩ := idx (l := vs) (i := i) (by rw [r.length]; exact hi)
    exact ⟨vs, x, fit_seq s2 (s1.seq h), hx⟩
  yl := fun i F1 H x H' d s1 s2 hd hy => by
    obtain ⟨rfl, hy⟩ := hy
    obtain ⟨v, hv, rv⟩ := r.get hd
    have := hy vs (fit_seq s2 (s1.seq h))
    rw [hv] at this; cases this
    exact ⟨F1, Grow.refl s2, Rp.mono s1 _ _ rv⟩
  st := fun i F1 H s1 s2 (hi' : i = _) => have hi := Nat.le_of_eq hi'.symm; ⟨vs, fit_seq s2 (s1.seq h), by rw [r.length]; exact hi⟩
theorem wk_tup (h : SqT g.K F a vs) (r : RpA g F vs ds) : Wk g (Itt g.K a) F ds where
  go := fun i F1 H s1 s2 hi => by
    obtain ⟨x, hx⟩ := idx (l := vs) (i := i) (by rw [r.length]; exact hi)
    exact ⟨vs, x, fit_tup s2 (sqT_mono s1 h), hx⟩
  yl := fun i F1 H x H' d s1 s2 hd hy => by
    obtain ⟨rfl, hy⟩ := hy
    obtain ⟨v, hv, rv⟩ := r.get hd
    have := hy vs (fit_tup s2 (sqT_mono s1 h))
    rw [hv] at this; cases this
    exact ⟨F1, Grow.refl s2, Rp.mono s1 _ _ rv⟩
  st := fun i F1 H s1 s2 (hi' : i = _) => have hi := Nat.le_of_eq hi'.symm; ⟨vs, fit_tup s2 (sqT_mono s1 h), by rw [r.length]; exact hi⟩
def rngD (lo : Int) (n : Nat) : List D := (List.range n).map fun (i : Nat) => D.int (lo + i)
theorem wk_range {lo : Int} {n : Nat} : Wk g (Itr lo n) F (rngD lo n) where
  go := fun i F1 H s1 s2 hi => by show i < n; simpa [rngD] using hi
  yl := fun i F1 H x H' d s1 s2 hd hy => by
    obtain ⟨rfl, rfl⟩ := hy
    refine ⟨F1, Grow.refl s2, ?_⟩
    simp only [rngD, List.getElem?_map, Option.map_eq_some_iff] at hd
    obtain ⟨k, hk, rfl⟩ := hd
    obtain ⟨h1, h2⟩ := List.getElem?_eq_some_iff.mp hk
    rw [List.getElem_range] at h2
    subst h2
    exact .int _
  st := fun i F1 H s1 s2 (hi' : i = _) => have hi := Nat.le_of_eq hi'.symm; by show n ≤ i; simpa [rngD] using hi
def signsD (x : Str) : List D := x.cps.toList.map fun c => D.str ⟨#[c]⟩
theorem wk_str {x : Str} : Wk g (Its x) F (signsD x) where
  go := fun i F1 H s1 s2 hi => by show i < x.cps.size; simpa [signsD] using hi
  yl := fun i F1 H v H' d s1 s2 hd hy => by
    obtain ⟨rfl, c, hc, rfl⟩ := hy
    refine ⟨F1, Grow.refl s2, ?_⟩
    simp only [signsD, List.getElem?_map, Option.map_eq_some_iff] at hd
    obtain ⟨k, hk, rfl⟩ := hd
    rw [Array.getElem?_toList] at hk
    rw [hc] at hk; cases hk
    exact .str _
  st := fun i F1 H s1 s2 (hi' : i = _) => have hi := Nat.le_of_eq hi'.symm; by show x.cps.size ≤ i; simpa [signsD] using hi
def enumD (ds : List D) : List D := (List.range ds.length).map fun (i : Nat) => D.tup [.int (i : Int), ds.getD i .non]
theorem wk_enum (h : SqL g.K F a vs) (r : RpA g F vs ds) : Wk g (Ite g.K a) F (enumD ds) where
  go := fun i F1 H s1 s2 hi => by
    obtain ⟨x, hx⟩ := idx (l := vs) (i := i) (by rw [r.length]; simpa [enumD] using hi)
    exact ⟨vs, x, fit_seq s2 (s1.seq h), hx⟩
  yl := fun i F1 H x H' d s1 s2 hd hy => by
    obtain ⟨T, y, rfl, hT, rfl, hy⟩ := hy
    simp only [enumD, List.getElem?_map, Option.map_eq_some_iff] at hd
    obtain ⟨k, hk, rfl⟩ := hd
    obtain ⟨h1, h2⟩ := List.getElem?_eq_some_iff.mp hk
    rw [List.getElem_range] at h2
    subst h2
    rw [List.length_range] at h1
    obtain ⟨d, hd⟩ := idx h1
    obtain ⟨v, hv, rv⟩ := r.get hd
    have := hy vs (fit_seq s2 (s1.seq h))
    rw [hv] at this; cases this
    have e : ds.getD i .non = d := by rw [List.getD_eq_getElem?_getD, hd]; rfl
    rw [e]
    exact ⟨_, grow_tup s2 hT, new_tup (H := H) s2 hT (.cons (.int _) (.cons (Rp.mono s1 _ _ rv) .nil))⟩
  st := fun i F1 H s1 s2 (hi' : i = _) => have hi := Nat.le_of_eq hi'.symm; ⟨vs, fit_seq s2 (s1.seq h), by rw [r.length]; simpa [enumD] using hi⟩
def zipD (ds es : List D) : List D := List.zipWith (fun x y => D.tup [x, y]) ds es
theorem wk_zip {b : Addr} {ws : List V} {es : List D} (h : SqL g.K F a vs) (h' : SqL g.K F b ws) (r : RpA g F vs ds) (r' : RpA g F ws es) : Wk g (Itz g.K a b) F (zipD ds es) where
  go := fun i F1 H s1 s2 hi => by
    have hi' : i < min ds.length es.length := by simpa [zipD] using hi
    obtain ⟨x, hx⟩ := idx (l := vs) (i := i) (by rw [r.length]; omega)
    obtain ⟨y, hy⟩ := idx (l := ws) (i := i) (by rw [r'.length]; omega)
    exact ⟨vs, ws, x, y, fit_seq s2 (s1.seq h), fit_seq s2 (s1.seq h'), hx, hy⟩
  yl := fun i F1 H x H' d s1 s2 hd hy => by
    obtain ⟨T, y, z, rfl, hT, rfl, hy, hz⟩ := hy
    simp only [zipD, List.getElem?_zipWith] at hd
    cases e1 : ds[i]? with
    | none => rw [e1] at hd; simp at hd
    | some d1 =>
      cases e2 : es[i]? with
      | none => rw [e1, e2] at hd; simp at hd
      | some d2 =>
        rw [e1, e2] at hd
        simp only [Option.some.injEq] at hd
        subst hd
        obtain ⟨v, hv, rv⟩ := r.get e1
        obtain ⟨v', hv', rv'⟩ := r'.get e2
        have := hy vs (fit_seq s2 (s1.seq h))
        rw [hv] at this; cases this
        have := hz ws (fit_seq s2 (s1.seq h'))
        rw [hv'] at this; cases this
        exact ⟨_, grow_tup s2 hT, new_tup (H := H) s2 hT (.cons (Rp.mono s1 _ _ rv) (.cons (Rp.mono s1 _ _ rv') .nil))⟩
  st := fun i F1 H s1 s2 (hi' : i = _) => have hi := Nat.le_of_eq hi'.symm; by
    refine ⟨vs, ws, fit_seq s2 (s1.seq h), fit_seq s2 (s1.seq h'), ?_⟩
    rw [r.length, r'.length]
    have : min ds.length es.length ≤ i := by simpa [zipD] using hi
    omega
theorem wk_zipT {b : Addr} {ws : List V} {es : List D} (h : SqT g.K F a vs) (h' : SqT g.K F b ws) (r : RpA g F vs ds) (r' : RpA g F ws es) : Wk g (RZ.ItzT g.K a b) F (zipD ds es) where
  go := fun i F1 H s1 s2 hi => by
    have hi' : i < min ds.length es.length := by simpa [zipD] using hi
    obtain ⟨x, hx⟩ := idx (l := vs) (i := i) (by rw [r.length]; omega)
    obtain ⟨y, hy⟩ := idx (l := ws) (i := i) (by rw [r'.length]; omega)
    exact ⟨vs, ws, x, y, fit_tup s2 (sqT_mono s1 h), fit_tup s2 (sqT_mono s1 h'), hx, hy⟩
  yl := fun i F1 H x H' d s1 s2 hd hy => by
    obtain ⟨T, y, z, rfl, hT, rfl, hy, hz⟩ := hy
    simp only [zipD, List.getElem?_zipWith] at hd
    cases e1 : ds[i]? with
    | none => rw [e1] at hd; simp at hd
    | some d1 =>
      cases e2 : es[i]? with
      | none => rw [e1, e2] at hd; simp at hd
      | some d2 =>
        rw [e1, e2] at hd
        simp only [Option.some.injEq] at hd
        subst hd
        obtain ⟨v, hv, rv⟩ := r.get e1
        obtain ⟨v', hv', rv'⟩ := r'.get e2
        have := hy vs (fit_tup s2 (sqT_mono s1 h))
        rw [hv] at this; cases this
        have := hz ws (fit_tup s2 (sqT_mono s1 h'))
        rw [hv'] at this; cases this
        exact ⟨_, grow_tup s2 hT, new_tup (H := H) s2 hT (.cons (Rp.mono s1 _ _ rv) (.cons (Rp.mono s1 _ _ rv') .nil))⟩
  st := fun i F1 H s1 s2 (hi' : i = _) => have hi := Nat.le_of_eq hi'.symm; by
    refine ⟨vs, ws, fit_tup s2 (sqT_mono s1 h), fit_tup s2 (sqT_mono s1 h'), ?_⟩
    rw [r.length, r'.length]
    have : min ds.length es.length ≤ i := by simpa [zipD] using hi
    omega
end

/-! ### sources -/
def srcD : D → Option (List D)
  | .lst xs => some xs
  | .scr xs => some xs
  | .tup xs => some xs
  | .str x => some (signsD x)
  | _ => none
def srcM (a : M R) : M (List D) := bindM (datM a) fun d => optM (srcD d)
def rngM (a : M R) : M (List D) := bindM (argsM [a]) fun ds => fun δ => match ds with
  | [.int n] => if -(2 ^ 62) ≤ n ∧ n < 2 ^ 62 then some (.ok (rngD 0 n.toNat) δ) else none
  | _ => none
def rng2M (a b : M R) : M (List D) := bindM (argsM [a, b]) fun ds => fun δ => match ds with
  | [.int i, .int j] => if -(2 ^ 62) ≤ i ∧ i < 2 ^ 62 ∧ -(2 ^ 62) ≤ j ∧ j < 2 ^ 62 then some (.ok (rngD i (j - i).toNat) δ) else none
  | _ => none
def enumM (a : M R) : M (List D) := bindM (argsM [a]) fun ds => fun δ => match ds with
  | [d] => d.seqL.map fun xs => .ok (enumD xs) δ
  | _ => none
def zipM (a b : M R) : M (List D) := bindM (argsM [a, b]) fun ds => fun δ => match ds with
  | [.tup xs, .tup ys] => some (.ok (zipD xs ys) δ)
  | [d, e] => match d.seqL, e.seqL with
    | some xs, some ys => some (.ok (zipD xs ys) δ)
    | _, _ => none
  | _ => none
theorem Rp.seqL {g : Gx} {F : Hp} {v : V} {d : D} {xs : List D} (h : Rp g F v d) (e : d.seqL = some xs) : ∃ a vs, v = .ref a ∧ SqL g.K F a vs ∧ RpA g F vs xs := by
  cases d with
  | lst ys => cases e; cases h with | lst q r => exact ⟨_, _, rfl, .inl (.inl q), r⟩
  | scr ys => cases e; cases h with | scr q r => exact ⟨_, _, rfl, q, r⟩
  | _ => cases e
theorem RpA.one {g : Gx} {F : Hp} {vs : List V} {d : D} (b : RpA g F vs [d]) : ∃ v, vs = [v] ∧ Rp g F v d := by
  cases b with | cons a b => cases b; exact ⟨_, rfl, a⟩
theorem RpA.two {g : Gx} {F : Hp} {vs : List V} {d e : D} (b : RpA g F vs [d, e]) : ∃ v w, vs = [v, w] ∧ Rp g F v d ∧ Rp g F w e := by
  cases b with | cons a b => cases b with | cons b c => cases c; exact ⟨_, _, rfl, a, b⟩
theorem wp_fun {g : Gx} {O F H : Hp} {σ : L2.St} {δ : Dl} {α : Type} {m : M α} {ok : Hp → Hp → Dl → α → Prop} {er : Hp → Hp → Dl → Ex → Prop} (M0 : Ms g O F H σ δ) (h : wp g O F σ δ m ok er) (hm : ∀ r, m δ = some r → ∃ a, r = .ok a δ) : ∃ a, m δ = some (.ok a δ) ∧ ok F H δ a := by
  unfold wp at h
  cases e : m δ with
  | none => rw [e] at h; exact h.elim
  | some r =>
    obtain ⟨a, rfl⟩ := hm r e
    rw [e] at h
    exact ⟨a, rfl, h F H (Same.refl _) M0⟩
section
variable {X : Cx} {E : WS} {tg e e2 : Expr} {p pos : Pos} {a b : M R}
theorem pi_src (h : PE X e (tR (gx X) E a)) : PI X tg e (tI (gx X) E (srcM a)) := by
  have hd := pr_dat h
  refine ((pi_list (tg := tg) hd).or ((pi_tup hd).or (pi_str hd))).imp fun σ H R ⟨O, F, δ, M, w⟩ => ?_
  have w := wp_bind w
  unfold wp at w
  cases e1 : datM a δ with
  | none => rw [e1] at w; exact w.elim
  | some r =>
    cases r with
    | err x δ' =>
      rw [e1] at w
      refine .inl ⟨O, F, δ, M, ?_⟩
      unfold wp; rw [e1]; exact w
    | ok d δ' =>
      rw [e1] at w
      have key : ∀ F' H', Same F F' → Ms (gx X) O F' H' σ δ' → ∃ xs, srcD d = some xs ∧ ∀ J, Wk (gx X) J F' xs → R J H' := fun F' H' s M' => by
        obtain ⟨xs, ex, q⟩ := wp_opt (w F' H' s M')
        exact ⟨xs, ex, q F' H' (Same.refl _) M'⟩
      cases d with
      | lst xs =>
        refine .inl ⟨O, F, δ, M, ?_⟩
        unfold wp; rw [e1]
        intro F' H' s M' v hv
        obtain ⟨ys, ey, q⟩ := key F' H' s M'
        cases ey
        cases hv with
        | lst q1 r1 => exact ⟨_, rfl, ⟨_, .inl (.inl (M'.fh.of q1))⟩, q _ (wk_list (.inl (.inl q1)) r1)⟩
      | scr xs =>
        refine .inl ⟨O, F, δ, M, ?_⟩
        unfold wp; rw [e1]
        intro F' H' s M' v hv
        obtain ⟨ys, ey, q⟩ := key F' H' s M'
        cases ey
        cases hv with
        | scr q1 r1 => exact ⟨_, rfl, ⟨_, fit_seq M'.fh q1⟩, q _ (wk_list q1 r1)⟩
      | tup xs =>
        refine .inr (.inl ⟨O, F, δ, M, ?_⟩)
        unfold wp; rw [e1]
        intro F' H' s M' v hv
        obtain ⟨ys, ey, q⟩ := key F' H' s M'
        cases ey
        cases hv with
        | tup q1 r1 => exact ⟨_, rfl, ⟨_, fit_tup M'.fh q1⟩, q _ (wk_tup q1 r1)⟩
      | str x =>
        refine .inr (.inr ⟨O, F, δ, M, ?_⟩)
        unfold wp; rw [e1]
        intro F' H' s M' v hv
        obtain ⟨ys, ey, q⟩ := key F' H' s M'
        cases ey
        cases hv
        exact ⟨x, rfl, q _ wk_str⟩
      | _ =>
        refine .inl ⟨O, F, δ, M, ?_⟩
        unfold wp; rw [e1]
        intro F' H' s M' v hv
        obtain ⟨ys, ey, q⟩ := key F' H' s M'
        cases ey
theorem pi_rng1 (hg : Gl X "range") (hm : X.mg "range" = none) (ha : PE X e (tR (gx X) E a)) (hs : starEach [e] X.env = [(false, eval e X.env)]) : PI X tg (.Call (.Name "range" p) [e] [] pos) (tI (gx X) E (rngM a)) := by
  refine (pi_range1 hg hm (pa_args ha pa_args_nil hs) hs).imp fun σ H R ⟨O, F, δ, M, w⟩ => ⟨O, F, δ, M, wp_mono (wp_bind w) fun F1 H1 δ1 ds s1 M1 w1 vs hv => ?_⟩
  unfold wp at w1
  simp only at w1
  split at w1
  · exact w1.elim
  · rename_i a δ2 e1
    split at e1
    · split at e1
      · rename_i hb
        cases e1
        obtain ⟨v, rfl, r⟩ := hv.one
        cases r
        exact ⟨_, rfl, hb.1, hb.2, w1 F1 H1 (Same.refl _) M1 _ wk_range⟩
      · cases e1
    · cases e1
  · rename_i e1
    split at e1
    · split at e1 <;> cases e1
    · cases e1
theorem pi_rng2 (hg : Gl X "range") (hm : X.mg "range" = none) (ha : PE X e (tR (gx X) E a)) (hb : PE X e2 (tR (gx X) E b)) (hs : starEach [e, e2] X.env = [(false, eval e X.env), (false, eval e2 X.env)]) (hs2 : starEach [e2] X.env = [(false, eval e2 X.env)]) : PI X tg (.Call (.Name "range" p) [e, e2] [] pos) (tI (gx X) E (rng2M a b)) := by
  refine (pi_range2 hg hm (pa_args ha (pa_args hb pa_args_nil hs2) (by rw [hs, hs2])) hs hs2).imp fun σ H R ⟨O, F, δ, M, w⟩ => ⟨O, F, δ, M, wp_mono (wp_bind w) fun F1 H1 δ1 ds s1 M1 w1 vs hv => ?_⟩
  unfold wp at w1
  simp only at w1
  split at w1
  · exact w1.elim
  · rename_i a δ2 e1
    split at e1
    · split at e1
      · rename_i hb
        cases e1
        obtain ⟨v, w', rfl, r, r'⟩ := hv.two
        cases r; cases r'
        exact ⟨_, _, rfl, hb, w1 F1 H1 (Same.refl _) M1 _ wk_range⟩
      · cases e1
    · cases e1
  · rename_i e1
    split at e1
    · split at e1 <;> cases e1
    · cases e1
variable {elts : List Expr} {kk : Nat} {tpos : Pos}
theorem pi_enu (hg : Gl X "enumerate") (hm : X.mg "enumerate" = none) (ha : PE X e (tR (gx X) E a)) (hs : starEach [e] X.env = [(false, eval e X.env)]) : PI X (.Tuple elts kk tpos) (.Call (.Name "enumerate" p) [e] [] pos) (tI (gx X) E (enumM a)) := by
  refine (pi_enum hg hm (pa_args ha pa_args_nil hs) hs).imp fun σ H R ⟨O, F, δ, M, w⟩ => ⟨O, F, δ, M, wp_mono (wp_bind w) fun F1 H1 δ1 ds s1 M1 w1 vs hv => ?_⟩
  unfold wp at w1
  simp only at w1
  split at w1
  · exact w1.elim
  · rename_i a δ2 e1
    split at e1
    · rw [Option.map_eq_some_iff] at e1
      obtain ⟨xs, ex, e1⟩ := e1
      cases e1
      obtain ⟨v, rfl, r⟩ := hv.one
      obtain ⟨a, vs, rfl, h1, r1⟩ := r.seqL ex
      exact ⟨a, vs, rfl, fit_seq M1.fh h1, w1 F1 H1 (Same.refl _) M1 _ (wk_enum h1 r1)⟩
    · cases e1
  · rename_i e1
    split at e1
    · rw [Option.map_eq_some_iff] at e1
      obtain ⟨xs, ex, e1⟩ := e1
      cases e1
    · cases e1
theorem pi_zi (hg : Gl X "zip") (hm : X.mg "zip" = none) (ha : PE X e (tR (gx X) E a)) (hb : PE X e2 (tR (gx X) E b)) (hs : starEach [e, e2] X.env = (false, eval e X.env) :: starEach [e2] X.env) (hs2 : starEach [e2] X.env = [(false, eval e2 X.env)]) (hpl : (backTo pos (starEach [e2] X.env)).any (·.1) = false) :
    PI X (.Tuple elts kk tpos) (.Call (.Name "zip" p) [e, e2] [] pos) (tI (gx X) E (zipM a b)) := by
  refine (RZ.pi_zipA hg hm (pa_args ha (pa_args hb pa_args_nil hs2) hs) hs hpl).imp fun σ H R ⟨O, F, δ, M, w⟩ => ⟨O, F, δ, M, wp_mono (wp_bind w) fun F1 H1 δ1 ds s1 M1 w1 vs hv => ?_⟩
  unfold wp at w1
  simp only at w1
  split at w1
  · exact w1.elim
  · rename_i a δ2 e1
    split at e1
    · cases e1
      obtain ⟨v, w', rfl, r, r'⟩ := hv.two
      cases r with
      | tup h1 r1 =>
        cases r' with
        | tup h2 r2 => exact ⟨_, _, _, _, rfl, .inr ⟨fit_tup M1.fh h1, fit_tup M1.fh h2, w1 F1 H1 (Same.refl _) M1 _ (wk_zipT h1 h2 r1 r2)⟩⟩
    · split at e1
      · rename_i ex ey
        cases e1
        obtain ⟨v, w', rfl, r, r'⟩ := hv.two
        obtain ⟨a, vs, rfl, h1, r1⟩ := r.seqL ex
        obtain ⟨b, ws, rfl, h2, r2⟩ := r'.seqL ey
        exact ⟨a, b, vs, ws, rfl, .inl ⟨fit_seq M1.fh h1, fit_seq M1.fh h2, w1 F1 H1 (Same.refl _) M1 _ (wk_zip h1 h2 r1 r2)⟩⟩
      · cases e1
    · cases e1
  · rename_i e1
    split at e1
    · cases e1
    · split at e1 <;> cases e1
    · cases e1
end

/-! ### for -/
def forM (T : Tg) (body : M Fl) : List D → M Fl
  | [] => retM .next
  | d :: ds => fun δ => match asgT T d δ with
    | none => none
    | some δ1 => bindM body (fun fl => match fl with
      | .next => forM T body ds
      | .cont => forM T body ds
      | .brk => retM .next
      | .ret s => retM (.ret s)) δ1
def forS (T : Tg) (src : M (List D)) (body : M Fl) : M Fl := bindM src fun ds => forM T body ds
section
variable {X : Cx} {g : Gx} {E : WS} {L : List Nat} {D : Ends} {T : Tg} {body : M Fl}
theorem wps_ret_of {O F : Hp} {σ : L2.St} {δ : Dl} {fl : Fl} {D : Ends} (h : ∀ F' H' σ', Same F F' → Keep L σ σ' → Ms g O F' H' σ' δ → FlP g O D F' H' σ' δ fl) : wps g E O F L σ δ (retM fl) D := h
theorem for_core {O F : Hp} {ds : List Ev.D} {J : It} (wk : Wk g J F ds) {σ0 : L2.St} {δ0 : Dl} {H0 : Hp} (M0 : Ms g O F H0 σ0 δ0) (w0 : wps g E O F L σ0 δ0 (forM T body ds) D) :
    ∃ W : Nat → Nat → L2.St → Hp → Prop, (∃ m, W 0 m σ0 H0) ∧ ∀ i m σ H, W i m σ H →
      (J.stop i H ∧ D.nx σ H) ∨ (J.go i H ∧ ∃ N : L2.St → Hp → Prop, (∀ σ' H', N σ' H' → ∃ m', m' < m ∧ W (i + 1) m' σ' H') ∧ ∀ x H', J.yld i H x H' → tG g L T x σ H' fun σ2 H2 => tS g E L body { D with nx := N, ct := N, bk := D.nx } σ2 H2) := by
  refine ⟨fun i m σ H => m = ds.length - i ∧ i ≤ ds.length ∧ ∃ F' δ', Same F F' ∧ Ms g O F' H σ δ' ∧ wps g E O F' L σ δ' (forM T body (ds.drop i)) D, ⟨_, rfl, Nat.zero_le _, F, δ0, Same.refl _, M0, w0⟩, ?_⟩
  rintro i m σ H ⟨rfl, hi, F', δ', s, M, w⟩
  by_cases e : i < ds.length
  · obtain ⟨d, hd⟩ := idx e
    have ed : ds.drop i = d :: ds.drop (i + 1) := by
      obtain ⟨h1, h2⟩ := List.getElem?_eq_some_iff.mp hd
      rw [← h2]; exact List.drop_eq_getElem_cons h1
    rw [ed] at w
    refine .inr ⟨wk.go i F' H s M.fh e, fun σ' H' => ∃ F2 δ2, Same F F2 ∧ Ms g O F2 H' σ' δ2 ∧ wps g E O F2 L σ' δ2 (forM T body (ds.drop (i + 1))) D, fun σ' H' ⟨F2, δ2, s2, M2, w2⟩ => ⟨ds.length - (i + 1), by omega, rfl, by omega, F2, δ2, s2, M2, w2⟩, fun x H' hy => ?_⟩
    obtain ⟨F2, k2, r2⟩ := wk.yl i F' H x H' d s M.fh hd hy
    have w' := wps_mono (F := F2) (σ := σ) k2.ff Keep.refl w
    unfold wps at w'
    unfold forM at w'
    cases ea : asgT T d δ' with
    | none => rw [ea] at w'; exact w'.elim
    | some δ1 =>
      rw [ea] at w'
      refine ⟨O, F2, δ', d, δ1, M.grow k2, r2, ea, fun σ2 kp M2 => ⟨O, F2, δ1, M2, ?_⟩⟩
      unfold wps
      simp only [bindM] at w'
      cases eb : body δ1 with
      | none => rw [eb] at w'; exact w'
      | some r =>
        rw [eb] at w'
        cases r with
        | err x δ3 => exact fun F3 H3 σ3 c dd s3 k3 M3 r3 => w' F3 H3 σ3 c dd s3 (kp.trans k3) M3 r3
        | ok fl δ3 =>
          intro F3 H3 σ3 s3 k3 M3
          have nx : ∀ (w'' : (match forM T body (ds.drop (i + 1)) δ3 with
              | none => False
              | some (.ok fl δ') => ∀ F' H' σ', Same F2 F' → Keep L σ σ' → Ms g O F' H' σ' δ' → FlP g O D F' H' σ' δ' fl
              | some (.err e δ') => ∀ F' H' σ' c dd, Same F2 F' → Keep L σ σ' → Ms g O F' H' σ' δ' → RpE g F' H' e c dd → E σ' c dd H')), wps g E O F3 L σ3 δ3 (forM T body (ds.drop (i + 1))) D := fun w'' => wps_mono s3 (kp.trans k3) (F0 := F2) (σ0 := σ) w''
          cases fl with
          | next => exact ⟨F3, δ3, s.trans (k2.ff.trans s3), M3, nx w'⟩
          | cont => exact ⟨F3, δ3, s.trans (k2.ff.trans s3), M3, nx w'⟩
          | brk => exact w' F3 H3 σ3 s3 (kp.trans k3) M3
          | ret v => exact w' F3 H3 σ3 s3 (kp.trans k3) M3
  · have ei : i = ds.length := by omega
    subst ei
    rw [List.drop_length] at w
    exact .inl ⟨wk.st _ F' H s M.fh rfl, wps_ret M w⟩
theorem ps_for' {tg iter : Expr} {bd : List Stmt} {src : M (List Ev.D)} {pos : Pos} (hp : PassesOwn (model X.prog X.w) X.A X.env X.xe) (hc : X.calm = true) (hi : PI X tg iter (tI (gx X) E src)) (hg : PG X tg (tG (gx X) L T)) (hb : PSs X bd (tS (gx X) E L body)) (hs : ∀ x, foldedSetIterable iter X.env x = pure x) :
    PS X (.For tg iter bd [] pos) (tS (gx X) E L (forS T src body)) := by
  refine (ps_for hp hc hi hg hb hs).imp fun D σ H ⟨O, F, δ, M, w⟩ => ⟨O, F, δ, M, wp_mono (wps_bind w) fun F1 H1 δ1 ds s1 M1 w1 J wk => for_core wk M1 w1⟩
end
end Ev

set_option Elab.async false
set_option linter.all false
set_option maxRecDepth 100000
namespace Ev
open PySem PySem.Spec PyProof.Rows L2

/-! ### while, with fuel -/
def whileM : Nat → M Bool → M Fl → M Fl
  | 0, _, _ => nopeM
  | n + 1, c, body => bindM c fun b => if b then bindM body (fun fl => match fl with
      | .next => whileM n c body
      | .cont => whileM n c body
      | .brk => retM .next
      | .ret s => retM (.ret s)) else retM .next
section
variable {X : Cx} {g : Gx} {E : WS} {L : List Nat} {D : Ends} {T : Tg} {body : M Fl} {pos : Pos}
theorem ps_while' {c : Expr} {bd : List Stmt} {mc : M Bool} (n : Nat) (hp : PassesOwn (model X.prog X.w) X.A X.env X.xe) (hc : PT X c (tT (gx X) E mc)) (hb : PSs X bd (tS (gx X) E L body)) : PS X (.While c bd [] pos) (tS (gx X) E L (whileM n mc body)) := by
  refine (ps_while hp hc hb).imp fun D σ0 H0 ⟨O, F, δ0, M0, w0⟩ => ?_
  refine ⟨fun m σ H => ∃ F' δ', Same F F' ∧ Keep L σ0 σ ∧ Ms (gx X) O F' H σ δ' ∧ wps (gx X) E O F' L σ δ' (whileM m mc body) D, ⟨n, F, δ0, Same.refl _, Keep.refl, M0, w0⟩, ?_⟩
  rintro m σ H ⟨F', δ', s, kp, M, w⟩
  cases m with
  | zero => exact w.elim
  | succ m =>
    refine ⟨O, F', δ', M, wp_mono (wps_bind (show wps (gx X) E O F' L σ δ' (bindM mc fun b => if b then bindM body (fun fl => match fl with
      | .next => whileM m mc body
      | .cont => whileM m mc body
      | .brk => retM .next
      | .ret s => retM (.ret s)) else retM .next) D from w)) fun F1 H1 δ1 b s1 M1 w1 => ?_⟩
    cases b with
    | false => exact wps_ret M1 w1
    | true =>
      rw [if_pos rfl]
      rw [if_pos rfl] at w1
      refine ⟨fun σ' H' => ∃ F2 δ2, Same F F2 ∧ Keep L σ0 σ' ∧ Ms (gx X) O F2 H' σ' δ2 ∧ wps (gx X) E O F2 L σ' δ2 (whileM m mc body) D, fun σ' H' q => ⟨m, Nat.lt_succ_self _, q⟩, O, F1, δ1, M1, ?_⟩
      unfold wps at w1 ⊢
      simp only [bindM] at w1
      cases eb : body δ1 with
      | none => rw [eb] at w1; exact w1
      | some r =>
        rw [eb] at w1
        cases r with
        | err x δ3 => exact w1
        | ok fl δ3 =>
          intro F3 H3 σ3 s3 k3 M3
          cases fl with
          | next => exact ⟨F3, δ3, s.trans (s1.trans s3), kp.trans k3, M3, wps_mono s3 k3 (F0 := F1) (σ0 := σ) w1⟩
          | cont => exact ⟨F3, δ3, s.trans (s1.trans s3), kp.trans k3, M3, wps_mono s3 k3 (F0 := F1) (σ0 := σ) w1⟩
          | brk => exact w1 F3 H3 σ3 s3 k3 M3
          | ret v => exact w1 F3 H3 σ3 s3 k3 M3
end

/-! ### a list of one's own is changed in its place -/
theorem Cells.upd {g : Gx} {O F H : Hp} {cs : List (List D)} {a : Addr} {o : HO} (c : Cells g O F H cs) (f : F a = none) : Cells g O F (upd H a o) cs := by
  refine ⟨fun b n h => ?_, c.all, c.one⟩
  obtain ⟨xs, vs, h1, h2, h3, h4⟩ := c.at_ b n h
  exact ⟨xs, vs, h1, by rw [upd_ne (fun z => by subst z; rw [f] at h; cases h)]; exact h2, h3, h4⟩
theorem Fit.upd {F H : Hp} {a : Addr} {o : HO} (fh : Fit F H) (f : F a = none) : Fit F (upd H a o) := by
  refine ⟨fun b u h m => ?_, fun b h => ?_⟩
  · rw [upd_ne (fun z => by subst z; rw [f] at h; cases h)]; exact fh.rd _ _ h m
  · rw [upd_ne (fun z => by subst z; exact h f)]; exact fh.lv _ h
/-- what is owned at j is exchanged in its place -/
theorem Ms.updS {g : Gx} {O F H : Hp} {σ : L2.St} {δ : Dl} {j : Nat} {a : Addr} {o : HO} {s t : S} (M : Ms g O F H σ δ) (hj : δ[j]? = some (some s)) (hs : s.isOwn = true) (ht : t.isOwn = true) (ha : σ[j]? = some (some (.ref a))) (r : OwnC g F o t) :
    Ms g O F (upd H a o) σ (δ.set j (some t)) := by
  obtain ⟨v, ev, b, ws, rfl, e, r0, f, ho⟩ := M.sw hj hs
  rw [ha] at ev; cases ev
  have ne' : ∀ b o', O b = some o' → b ≠ a := fun b o' h z => by subst z; rw [ho] at h; cases h
  have own : ∀ {v : V} {u : S}, OwnedS g O F H v u → v ≠ .ref a → OwnedS g O F (upd H a o) v u := fun q hv => by
    obtain ⟨c, us, rfl, e1, e2, e3, e4⟩ := q
    exact ⟨c, us, rfl, by rw [upd_ne (fun z => hv (by rw [z]))]; exact e1, e2, e3, e4⟩
  have new : OwnedS g O F (upd H a o) (.ref a) t := ⟨a, o, rfl, upd_same, r, f, ho⟩
  refine ⟨M.fh.upd f, fun b o' h => by rw [upd_ne (ne' b o' h)]; exact M.oh _ _ h, M.dj, fun i u h hm => ?_, fun i k u x w h1 h2 o1 o2 h3 h4 => ?_, fun i cs h => ?_, M.m1.set (fun cs z => by cases z; cases ht)⟩
  · rcases get_set_of h with ⟨e1, e2⟩ | ⟨ni, h'⟩
    · subst e1; cases e2
      refine ⟨_, ha, ?_⟩
      cases t with
      | own xs => exact new
      | od ks xs => exact new
      | _ => cases ht
    · obtain ⟨w, ew, rw'⟩ := M.sl i u h' hm
      refine ⟨w, ew, ?_⟩
      have ne : u.isOwn = true → w ≠ .ref a := fun ho z => by subst z; exact ni (M.ap j i s u _ hj h' hs ho ha ew)
      cases u with
      | d x => exact rw'
      | own ys => exact own rw' (ne rfl)
      | od ks ys => exact own rw' (ne rfl)
      | mem cs => cases hm
  · have back : ∀ {i : Nat} {u : S}, (δ.set j (some t))[i]? = some (some u) → u.isOwn = true → ∃ u', δ[i]? = some (some u') ∧ u'.isOwn = true := fun h ho => by
      rcases get_set_of h with ⟨e1, e2⟩ | ⟨ni, h'⟩
      · subst e1; exact ⟨s, hj, hs⟩
      · exact ⟨_, h', ho⟩
    obtain ⟨u', h1', o1'⟩ := back h1 o1
    obtain ⟨x', h2', o2'⟩ := back h2 o2
    exact M.ap i k u' x' w h1' h2' o1' o2' h3 h4
  · rcases get_set_of h with ⟨_, z⟩ | ⟨_, h'⟩
    · cases z; cases ht
    · exact (M.mm i cs h').upd f
theorem Ms.updOwn {g : Gx} {O F H : Hp} {σ : L2.St} {δ : Dl} {j : Nat} {a : Addr} {vs' : List V} {xs xs' : List D} (M : Ms g O F H σ δ) (hj : δ[j]? = some (some (.own xs))) (hs : σ[j]? = some (some (.ref a))) (r : RpA g F vs' xs') :
    Ms g O F (upd H a (.lst vs')) σ (δ.set j (some (.own xs'))) := M.updS hj rfl rfl hs ⟨vs', rfl, r⟩
/-- x[i] = e, x a list of one's own -/
def setIx (j : Nat) (val ix : M R) : M Fl := bindM (datM val) fun d => bindM (opdM (slotM j)) fun _ => bindM (opdM ix) fun k => fun δ => match δ[j]?, k.val δ with
  | some (some (.own xs)), some (.int i) => match ixN xs.length i with
    | some n => some (.ok .next (δ.set j (some (.own (xs.set n d)))))
    | none => none
  | _, _ => none
theorem slot_ok {j : Nat} {δ δ' : Dl} {r : R} (h : slotM j δ = some (.ok r δ')) : r = .slot j ∧ δ' = δ := by
  unfold slotM at h
  split at h
  · cases h
  · cases h; exact ⟨rfl, rfl⟩
  · cases h
theorem slot_err {j : Nat} {δ δ' : Dl} {x : Ex} (h : slotM j δ = some (.err x δ')) : False := by
  unfold slotM at h
  split at h <;> cases h
theorem opd_slot {j : Nat} {δ δ' : Dl} {o : Op} (h : opdM (slotM j) δ = some (.ok o δ')) : o = .slot j ∧ δ' = δ := by
  unfold opdM bindM at h
  split at h
  · cases h
  · cases h
  · rename_i r δ2 e
    obtain ⟨rfl, rfl⟩ := slot_ok e
    cases h; exact ⟨rfl, rfl⟩
theorem opd_slot_err {j : Nat} {δ δ' : Dl} {x : Ex} (h : opdM (slotM j) δ = some (.err x δ')) : False := by
  unfold opdM bindM at h
  split at h
  · cases h
  · rename_i e; exact slot_err e
  · rename_i r δ2 e
    obtain ⟨rfl, rfl⟩ := slot_ok e
    cases h
section
variable {X : Cx} {g : Gx} {E : WS} {L : List Nat} {pos p tpos : Pos} {e i : Expr}
theorem ps_setIx {j : Nat} {x : Str} {mv mi : M R} (hN : X.N[j]? = some x) (hx : Vis X.env.scope x) (hd : (x == ("__debug__" : Str)) = false) (hcd : (x == ("__classdict__" : Str)) = false) (he : PE X e (tR (gx X) E mv)) (hi : PE X i (tR (gx X) E mi))
    (ha : ∀ v, assign (.Subscript (.Name x p) i tpos) X.env v = (do
      let ov ← holding [v] (eval (.Name x p) X.env)
      let iv ← holding [v, ov] (eval i X.env)
      standAt tpos
      holding [v, ov, iv] (setItem ov iv v)
      release [v, ov, iv] []))
    (hs : swapsWithSole [.Subscript (.Name x p) i tpos] e pos.line X.env = pure false) (hw : swappedStores [.Subscript (.Name x p) i tpos] e X.env = pure none) (h1 : (assignEach [.Subscript (.Name x p) i tpos] X.env).map (·.2) = [assign (.Subscript (.Name x p) i tpos) X.env]) :
    PS X (.Assign [.Subscript (.Name x p) i tpos] e pos) (tS (gx X) E L (setIx j mv mi)) := by
  refine (ps_asg (pr_dat he) (pg_sub (pr_opd (pr_name (E := E) hN hx hd hcd)) (pr_opd hi) set_list ha) hs hw h1).imp fun D σ H ⟨O, F, δ, M, w⟩ => ⟨O, F, δ, M, wp_mono (wps_bind w) fun F1 H1 δ1 d s1 M1 w1 v hv => ?_⟩
  refine ⟨O, F1, δ1, M1, ?_⟩
  have w2 := wps_bind w1
  unfold wp at w2 ⊢
  cases eo : opdM (slotM j) δ1 with
  | none => rw [eo] at w2; exact w2
  | some r =>
    rw [eo] at w2
    cases r with
    | err x δ2 => exact (opd_slot_err eo).elim
    | ok o δ2 =>
      obtain ⟨rfl, rfl⟩ := opd_slot eo
      intro F2 H2 s2 M2 u hu
      refine ⟨O, F2, δ2, M2, wp_mono (wps_bind (w2 F2 H2 s2 M2)) fun F3 H3 δ3 k s3 M3 w3 vi hvi => ?_⟩
      have hu' : σ[j]? = some (some u) := hu
      unfold wps at w3
      simp only at w3
      split at w3
      · exact w3.elim
      · rename_i fl δ4 e4
        split at e4
        · rename_i xs n hj hk
          split at e4
          · rename_i n' hn
            cases e4
            obtain ⟨w, ew, a, vs, rfl, ea, r, f, o⟩ := M3.so hj
            rw [hu'] at ew; cases ew
            have ei := (M3.bw hvi hk).int
            subst ei
            refine ⟨a, vs, n, n', rfl, rfl, ea, by rw [r.length]; exact hn, ?_⟩
            exact w3 F3 _ σ (Same.refl _) Keep.refl (M3.updOwn hj hu' (r.set (Rp.mono (s2.trans s3) _ _ hv) n'))
          · cases e4
        · cases e4
      · rename_i e4
        split at e4
        · split at e4 <;> cases e4
        · cases e4

/-! methods that change a list of one's own: x.m(..) as a statement or a value -/
def ownM (j : Nat) : M Unit := fun δ => match δ[j]? with
  | some (some (.own _)) => some (.ok () δ)
  | _ => none
def meth (j : Nat) (f : List D → List D → Option (D × List D)) (ms : List (M R)) : M R := bindM (opdM (slotM j)) fun _ => bindM (ownM j) fun _ => bindM (argsM ms) fun ds => fun δ => match δ[j]? with
  | some (some (.own xs)) => match f xs ds with
    | some (d, ys) => some (.ok (.d d) (δ.set j (some (.own ys))))
    | none => none
  | _ => none
/-- a method's rule does what f says -/
def OM (g : Gx) (r : V → List V → Hp → VK → Prop) (f : List D → List D → Option (D × List D)) : Prop := ∀ (F H : Hp) (a : Addr) (vs ws : List V) (xs ds : List D) (d : D) (ys : List D) (Q : VK), Fit F H → H a = some (.lst vs) → RpA g F vs xs → RpA g F ws ds → f xs ds = some (d, ys) →
  (∀ u vs', Rp g F u d → RpA g F vs' ys → Q u (upd H a (.lst vs'))) → r (.ref a) ws H Q
theorem t_meth0 {j : Nat} {r : V → List V → Hp → VK → Prop} {f : List D → List D → Option (D × List D)} {ms : List (M R)} (h : OM (gx X) r f) (σ : L2.St) (H : Hp) (Q : VK) (w : tR (gx X) E (meth j f ms) σ H Q) :
    ∃ a, σ[j]? = some (some (.ref a)) ∧ (∃ vs, H a = some (.lst vs)) ∧ tO (gx X) E (opdM (slotM j)) σ H (fun x H1 => x = .ref a ∧ tyV X.K "list" x H1 ∧ tAs (gx X) E (argsM ms) σ H1 fun xs H2 => r x xs H2 Q) := by
  obtain ⟨O, F, δ, M, w⟩ := w
  have w2 := wp_bind w
  unfold wp at w2
  cases eo : opdM (slotM j) δ with
  | none => rw [eo] at w2; exact w2.elim
  | some q =>
    rw [eo] at w2
    cases q with
    | err x δ2 => exact (opd_slot_err eo).elim
    | ok o δ2 =>
      obtain ⟨rfl, rfl⟩ := opd_slot eo
      have w3 := wp_bind (w2 F H (Same.refl _) M)
      have own : ∃ xs, δ2[j]? = some (some (.own xs)) := by
        unfold wp ownM at w3
        cases e : δ2[j]? with
        | none => rw [e] at w3; exact w3.elim
        | some s => cases s with
          | none => rw [e] at w3; exact w3.elim
          | some s => cases s with
            | own xs => exact ⟨xs, rfl⟩
            | _ => rw [e] at w3; exact w3.elim
      obtain ⟨xs0, hown⟩ := own
      obtain ⟨u0, eu0, a, vs0, rfl, ea0, _⟩ := M.so hown
      refine ⟨a, eu0, ⟨vs0, ea0⟩, O, F, δ2, M, ?_⟩
      unfold wp
      rw [eo]
      intro F2 H2 s2 M2 u hu
      have hu' : σ[j]? = some (some u) := hu
      rw [eu0] at hu'; cases hu'
      obtain ⟨u1, eu1, a1, vs1, rfl, ea1, _⟩ := M2.so hown
      rw [eu0] at eu1; cases eu1
      refine ⟨rfl, .inl ⟨rfl, vs1, .inl (.inl ea1)⟩, ?_⟩
      have w4 := wp_bind (w2 F2 H2 s2 M2)
      unfold wp ownM at w4
      rw [hown] at w4
      have w5 := wp_bind (w4 F2 H2 (Same.refl _) M2)
      refine ⟨O, F2, δ2, M2, wp_mono w5 fun F3 H3 δ3 ds s3 M3 w6 ws hws => ?_⟩
      unfold wp at w6
      simp only at w6
      cases e3 : δ3[j]? with
      | none => rw [e3] at w6; exact w6.elim
      | some t => cases t with
        | none => rw [e3] at w6; exact w6.elim
        | some t => cases t with
          | d x => rw [e3] at w6; exact w6.elim
          | od x y => rw [e3] at w6; exact w6.elim
          | mem x => rw [e3] at w6; exact w6.elim
          | own xs =>
            rw [e3] at w6
            simp only at w6
            cases ef : f xs ds with
            | none => rw [ef] at w6; exact w6.elim
            | some p =>
              obtain ⟨d, ys⟩ := p
              rw [ef] at w6
              obtain ⟨u3, eu3, a3, vs3, rfl, ea3, r3, _⟩ := M3.so e3
              rw [eu0] at eu3; cases eu3
              exact h F3 H3 a vs3 ws xs ds d ys Q M3.fh ea3 r3 hws ef fun u vs' ru rv => w6 F3 _ (Same.refl _) (M3.updOwn e3 eu0 rv) u ru
theorem t_meth {j : Nat} {r : V → List V → Hp → VK → Prop} {f : List D → List D → Option (D × List D)} {ms : List (M R)} (h : OM (gx X) r f) (σ : L2.St) (H : Hp) (Q : VK) (w : tR (gx X) E (meth j f ms) σ H Q) : tBM X.K "list" r (tO (gx X) E (opdM (slotM j))) (tAs (gx X) E (argsM ms)) σ H Q := by
  obtain ⟨a, _, _, O, F, δ, M, q⟩ := t_meth0 h σ H Q w
  exact ⟨O, F, δ, M, wp_mono q fun F' H' δ' o s M' z v hv => (z v hv).2⟩
def appF : List D → List D → Option (D × List D)
  | xs, [y] => if xs.length < sizeLine then some (.non, xs ++ [y]) else none
  | _, _ => none
theorem om_append {g : Gx} : OM g rAppend appF := by
  intro F H a vs ws xs ds d ys Q fh ha r rw' ef q
  unfold appF at ef
  split at ef
  · split at ef
    · cases ef
      obtain ⟨w, rfl, r1⟩ := rw'.one
      exact ⟨a, vs, w, rfl, rfl, ha, by rw [r.length]; assumption, q _ _ .non (r.append (.cons r1 .nil))⟩
    · cases ef
  · cases ef
def popF : List D → List D → Option (D × List D)
  | xs, [] => match xs[xs.length - 1]? with
    | some y => some (y, xs.dropLast)
    | none => none
  | _, _ => none
theorem RpA.dropLast {g : Gx} {F : Hp} {vs : List V} {ds : List D} (r : RpA g F vs ds) : RpA g F vs.dropLast ds.dropLast := by
  rw [List.dropLast_eq_take, List.dropLast_eq_take, r.length]; exact r.take _
theorem om_pop {g : Gx} : OM g rPop popF := by
  intro F H a vs ws xs ds d ys Q fh ha r rw' ef q
  unfold popF at ef
  split at ef
  · split at ef
    · cases ef
      cases rw'
      rename_i y hy
      obtain ⟨v, hv, rv⟩ := r.get hy
      exact ⟨a, vs, v, rfl, rfl, ha, by rw [r.length]; exact hv, q _ _ rv r.dropLast⟩
    · cases ef
  · cases ef
end
end Ev

set_option Elab.async false
set_option linter.all false
set_option maxRecDepth 100000
namespace Ev
open PySem PySem.Spec PyProof.Rows L2

/-! ### list comprehensions: vs the slots of the block's own names -/
def wipeD (δ : Dl) : List Nat → Dl
  | [] => δ
  | v :: vs => (wipeD δ vs).set v none
theorem wipeD_some {δ : Dl} {i : Nat} {x : S} : ∀ {vs : List Nat}, (wipeD δ vs)[i]? = some (some x) → δ[i]? = some (some x) ∧ i ∉ vs
  | [], h => ⟨h, by simp⟩
  | v :: vs, h => by
    rcases get_set_of h with ⟨_, z⟩ | ⟨ne, h'⟩
    · cases z
    · obtain ⟨h1, h2⟩ := wipeD_some h'
      exact ⟨h1, by simp only [List.mem_cons, not_or]; exact ⟨fun z => ne z.symm, h2⟩⟩
/-- the slots at vs as they stood -/
def backD (δ0 δ : Dl) : List Nat → Dl
  | [] => δ
  | v :: vs => (backD δ0 δ vs).set v (δ0.getD v none)
theorem backD_some {δ0 δ : Dl} {i : Nat} {x : S} : ∀ {vs : List Nat}, (backD δ0 δ vs)[i]? = some (some x) → (i ∈ vs ∧ δ0[i]? = some (some x)) ∨ (i ∉ vs ∧ δ[i]? = some (some x))
  | [], h => .inr ⟨by simp, h⟩
  | v :: vs, h => by
    rcases get_set_of h with ⟨e, z⟩ | ⟨ne, h'⟩
    · subst e
      refine .inl ⟨by simp, ?_⟩
      rw [List.getD_eq_getElem?_getD] at z
      cases e0 : δ0[v]? with
      | none => rw [e0] at z; cases z
      | some y => rw [e0] at z; simp only [Option.getD_some] at z; rw [z]
    · rcases backD_some h' with ⟨a, b⟩ | ⟨a, b⟩
      · exact .inl ⟨by simp [a], b⟩
      · exact .inr ⟨by simp only [List.mem_cons, not_or]; exact ⟨fun z => ne z.symm, a⟩, b⟩
def noOwn (δ : Dl) (vs : List Nat) : Bool := vs.all fun i => match δ[i]? with
  | some (some s) => match s with
    | .d _ => true
    | _ => false
  | _ => true
theorem noOwn_at {δ : Dl} {vs : List Nat} (h : noOwn δ vs = true) {i : Nat} (hi : i ∈ vs) {s : S} (hs : δ[i]? = some (some s)) : ∃ x, s = .d x := by
  have := List.all_eq_true.mp h i hi
  rw [hs] at this
  cases s with
  | d x => exact ⟨x, rfl⟩
  | _ => cases this
theorem wipe_ne {σ : L2.St} {i : Nat} : ∀ {vs : List Nat}, i ∉ vs → (wipe σ vs)[i]? = σ[i]?
  | [], _ => rfl
  | v :: vs, h => by
    simp only [List.mem_cons, not_or] at h
    show ((wipe σ vs).set v none)[i]? = _
    rw [List.getElem?_set_ne (fun z => h.1 z.symm), wipe_ne h.2]
theorem wipe_len {σ : L2.St} : ∀ {vs : List Nat}, (wipe σ vs).length = σ.length
  | [] => rfl
  | v :: vs => by show ((wipe σ vs).set v none).length = _; rw [List.length_set, wipe_len]
theorem wipe_at {σ : L2.St} {i : Nat} (hi : i < σ.length) : ∀ {vs : List Nat}, i ∈ vs → (wipe σ vs)[i]? = some none
  | v :: vs, h => by
    show ((wipe σ vs).set v none)[i]? = _
    by_cases e : v = i
    · subst e; exact List.getElem?_set_self (by rw [wipe_len]; exact hi)
    · rw [List.getElem?_set_ne e]
      exact wipe_at hi ((List.mem_cons.mp h).resolve_left fun z => e z.symm)
theorem wipe_eq {σ σ' : L2.St} {vs : List Nat} (hl : σ'.length = σ.length) (h : ∀ i, i ∉ vs → σ'[i]? = σ[i]?) : wipe σ' vs = wipe σ vs := by
  apply List.ext_getElem?
  intro i
  by_cases hi : i ∈ vs
  · by_cases hb : i < σ.length
    · rw [wipe_at hb hi, wipe_at (by rw [hl]; exact hb) hi]
    · rw [List.getElem?_eq_none (by rw [wipe_len, hl]; omega), List.getElem?_eq_none (by rw [wipe_len]; omega)]
  · rw [wipe_ne hi, wipe_ne hi, h i hi]
/-- one item after another -/
def compGo (vs : List Nat) (T : Tg) (tt : M Bool) (te : M D) : List D → List D → M (List D)
  | [], acc => retM acc
  | d :: ds, acc => fun δ => match asgT T d δ with
    | none => none
    | some δ1 => bindM tt (fun b => if b then bindM te (fun y => fun δ2 => if acc.length < sizeLine then compGo vs T tt te ds (acc ++ [y]) (wipeD δ2 vs) else none) else fun δ2 => compGo vs T tt te ds acc (wipeD δ2 vs)) δ1
def compM (vs : List Nat) (T : Tg) (src : M (List D)) (tt : M Bool) (te : M D) : M R := bindM src fun ds => fun δ => if noOwn δ vs then match compGo vs T tt te ds [] (wipeD δ vs) with
    | some (.ok out δe) => some (.ok (.own out) (backD δ δe vs))
    | _ => none
  else none
/-- the slots that a block leaves alone -/
def outer (n : Nat) (vs : List Nat) : List Nat := (List.range n).filter fun i => !vs.contains i
section
variable {g : Gx} {O F H : Hp} {σ : L2.St} {δ : Dl} {vs : List Nat}
theorem Ms.wiped (M : Ms g O F H σ δ) : Ms g O F H (wipe σ vs) (wipeD δ vs) := by
  refine ⟨M.fh, M.oh, M.dj, fun i s h hm => ?_, fun i j s t v h1 h2 o1 o2 h3 h4 => ?_, fun i cs h => M.mm i cs (wipeD_some h).1, fun i j cs ds h1 h2 => M.m1 i j cs ds (wipeD_some h1).1 (wipeD_some h2).1⟩
  · obtain ⟨h1, h2⟩ := wipeD_some h
    obtain ⟨v, ev, r⟩ := M.sl i s h1 hm
    exact ⟨v, by rw [wipe_ne h2]; exact ev, r⟩
  · obtain ⟨a1, a2⟩ := wipeD_some h1
    obtain ⟨b1, b2⟩ := wipeD_some h2
    rw [wipe_ne a2] at h3
    rw [wipe_ne b2] at h4
    exact M.ap i j s t v a1 b1 o1 o2 h3 h4
theorem Ms.wiped2 {σ2 : L2.St} (M : Ms g O F H σ2 δ) (e : wipe σ2 vs = wipe σ vs) : Ms g O F H (wipe σ vs) (wipeD δ vs) := by rw [← e]; exact M.wiped
theorem RpS.out {o : HO} {p : Addr} {v : V} {s : S} (r : RpS g O F H v s) (hp : H p = none) : RpS g (upd O p o) F (upd H p o) v s := by
  have up : Same H (upd H p o) := fun b x e => by rw [upd_ne (ne_of_none e hp)]; exact e
  have key : ∀ t : S, OwnedS g O F H v t → OwnedS g (upd O p o) F (upd H p o) v t := fun t q => by
    obtain ⟨a, us, rfl, e1, e2, e3, e4⟩ := q
    exact ⟨a, us, rfl, up _ _ e1, e2, e3, by rw [upd_ne (ne_of_none e1 hp)]; exact e4⟩
  cases s with
  | d x => exact r
  | own xs => exact key _ r
  | od ks xs => exact key _ r
  | mem cs => exact key _ r
theorem Ms.out {o : HO} {p : Addr} (M : Ms g O F H σ δ) (hp : H p = none) (h' : Hp) (hh : h' = upd H p o) : Ms g (upd O p o) F h' σ δ := by
  subst hh
  have fp : F p = none := M.fh.free hp
  have up : Same H (upd H p o) := fun b x e => by rw [upd_ne (ne_of_none e hp)]; exact e
  refine ⟨M.fh.up up, fun b x e => ?_, fun b => ?_, fun i s h hm => ?_, M.ap, fun i cs h => ?_, M.m1⟩
  · by_cases hb : b = p
    · subst hb; rw [upd_same] at e ⊢; exact e
    · rw [upd_ne hb] at e; exact up _ _ (M.oh _ _ e)
  · by_cases hb : b = p
    · subst hb; exact .inl fp
    · rw [upd_ne hb]; exact M.dj b
  · obtain ⟨v, ev, r⟩ := M.sl i s h hm
    exact ⟨v, ev, r.out hp⟩
  · have c := M.mm i cs h
    refine ⟨fun b n q => ?_, c.all, c.one⟩
    obtain ⟨xs, vs, h1, h2, h3, h4⟩ := c.at_ b n q
    exact ⟨xs, vs, h1, up _ _ h2, h3, by rw [upd_ne (fun z => by subst z; rw [fp] at q; cases q)]; exact h4⟩
theorem RpS.reout {o o' : HO} {p : Addr} {v : V} {s : S} (r : RpS g (upd O p o) F H v s) : RpS g (upd O p o') F (upd H p o') v s := by
  have key : ∀ t : S, OwnedS g (upd O p o) F H v t → OwnedS g (upd O p o') F (upd H p o') v t := fun t q => by
    obtain ⟨a, us, rfl, e1, e2, e3, e4⟩ := q
    have : a ≠ p := fun z => by subst z; rw [upd_same] at e4; cases e4
    exact ⟨a, us, rfl, by rw [upd_ne this]; exact e1, e2, e3, by rw [upd_ne this] at e4 ⊢; exact e4⟩
  cases s with
  | d x => exact r
  | own xs => exact key _ r
  | od ks xs => exact key _ r
  | mem cs => exact key _ r
theorem Ms.reout {o o' : HO} {p : Addr} (M : Ms g (upd O p o) F H σ δ) (hO : O p = none) : Ms g (upd O p o') F (upd H p o') σ δ := by
  have hp : H p = some o := M.oh _ _ upd_same
  have fp : F p = none := (M.dj p).resolve_right (by rw [upd_same]; exact fun z => nomatch z)
  refine ⟨M.fh.upd fp, fun b x e => ?_, fun b => ?_, fun i s h hm => ?_, M.ap, fun i cs h => ?_, M.m1⟩
  · by_cases hb : b = p
    · subst hb; rw [upd_same] at e ⊢; exact e
    · rw [upd_ne hb] at e ⊢
      exact M.oh _ _ (by rw [upd_ne hb]; exact e)
  · by_cases hb : b = p
    · subst hb; exact .inl fp
    · rw [upd_ne hb]
      have := M.dj b
      rw [upd_ne hb] at this; exact this
  · obtain ⟨v, ev, r⟩ := M.sl i s h hm
    exact ⟨v, ev, r.reout⟩
  · have c := M.mm i cs h
    refine ⟨fun b n q => ?_, c.all, c.one⟩
    have nb : b ≠ p := fun z => by subst z; rw [fp] at q; cases q
    obtain ⟨xs, vs, h1, h2, h3, h4⟩ := c.at_ b n q
    exact ⟨xs, vs, h1, by rw [upd_ne nb]; exact h2, h3, by rw [upd_ne nb] at h4 ⊢; exact h4⟩
theorem RpS.unout {o : HO} {p : Addr} {v : V} {s : S} (r : RpS g (upd O p o) F H v s) (hO : O p = none) : RpS g O F H v s := by
  have key : ∀ t : S, OwnedS g (upd O p o) F H v t → OwnedS g O F H v t := fun t q => by
    obtain ⟨a, us, rfl, e1, e2, e3, e4⟩ := q
    have : a ≠ p := fun z => by subst z; rw [upd_same] at e4; cases e4
    exact ⟨a, us, rfl, e1, e2, e3, by rw [upd_ne this] at e4; exact e4⟩
  cases s with
  | d x => exact r
  | own xs => exact key _ r
  | od ks xs => exact key _ r
  | mem cs => exact key _ r
theorem Ms.back {o : HO} {p : Addr} {δ0 : Dl} {F0 H0 : Hp} (M0 : Ms g O F0 H0 σ δ0) (s : Same F0 F) (no : noOwn δ0 vs = true) (M : Ms g (upd O p o) F H (wipe σ vs) δ) (hO : O p = none) : Ms g O F H σ (backD δ0 δ vs) := by
  have fp : F p = none := (M.dj p).resolve_right (by rw [upd_same]; exact fun z => nomatch z)
  refine ⟨M.fh, fun b x e => ?_, fun b => ?_, fun i t h hm => ?_, fun i j s t v h1 h2 o1 o2 h3 h4 => ?_, fun i cs h => ?_, fun i j cs ds h1 h2 => ?_⟩
  rotate_right
  · rcases backD_some h1 with ⟨a, b⟩ | ⟨a, b⟩
    · obtain ⟨x, e⟩ := noOwn_at no a b; cases e
    rcases backD_some h2 with ⟨c, d⟩ | ⟨c, d⟩
    · obtain ⟨x, e⟩ := noOwn_at no c d; cases e
    exact M.m1 i j cs ds b d
  · exact M.oh _ _ (by rw [upd_ne (fun z => by subst z; rw [hO] at e; cases e)]; exact e)
  · by_cases hb : b = p
    · subst hb; exact .inr hO
    · have := M.dj b
      rw [upd_ne hb] at this; exact this
  · rcases backD_some h with ⟨a, b⟩ | ⟨a, b⟩
    · obtain ⟨x, rfl⟩ := noOwn_at no a b
      obtain ⟨v, ev, r⟩ := M0.sd b
      exact ⟨v, ev, Rp.mono s _ _ r⟩
    · obtain ⟨v, ev, r⟩ := M.sl i t b hm
      rw [wipe_ne a] at ev
      exact ⟨v, ev, r.unout hO⟩
  · rcases backD_some h1 with ⟨a, b⟩ | ⟨a, b⟩
    · obtain ⟨x, rfl⟩ := noOwn_at no a b; cases o1
    rcases backD_some h2 with ⟨c, d⟩ | ⟨c, d⟩
    · obtain ⟨x, rfl⟩ := noOwn_at no c d; cases o2
    exact M.ap i j s t v b d o1 o2 (by rw [wipe_ne a]; exact h3) (by rw [wipe_ne c]; exact h4)
  · rcases backD_some h with ⟨a, b⟩ | ⟨a, b⟩
    · obtain ⟨x, e⟩ := noOwn_at no a b; cases e
    · have c := M.mm i cs b
      refine ⟨fun d n q => ?_, c.all, c.one⟩
      obtain ⟨xs, us, h1, h2, h3, h4⟩ := c.at_ d n q
      exact ⟨xs, us, h1, h2, h3, by rw [upd_ne (fun z => by subst z; rw [fp] at q; cases q)] at h4; exact h4⟩
end
section
variable {X : Cx} {E : WS} {tg iter elt : Expr} {ifs : List Expr} {T : Tg} {src : M (List D)} {tt : M Bool} {te : M D} {vs : List Nat}
theorem wp_of_ok {g : Gx} {O F : Hp} {σ : L2.St} {δ δ' : Dl} {α : Type} {m : M α} {a : α} {ok : Hp → Hp → Dl → α → Prop} {er : Hp → Hp → Dl → Ex → Prop} (e : m δ = some (.ok a δ')) (h : ∀ F' H', Same F F' → Ms g O F' H' σ δ' → ok F' H' δ' a) : wp g O F σ δ m ok er := by
  unfold wp; rw [e]; exact h
theorem bind_ok {α β : Type} {m : M α} {f : α → M β} {δ δ' : Dl} {b : β} (h : bindM m f δ = some (.ok b δ')) : ∃ a δ1, m δ = some (.ok a δ1) ∧ f a δ1 = some (.ok b δ') := by
  unfold bindM at h
  split at h
  · cases h
  · cases h
  · exact ⟨_, _, by assumption, h⟩
theorem lc_core' {σ : L2.St} {H : Hp} {Q : VK} {n : Nat} (hn : σ.length = n) (w : tR (gx X) E (compM vs T src tt te) σ H Q) :
    tLc (tI (gx X) E src) (tG (gx X) (outer n vs) T) (tT (gx X) (fun _ => E0) tt) (tD (gx X) (fun _ => E0) te) vs σ H Q := by
  obtain ⟨O, F, δ, M, w⟩ := w
  refine ⟨O, F, δ, M, wp_mono (wp_bind w) fun F1 H1 δ1 ds s1 M1 w1 J wk P hP => ?_⟩
  unfold wp at w1
  simp only at w1
  split at w1
  · exact w1.elim
  · rename_i r δ3 e1
    split at e1
    · rename_i hno
      split at e1
      · rename_i out δe eg
        cases e1
        have hO : O P = none := M1.oh.free hP
        refine ⟨fun i m H' => m = ds.length - i ∧ i ≤ ds.length ∧ ∃ F' δ' acc accD, Same F1 F' ∧ Ms (gx X) (upd O P (.lst acc)) F' H' (wipe σ vs) δ' ∧ RpA (gx X) F' acc accD ∧ compGo vs T tt te (ds.drop i) accD δ' = some (.ok out δe),
          ⟨_, rfl, Nat.zero_le _, F1, _, [], [], Same.refl _, M1.wiped.out hP _ rfl, .nil, eg⟩, ?_⟩
        rintro i m H2 ⟨rfl, hi, F2, δ2, acc, accD, s2, M2, racc, eg2⟩
        by_cases hlt : i < ds.length
        · obtain ⟨d, hd⟩ := idx hlt
          have ed : ds.drop i = d :: ds.drop (i + 1) := by
            obtain ⟨h1, h2⟩ := List.getElem?_eq_some_iff.mp hd
            rw [← h2]; exact List.drop_eq_getElem_cons h1
          rw [ed] at eg2
          refine .inr ⟨wk.go i F2 H2 s2 M2.fh hlt, fun H' => ∃ F' δ' acc accD, Same F1 F' ∧ Ms (gx X) (upd O P (.lst acc)) F' H' (wipe σ vs) δ' ∧ RpA (gx X) F' acc accD ∧ compGo vs T tt te (ds.drop (i + 1)) accD δ' = some (.ok out δe),
            fun H' q => ⟨ds.length - (i + 1), by omega, rfl, by omega, q⟩, fun x H3 hy => ?_⟩
          obtain ⟨F3, k3, r3⟩ := wk.yl i F2 H2 x H3 d s2 M2.fh hd hy
          simp only [compGo] at eg2
          cases ea : asgT T d δ2 with
          | none => rw [ea] at eg2; cases eg2
          | some δ4 =>
            rw [ea] at eg2
            refine ⟨upd O P (.lst acc), F3, δ2, d, δ4, M2.grow k3, r3, ea, fun σ4 kp M4 => ?_⟩
            have we : wipe σ4 vs = wipe σ vs := by
              have h1 : wipe σ4 vs = wipe (wipe σ vs) vs := wipe_eq kp.1 fun j hj => by
                by_cases hb : j < n
                · exact kp.2 j (List.mem_filter.mpr ⟨List.mem_range.mpr hb, by simp [hj]⟩)
                · rw [List.getElem?_eq_none (by rw [kp.1, wipe_len, hn]; omega), List.getElem?_eq_none (by rw [wipe_len, hn]; omega)]
              rw [h1]
              exact wipe_eq (wipe_len) fun j hj => wipe_ne hj
            refine ⟨we, ?_⟩
            obtain ⟨b, δ5, eb, eg3⟩ := bind_ok eg2
            refine ⟨upd O P (.lst acc), F3, δ4, M4, wp_of_ok eb fun F5 H5 s5 M5 => ?_⟩
            have s15 : Same F1 F5 := s2.trans (k3.ff.trans s5)
            have racc5 := racc.mono (k3.ff.trans s5) _ _
            cases b with
            | false =>
              rw [if_neg Bool.false_ne_true] at eg3
              exact iteF ⟨F5, _, acc, accD, s15, M5.wiped2 we, racc5, eg3⟩
            | true =>
              rw [if_pos rfl] at eg3
              obtain ⟨y, δ6, ey, eg4⟩ := bind_ok eg3
              refine iteT ⟨upd O P (.lst acc), F5, δ5, M5, wp_of_ok ey fun F6 H6 s6 M6 v hv => ?_⟩
              try simp only at eg4
              split at eg4
              · rename_i hz
                refine ⟨acc, M6.oh _ _ upd_same, by rw [racc5.length]; exact hz, F6, _, acc ++ [v], accD ++ [y], s15.trans s6, ?_, (racc5.mono s6 _ _).append (.cons hv .nil), eg4⟩
                exact (M6.reout hO).wiped2 we
              · cases eg4
        · have ei : i = ds.length := by omega
          subst ei
          rw [List.drop_length] at eg2
          simp only [compGo, retM, Option.some.injEq, Rs.ok.injEq] at eg2
          obtain ⟨rfl, rfl⟩ := eg2
          have Mb := M1.back s2 hno M2 hO
          refine .inl ⟨wk.st _ F2 H2 s2 M2.fh rfl, w1 F2 H2 s2 Mb _ ⟨⟨P, _, rfl, M2.oh _ _ upd_same, ⟨acc, rfl, racc⟩, (M2.dj P).resolve_right (by rw [upd_same]; exact fun z => nomatch z), hO⟩, fun j t hj ht hs => ?_⟩⟩
          -- the slot's list stood ahead of the new one
          rcases backD_some hj with ⟨a, b⟩ | ⟨a, b⟩
          · obtain ⟨x, rfl⟩ := noOwn_at hno a b; cases ht
          · obtain ⟨u, eu, q, us, rfl, f1, f2, f3, f4⟩ := M2.sw b ht
            rw [wipe_ne a, hs] at eu; cases eu
            rw [upd_same] at f4; cases f4
      · cases e1
    · cases e1
  · rename_i e1
    split at e1
    · split at e1
      · cases e1
      · cases e1
    · cases e1
theorem pr_lc {scope : Scope} {own : List (Str × Nat)} {pos : Pos} (hc : X.calm = true) (hN : X.N.Nodup) (hi : PI X tg iter (tI (gx X) E src)) (ok : BlkOk X.N X.env.scope scope own)
    (hg : ∀ (s : Shared) (H : Hp) (C : Addr) (cl : List (Str × Addr)) (fp : List Addr), PG (X.blk s H scope (compEnvC scope cl C X.env) fp) tg (tG (gx X) (outer X.N.length (own.map (·.2))) T))
    (ht : ∀ (s : Shared) (H : Hp) (C : Addr) (cl : List (Str × Addr)) (fp : List Addr), PTs (X.blk s H scope (compEnvC scope cl C X.env) fp) ifs (tT (gx X) (fun _ => E0) tt))
    (he : ∀ (s : Shared) (H : Hp) (C : Addr) (cl : List (Str × Addr)) (fp : List Addr), PE (X.blk s H scope (compEnvC scope cl C X.env) fp) elt (tD (gx X) (fun _ => E0) te)) (hs : ∀ x, foldedSetIterable iter X.env x = pure x) :
    PE X (.ListComp elt [⟨tg, iter, ifs, 0⟩] scope pos) (tR (gx X) E (compM (own.map (·.2)) T src tt te)) :=
  ⟨fun pins s σ H Q I w => (pe_lc hc hN hi ok hg ht he hs).run pins s σ H Q I (lc_core' I.len w)⟩
theorem pr_setLc {L : List Nat} {i : Nat} {y : Str} {py : Pos} {scope : Scope} {own : List (Str × Nat)} {pos spos : Pos} (hc : X.calm = true) (hN : X.N.Nodup) (hy : X.N[i]? = some y) (hyl : X.env.scope.names.lookup y = some .local) (hL : i ∉ L)
    (hsw : swapsWith (.ListComp elt [⟨tg, iter, ifs, 0⟩] scope pos) (some (.Name y py)) spos.line X.env = pure true) (hi : PI X tg iter (tI (gx X) E src)) (ok : BlkOk X.N X.env.scope scope own)
    (hg : ∀ (s : Shared) (H : Hp) (C : Addr) (cl : List (Str × Addr)) (fp : List Addr), PG (X.blk s H scope (compEnvC scope cl C X.env) fp) tg (tG (gx X) (outer X.N.length (own.map (·.2))) T))
    (ht : ∀ (s : Shared) (H : Hp) (C : Addr) (cl : List (Str × Addr)) (fp : List Addr), PTs (X.blk s H scope (compEnvC scope cl C X.env) fp) ifs (tT (gx X) (fun _ => E0) tt))
    (he : ∀ (s : Shared) (H : Hp) (C : Addr) (cl : List (Str × Addr)) (fp : List Addr), PE (X.blk s H scope (compEnvC scope cl C X.env) fp) elt (tD (gx X) (fun _ => E0) te)) (hs : ∀ x, foldedSetIterable iter X.env x = pure x) :
    PS X (.Assign [.Name y py] (.ListComp elt [⟨tg, iter, ifs, 0⟩] scope pos) spos) (tS (gx X) E L (setS i (compM (own.map (·.2)) T src tt te))) := by
  refine ⟨fun pins s σ H D I w => (ps_setLc hc hN hy hyl hsw hi ok hg ht he hs).run pins s σ H D I ?_⟩
  obtain ⟨O, F, δ, M, w⟩ := w
  refine lc_core' (Q := fun v H1 => D.nx (σ.set i (some v)) H1) I.len ⟨O, F, δ, M, wp_mono (wps_bind w) fun F1 H1 δ1 r s1 M1 w1 v hv => wps_put M1 ?_ hL hv w1⟩
  rw [I.len]; exact (List.getElem?_eq_some_iff.mp hy).1
end
end Ev

set_option Elab.async false
set_option linter.all false
set_option maxRecDepth 100000
namespace Ev
open PySem PySem.Spec PyProof.Rows L2

/-! ### functions by data: the parameters' slots, then the shared lists -/
abbrev Fn := List S → Option (Rs S)
/-- what a def promises: the parameters' slots behind it, the result -/
def spOf (g : Gx) (n : Nat) (fn : Fn) : Sp := fun vs H Q E => vs.length = n ∧ ∃ O F ss cs, ss.length = n ∧ Ms g O F H (vs.map some) ((ss ++ [S.mem cs]).map some) ∧
  wp g O F (vs.map some) ((ss ++ [S.mem cs]).map some) (fun _ => fn (ss ++ [S.mem cs])) (fun F' H' δ' s => ∀ v, RpT g O F' H' (vs.map some) δ' v s → Q v H') (eE g E)

/-! ### calls -/
inductive Ag where
  | val (m : M R) | rf (j : Nat)
def agsM : List Ag → M (List Op)
  | [] => retM []
  | .val m :: r => bindM (datM m) fun x => bindM (agsM r) fun xs => retM (.d x :: xs)
  | .rf j :: r => bindM (opdM (slotM j)) fun x => bindM (agsM r) fun xs => retM (x :: xs)
def ssOf (δ : Dl) : List Op → Option (List S)
  | [] => some []
  | .d x :: r => (ssOf δ r).map (S.d x :: ·)
  | .slot j :: r => match δ[j]? with
    | some (some (.own xs)) => (ssOf δ r).map (S.own xs :: ·)
    | some (some (.od ks xs)) => (ssOf δ r).map (S.od ks xs :: ·)
    | _ => none
def slotsIn : List Op → List Nat
  | [] => []
  | .d _ :: r => slotsIn r
  | .slot j :: r => j :: slotsIn r
def putBack : List Op → Dl → Dl → Dl
  | .slot j :: r, x :: xs, δ => (putBack r xs δ).set j x
  | .d _ :: r, _ :: xs, δ => putBack r xs δ
  | _, _, δ => δ
def ndp : List Nat → Bool
  | [] => true
  | a :: r => !r.contains a && ndp r
theorem ndp_ok : ∀ {l : List Nat}, ndp l = true → l.Nodup
  | [], _ => List.nodup_nil
  | a :: r, h => by
    simp only [ndp, Bool.and_eq_true, Bool.not_eq_true', List.contains_eq_mem] at h
    exact List.nodup_cons.mpr ⟨by simpa using h.1, ndp_ok h.2⟩
theorem ssOf_slot {δ : Dl} {j : Nat} {r : List Op} {ss : List S} (h : ssOf δ (.slot j :: r) = some ss) : ∃ s t, s.isOwn = true ∧ δ[j]? = some (some s) ∧ ssOf δ r = some t ∧ ss = s :: t := by
  simp only [ssOf] at h
  split at h
  · rename_i xs hj
    rw [Option.map_eq_some_iff] at h
    obtain ⟨t, h1, rfl⟩ := h
    exact ⟨_, t, rfl, hj, h1, rfl⟩
  · rename_i ks xs hj
    rw [Option.map_eq_some_iff] at h
    obtain ⟨t, h1, rfl⟩ := h
    exact ⟨_, t, rfl, hj, h1, rfl⟩
  · cases h
theorem ssOf_len {δ : Dl} : ∀ {os : List Op} {ss : List S}, ssOf δ os = some ss → ss.length = os.length
  | [], _, h => by cases h; rfl
  | .d x :: r, _, h => by
    simp only [ssOf, Option.map_eq_some_iff] at h
    obtain ⟨t, h1, rfl⟩ := h
    rw [List.length_cons, List.length_cons, ssOf_len h1]
  | .slot j :: r, _, h => by
    obtain ⟨s, t, _, _, h1, rfl⟩ := ssOf_slot h
    rw [List.length_cons, List.length_cons, ssOf_len h1]
theorem ssOf_get {δ : Dl} : ∀ {os : List Op} {ss : List S} {k : Nat} {o : Op}, ssOf δ os = some ss → os[k]? = some o → (∃ x, o = .d x ∧ ss[k]? = some (.d x)) ∨ (∃ j s, o = .slot j ∧ s.isOwn = true ∧ δ[j]? = some (some s) ∧ ss[k]? = some s)
  | [], _, _, _, _, h => by simp at h
  | .d x :: r, ss, k, o, h, ho => by
    simp only [ssOf, Option.map_eq_some_iff] at h
    obtain ⟨t, h1, rfl⟩ := h
    cases k with
    | zero => simp at ho; subst ho; exact .inl ⟨x, rfl, rfl⟩
    | succ k => simpa using ssOf_get (k := k) h1 (by simpa using ho)
  | .slot j :: r, ss, k, o, h, ho => by
    obtain ⟨s, t, hs, hj, h1, rfl⟩ := ssOf_slot h
    cases k with
    | zero => simp at ho; subst ho; exact .inr ⟨j, s, rfl, hs, hj, rfl⟩
    | succ k => simpa using ssOf_get (k := k) h1 (by simpa using ho)
theorem RpOs.get {g : Gx} {F : Hp} {σ : L2.St} : ∀ {vs : List V} {os : List Op} {k : Nat} {o : Op}, RpOs g F σ vs os → os[k]? = some o → ∃ v, vs[k]? = some v ∧ RpO g F σ v o
  | _, _, _, _, .nil, h => by simp at h
  | _, _, 0, _, .cons a _, h => by simp at h; subst h; exact ⟨_, rfl, a⟩
  | _, _, k + 1, o, .cons _ b, h => by simpa using RpOs.get (k := k) b (by simpa using h)
theorem RpOs.len {g : Gx} {F : Hp} {σ : L2.St} : ∀ {vs : List V} {os : List Op}, RpOs g F σ vs os → vs.length = os.length
  | _, _, .nil => rfl
  | _, _, .cons _ b => by simp [RpOs.len b]
theorem slotsIn_mem {j : Nat} : ∀ {os : List Op} {k : Nat}, os[k]? = some (Op.slot j) → j ∈ slotsIn os
  | [], _, h => by simp at h
  | .d x :: r, 0, h => by simp at h
  | .d x :: r, k + 1, h => by
    have h' : r[k]? = some (Op.slot j) := by simpa using h
    exact slotsIn_mem (os := r) h'
  | .slot i :: r, 0, h => by simp at h; subst h; simp [slotsIn]
  | .slot i :: r, k + 1, h => by
    have h' : r[k]? = some (Op.slot j) := by simpa using h
    have := slotsIn_mem (os := r) h'
    simp [slotsIn, this]
theorem slotsIn_at {j : Nat} : ∀ {os : List Op}, j ∈ slotsIn os → ∃ k : Nat, os[k]? = some (Op.slot j)
  | .d x :: r, h => by
    obtain ⟨k, hk⟩ := slotsIn_at (os := r) h
    exact ⟨k + 1, by simpa using hk⟩
  | .slot i :: r, h => by
    simp only [slotsIn, List.mem_cons] at h
    rcases h with e | h
    · subst e; exact ⟨0, rfl⟩
    · obtain ⟨k, hk⟩ := slotsIn_at (os := r) h
      exact ⟨k + 1, by simpa using hk⟩
theorem slots_inj {j : Nat} : ∀ {os : List Op} {k l : Nat}, (slotsIn os).Nodup → os[k]? = some (.slot j) → os[l]? = some (.slot j) → k = l
  | [], _, _, _, h, _ => by simp at h
  | .d x :: r, 0, _, _, h, _ => by simp at h
  | .d x :: r, k + 1, 0, _, _, h => by simp at h
  | .d x :: r, k + 1, l + 1, n, h1, h2 => by rw [slots_inj (k := k) (l := l) (os := r) n (by simpa using h1) (by simpa using h2)]
  | .slot i :: r, 0, 0, _, _, _ => rfl
  | .slot i :: r, 0, l + 1, n, h1, h2 => by
    simp at h1; subst h1
    exact absurd (slotsIn_mem (k := l) (os := r) (by simpa using h2)) (List.nodup_cons.mp n).1
  | .slot i :: r, k + 1, 0, n, h1, h2 => by
    simp at h2; subst h2
    exact absurd (slotsIn_mem (k := k) (os := r) (by simpa using h1)) (List.nodup_cons.mp n).1
  | .slot i :: r, k + 1, l + 1, n, h1, h2 => by rw [slots_inj (k := k) (l := l) (os := r) (List.nodup_cons.mp n).2 (by simpa using h1) (by simpa using h2)]
/-- what stands in a slot behind a call: what the callee left there, or what stood -/
theorem putBack_get {i : Nat} {s : S} : ∀ {os : List Op} {δo δ : Dl}, (putBack os δo δ)[i]? = some (some s) → (∃ k : Nat, os[k]? = some (Op.slot i) ∧ δo[k]? = some (some s)) ∨ (i ∉ slotsIn os ∧ δ[i]? = some (some s)) ∨ (δo.length < os.length)
  | [], δo, δ, h => by
    cases δo <;> exact .inr (.inl ⟨by simp [slotsIn], h⟩)
  | .d x :: r, [], δ, h => .inr (.inr (by simp))
  | .slot j :: r, [], δ, h => .inr (.inr (by simp))
  | .d x :: r, y :: ys, δ, h => by
    rcases putBack_get (os := r) (δo := ys) h with ⟨k, h1, h2⟩ | ⟨h1, h2⟩ | h3
    · exact .inl ⟨k + 1, by simpa using h1, by simpa using h2⟩
    · exact .inr (.inl ⟨h1, h2⟩)
    · exact .inr (.inr (by simpa using h3))
  | .slot j :: r, y :: ys, δ, h => by
    rcases get_set_of h with ⟨e1, e2⟩ | ⟨ne, h'⟩
    · subst e1; exact .inl ⟨0, rfl, by subst e2; rfl⟩
    · rcases putBack_get (os := r) (δo := ys) h' with ⟨k, h1, h2⟩ | ⟨h1, h2⟩ | h3
      · exact .inl ⟨k + 1, by simpa using h1, by simpa using h2⟩
      · exact .inr (.inl ⟨by simp only [slotsIn, List.mem_cons, not_or]; exact ⟨fun z => ne z.symm, h1⟩, h2⟩)
      · exact .inr (.inr (by simpa using h3))
theorem map_some_get {vs : List V} {k : Nat} {v : V} : (vs.map some)[k]? = some (some v) ↔ vs[k]? = some v := by
  rw [List.getElem?_map]
  cases vs[k]? <;> simp
theorem map_some_get' {ss : List S} {k : Nat} {v : S} : (ss.map some)[k]? = some (some v) ↔ ss[k]? = some v := by
  rw [List.getElem?_map]
  cases ss[k]? <;> simp
theorem own_nm {s : S} (h : s.isOwn = true) : s.isMem = false := by
  cases s <;> first | rfl | cases h
theorem app_get {α : Type} {l : List α} {x y : α} {i : Nat} (h : (l ++ [x])[i]? = some y) : (i < l.length ∧ l[i]? = some y) ∨ (i = l.length ∧ y = x) := by
  by_cases hi : i < l.length
  · rw [List.getElem?_append_left hi] at h; exact .inl ⟨hi, h⟩
  · rw [List.getElem?_append_right (by omega)] at h
    cases e : i - l.length with
    | zero => rw [e] at h; cases h; exact .inr ⟨by omega, rfl⟩
    | succ k => rw [e] at h; simp at h
section
variable {g : Gx} {O F H : Hp} {σ : L2.St} {δ : Dl} {vs : List V} {os : List Op} {ss : List S} {cs : List (List D)} {mi : Nat}
open Classical in
/-- what the caller keeps from the callee -/
noncomputable def outO (O H : Hp) (σ : L2.St) (δ : Dl) (os : List Op) : Hp := fun a => if ∃ (j : Nat) (s : S), δ[j]? = some (some s) ∧ s.isOwn = true ∧ σ[j]? = some (some (.ref a)) ∧ j ∉ slotsIn os then H a else O a
theorem outO_in {a : Addr} {j : Nat} {s : S} (h1 : δ[j]? = some (some s)) (ho : s.isOwn = true) (h2 : σ[j]? = some (some (.ref a))) (h3 : j ∉ slotsIn os) : outO O H σ δ os a = H a := if_pos ⟨j, s, h1, ho, h2, h3⟩
theorem outO_cases (a : Addr) : ((∃ (j : Nat) (s : S), δ[j]? = some (some s) ∧ s.isOwn = true ∧ σ[j]? = some (some (.ref a)) ∧ j ∉ slotsIn os) ∧ outO O H σ δ os a = H a) ∨ ((¬ ∃ (j : Nat) (s : S), δ[j]? = some (some s) ∧ s.isOwn = true ∧ σ[j]? = some (some (.ref a)) ∧ j ∉ slotsIn os) ∧ outO O H σ δ os a = O a) := by
  by_cases h : ∃ (j : Nat) (s : S), δ[j]? = some (some s) ∧ s.isOwn = true ∧ σ[j]? = some (some (.ref a)) ∧ j ∉ slotsIn os
  · exact .inl ⟨h, if_pos h⟩
  · exact .inr ⟨h, if_neg h⟩
theorem Ms.own_at (M : Ms g O F H σ δ) {j : Nat} {s : S} {a : Addr} (h1 : δ[j]? = some (some s)) (ho : s.isOwn = true) (h2 : σ[j]? = some (some (.ref a))) : ∃ o, H a = some o ∧ OwnC g F o s ∧ F a = none ∧ O a = none := by
  obtain ⟨v, ev, b, us, rfl, r⟩ := M.sw h1 ho
  rw [h2] at ev; cases ev
  exact ⟨us, r⟩
theorem outO_none (M : Ms g O F H σ δ) {a : Addr} (h : outO O H σ δ os a = none) : O a = none := by
  rcases outO_cases (O := O) (H := H) (σ := σ) (δ := δ) (os := os) a with ⟨⟨j, s, h1, ho, h2, _⟩, _⟩ | ⟨_, e⟩
  · exact (M.own_at h1 ho h2).choose_spec.2.2.2
  · rw [← e]; exact h
theorem Ms.entry (M : Ms g O F H σ δ) (r : RpOs g F σ vs os) (e : ssOf δ os = some ss) (nd : (slotsIn os).Nodup) (hm0 : δ[mi]? = some (some (.mem cs))) : Ms g (outO O H σ δ os) F H (vs.map some) ((ss ++ [S.mem cs]).map some) := by
  have notm : ∀ {k : Nat} {s : S}, ss[k]? = some s → s.isMem = false := fun h => by
    have hk := (List.getElem?_eq_some_iff.mp h).1
    obtain ⟨o, ho⟩ := idx (l := os) (by rw [← ssOf_len e]; exact hk)
    rcases ssOf_get e ho with ⟨x, _, hs⟩ | ⟨j, t, _, ht, _, hs⟩
    · rw [h] at hs; cases hs; rfl
    · rw [h] at hs; cases hs
      exact own_nm ht
  refine ⟨M.fh, fun a o h => ?_, fun a => ?_, fun k s h hm => ?_, fun k l s t v h1 h2 o1 o2 h3 h4 => ?_, fun k ds h => ?_, fun k l ds es h1 h2 => ?_⟩
  · rcases outO_cases (O := O) (H := H) (σ := σ) (δ := δ) (os := os) a with ⟨_, e⟩ | ⟨_, e⟩
    · rw [← e]; exact h
    · rw [e] at h; exact M.oh _ _ h
  · rcases outO_cases (O := O) (H := H) (σ := σ) (δ := δ) (os := os) a with ⟨⟨j, s, h1, ho, h2, _⟩, e⟩ | ⟨_, e⟩
    · exact .inl (M.own_at h1 ho h2).choose_spec.2.2.1
    · rw [e]; exact M.dj a
  · rw [map_some_get'] at h
    rcases app_get h with ⟨_, h⟩ | ⟨_, z⟩
    rotate_left
    · subst z; cases hm
    have hk : k < os.length := by rw [← ssOf_len e]; exact (List.getElem?_eq_some_iff.mp h).1
    obtain ⟨o, ho⟩ := idx hk
    obtain ⟨v, hv, rv⟩ := r.get ho
    refine ⟨v, map_some_get.mpr hv, ?_⟩
    rcases ssOf_get e ho with ⟨x, rfl, hs⟩ | ⟨j, t, rfl, ht, hj, hs⟩
    · rw [h] at hs; cases hs; exact rv
    · rw [h] at hs; cases hs
      have rv' : σ[j]? = some (some v) := rv
      obtain ⟨w, ew, a, us, rfl, e1, e2, e3, e4⟩ := M.sw hj ht
      rw [rv'] at ew; cases ew
      have q : OwnedS g (outO O H σ δ os) F H (.ref a) s := by
        refine ⟨a, us, rfl, e1, e2, e3, ?_⟩
        rcases outO_cases (O := O) (H := H) (σ := σ) (δ := δ) (os := os) a with ⟨⟨j', t', h1, ho', h2, h3⟩, _⟩ | ⟨_, e⟩
        · have := M.ap j j' s t' _ hj h1 ht ho' rv' h2
          subst this
          exact absurd (slotsIn_mem ho) h3
        · rw [e]; exact e4
      cases s <;> first | exact q | cases ht
  · rw [map_some_get'] at h1 h2
    rw [map_some_get] at h3 h4
    rcases app_get h1 with ⟨_, h1⟩ | ⟨_, z⟩
    rotate_left
    · subst z; cases o1
    rcases app_get h2 with ⟨_, h2⟩ | ⟨_, z⟩
    rotate_left
    · subst z; cases o2
    have hk : k < os.length := by rw [← ssOf_len e]; exact (List.getElem?_eq_some_iff.mp h1).1
    have hl : l < os.length := by rw [← ssOf_len e]; exact (List.getElem?_eq_some_iff.mp h2).1
    obtain ⟨o, ho⟩ := idx hk
    obtain ⟨p, hp⟩ := idx hl
    obtain ⟨v1, hv1, rv1⟩ := r.get ho
    obtain ⟨v2, hv2, rv2⟩ := r.get hp
    rw [h3] at hv1; cases hv1
    rw [h4] at hv2; cases hv2
    rcases ssOf_get e ho with ⟨x, rfl, hs⟩ | ⟨j, s', rfl, hs', hj, hs⟩
    · rw [h1] at hs; cases hs; cases o1
    rcases ssOf_get e hp with ⟨x, rfl, hs2⟩ | ⟨j', t', rfl, ht', hj', hs2⟩
    · rw [h2] at hs2; cases hs2; cases o2
    have := M.ap j j' _ _ _ hj hj' hs' ht' rv1 rv2
    subst this
    exact slots_inj nd ho hp
  · rw [map_some_get'] at h
    rcases app_get h with ⟨_, h⟩ | ⟨_, z⟩
    · have := notm h; cases this
    cases z
    have c := M.mm mi cs hm0
    refine ⟨fun b n q => ?_, c.all, c.one⟩
    obtain ⟨xs, us, h1, h2, h3, h4⟩ := c.at_ b n q
    refine ⟨xs, us, h1, h2, h3, ?_⟩
    rcases outO_cases (O := O) (H := H) (σ := σ) (δ := δ) (os := os) b with ⟨⟨j', t', h1, ho', h2, h3⟩, _⟩ | ⟨_, e⟩
    · have := (M.own_at h1 ho' h2).choose_spec.2.2.1
      rw [this] at q; cases q
    · rw [e]; exact h4
  · rw [map_some_get'] at h1 h2
    rcases app_get h1 with ⟨_, h1⟩ | ⟨e1, _⟩
    · have := notm h1; cases this
    rcases app_get h2 with ⟨_, h2⟩ | ⟨e2, _⟩
    · have := notm h2; cases this
    omega
theorem putBack_mem {δo : Dl} (hb : ∀ (k j : Nat), os[k]? = some (.slot j) → ∀ ds, δo[k]? ≠ some (some (.mem ds))) {i : Nat} {ds : List (List D)} {δ2 : Dl} (hl : os.length ≤ δo.length) (h : (putBack os δo δ2)[i]? = some (some (.mem ds))) : i ∉ slotsIn os ∧ δ2[i]? = some (some (.mem ds)) := by
  rcases putBack_get h with ⟨k, ho, hk⟩ | h | hz
  · exact absurd hk (hb k i ho ds)
  · exact h
  · omega
/-- behind a call -/
theorem Ms.exit {F' H' : Hp} {δo : Dl} {cs' : List (List D)} (M : Ms g O F H σ δ) (r : RpOs g F σ vs os) (e : ssOf δ os = some ss) (nd : (slotsIn os).Nodup) (hm : δ[mi]? = some (some (.mem cs))) (hl : os.length < δo.length) (ho : δo[os.length]? = some (some (.mem cs'))) (s : Same F F') (M' : Ms g (outO O H σ δ os) F' H' (vs.map some) δo) :
    Ms g O F' H' σ (putBack os δo (δ.set mi (some (.mem cs')))) := by
  have lentown : ∀ {k : Nat} {j : Nat}, os[k]? = some (.slot j) → ∃ s, s.isOwn = true ∧ δ[j]? = some (some s) := fun ho => by
    rcases ssOf_get e ho with ⟨x, z, _⟩ | ⟨j', s, z, hs, hj, _⟩
    · cases z
    · cases z; exact ⟨s, hs, hj⟩
  have mnl : mi ∉ slotsIn os := fun z => by
    obtain ⟨k, hk⟩ := slotsIn_at z
    obtain ⟨s, hs, hj⟩ := lentown hk
    rw [hm] at hj; cases hj; cases hs
  have nomem : ∀ (k j : Nat), os[k]? = some (.slot j) → ∀ ds, δo[k]? ≠ some (some (.mem ds)) := fun k j hk ds z => by
    have := M'.m1 k os.length ds cs' z ho
    have hk' := (List.getElem?_eq_some_iff.mp hk).1
    omega
  have old : ∀ {i : Nat} {t : S}, (δ.set mi (some (.mem cs')))[i]? = some (some t) → t.isMem = false → δ[i]? = some (some t) := fun h hm' => by
    rcases get_set_of h with ⟨_, z⟩ | ⟨_, h'⟩
    · cases z; cases hm'
    · exact h'
  refine ⟨M'.fh, fun a o h => ?_, fun a => ?_, fun i t h hm' => ?_, fun i j t u v h1 h2 o1 o2 h3 h4 => ?_, fun i ds h => ?_, fun i j ds es h1 h2 => ?_⟩
  · rcases outO_cases (O := O) (H := H) (σ := σ) (δ := δ) (os := os) a with ⟨⟨j, s, h1, ho, h2, _⟩, _⟩ | ⟨_, e⟩
    · have := (M.own_at h1 ho h2).choose_spec.2.2.2
      rw [this] at h; cases h
    · exact M'.oh _ _ (by rw [e]; exact h)
  · rcases M'.dj a with h | h
    · exact .inl h
    · exact .inr (outO_none M h)
  · rcases putBack_get h with ⟨k, ho, hk⟩ | ⟨hn, hd⟩ | hz
    · obtain ⟨v, hv, rv⟩ := r.get ho
      obtain ⟨w, hw, rw'⟩ := M'.sl k t hk hm'
      rw [map_some_get] at hw
      rw [hv] at hw; cases hw
      refine ⟨v, rv, ?_⟩
      have key : OwnedS g (outO O H σ δ os) F' H' v t → OwnedS g O F' H' v t := fun ⟨a, us, e0, e1, e2, e3, e4⟩ => ⟨a, us, e0, e1, e2, e3, outO_none M e4⟩
      cases t with
      | d x => exact rw'
      | own xs => exact key rw'
      | od ks xs => exact key rw'
      | mem cs => cases hm'
    · have hd := old hd hm'
      obtain ⟨v, ev, rv⟩ := M.sl i t hd hm'
      refine ⟨v, ev, ?_⟩
      have key : t.isOwn = true → OwnedS g O F H v t → OwnedS g O F' H' v t := fun ht ⟨a, us, e0, e1, e2, e3, e4⟩ => by
        subst e0
        have eo : outO O H σ δ os a = some us := by rw [outO_in hd ht ev hn]; exact e1
        exact ⟨a, us, rfl, M'.oh _ _ eo, e2.mono s, (M'.dj a).resolve_right (by rw [eo]; exact fun z => nomatch z), e4⟩
      cases t with
      | d x => exact Rp.mono s _ _ rv
      | own xs => exact key rfl rv
      | od ks xs => exact key rfl rv
      | mem cs => cases hm'
    · omega
  · have own : ∀ {i : Nat} {t : S}, (putBack os δo (δ.set mi (some (.mem cs'))))[i]? = some (some t) → t.isOwn = true → ∃ z, δ[i]? = some (some z) ∧ z.isOwn = true := fun {i t} h ht => by
      rcases putBack_get h with ⟨k, ho, _⟩ | ⟨_, hd⟩ | hz
      · obtain ⟨z, h1, h2⟩ := lentown ho; exact ⟨z, h2, h1⟩
      · exact ⟨_, old hd (own_nm ht), ht⟩
      · omega
    obtain ⟨z1, e1, p1⟩ := own h1 o1
    obtain ⟨z2, e2, p2⟩ := own h2 o2
    exact M.ap i j z1 z2 v e1 e2 p1 p2 h3 h4
  · obtain ⟨hn, h⟩ := putBack_mem nomem (by omega) h
    rcases get_set_of h with ⟨_, z⟩ | ⟨ne, h'⟩
    · cases z
      have c := M'.mm _ _ ho
      refine ⟨fun b n q => ?_, c.all, c.one⟩
      obtain ⟨xs, us, h1, h2, h3, h4⟩ := c.at_ b n q
      exact ⟨xs, us, h1, h2, h3, outO_none M h4⟩
    · exact absurd (M.m1 _ _ _ _ hm h') ne
  · obtain ⟨_, h1⟩ := putBack_mem nomem (by omega) h1
    obtain ⟨_, h2⟩ := putBack_mem nomem (by omega) h2
    rcases get_set_of h1 with ⟨e1, _⟩ | ⟨ne, h1'⟩
    · rcases get_set_of h2 with ⟨e2, _⟩ | ⟨ne2, h2'⟩
      · omega
      · exact absurd (M.m1 _ _ _ _ hm h2') ne2
    · exact absurd (M.m1 _ _ _ _ hm h1') ne
theorem RpT.exit {F' H' : Hp} {δo δ2 : Dl} {v : V} {t : S} (M : Ms g O F H σ δ) (r : RpOs g F σ vs os) (hl : os.length ≤ δo.length) (hd2 : ∀ (i : Nat) (s : S), δ2[i]? = some (some s) → s.isOwn = true → δ[i]? = some (some s)) (h : RpT g (outO O H σ δ os) F' H' (vs.map some) δo v t) : RpT g O F' H' σ (putBack os δo δ2) v t := by
  have key : OwnedS g (outO O H σ δ os) F' H' v t → Apart (vs.map some) δo v → OwnedS g O F' H' v t ∧ Apart σ (putBack os δo δ2) v := fun ⟨a, us, e0, e1, e2, e3, e4⟩ ap => by
    subst e0
    refine ⟨⟨a, us, rfl, e1, e2, e3, outO_none M e4⟩, fun i s hi hs0 hs => ?_⟩
    rcases putBack_get hi with ⟨k, ho, hk⟩ | ⟨hn, hd⟩ | hz
    · obtain ⟨w, hw, rw'⟩ := r.get ho
      have rw2 : σ[i]? = some (some w) := rw'
      rw [hs] at rw2; cases rw2
      exact ap k s hk hs0 (map_some_get.mpr hw)
    · have hd := hd2 i s hd hs0
      rw [outO_in hd hs0 hs hn] at e4
      obtain ⟨us', h1, _⟩ := M.own_at hd hs0 hs
      rw [h1] at e4; cases e4
    · omega
  cases t with
  | d x => exact h
  | own xs => exact key h.1 h.2
  | od ks xs => exact key h.1 h.2
  | mem cs => exact key h.1 h.2
end
end Ev

set_option Elab.async false
set_option linter.all false
set_option maxRecDepth 100000
namespace Ev
open PySem PySem.Spec PyProof.Rows L2

/-- the end of a call: the callee runs on what the operands are worth, and on the shared lists (at mi) -/
def callFin (os : List Op) (mi : Nat) (δ δo : Dl) : Option Dl := match δo[os.length]? with
  | some (some (.mem cs)) => some (putBack os δo (δ.set mi (some (.mem cs))))
  | _ => none
def callEnd (mi : Nat) (fn : Fn) (os : List Op) : M R := fun δ => match δ[mi]? with
  | some (some (.mem cs)) => match ssOf δ os with
    | none => none
    | some ss => if ndp (slotsIn os) then match fn (ss ++ [S.mem cs]) with
      | none => none
      | some (.ok s δo) => (callFin os mi δ δo).map fun δ' => .ok s.toR δ'
      | some (.err e δo) => (callFin os mi δ δo).map fun δ' => .err e δ'
    else none
  | _ => none
theorem RpT.toR {g : Gx} {O F H : Hp} {σ : L2.St} {δ : Dl} {v : V} {s : S} (h : RpT g O F H σ δ v s) : RpR g O F H σ δ v s.toR := by
  cases s with
  | mem cs => obtain ⟨_, _, _, _, z, _⟩ := h.1; exact z.elim
  | _ => exact h
theorem callFin_ok {os : List Op} {mi : Nat} {δ δo δ' : Dl} (h : callFin os mi δ δo = some δ') : ∃ cs, δo[os.length]? = some (some (.mem cs)) ∧ os.length < δo.length ∧ δ' = putBack os δo (δ.set mi (some (.mem cs))) := by
  unfold callFin at h
  split at h
  · rename_i cs e
    cases h
    exact ⟨cs, e, (List.getElem?_eq_some_iff.mp e).1, rfl⟩
  · cases h
theorem callEnd_ok {g : Gx} {E : WS} {O F H : Hp} {σ : L2.St} {δ : Dl} {n mi : Nat} {fn : Fn} {os : List Op} {vs : List V} {Q : VK} (M : Ms g O F H σ δ) (r : RpOs g F σ vs os) (hn : os.length = n)
    (w : wp g O F σ δ (callEnd mi fn os) (fun F' H' δ' r => ∀ v, RpR g O F' H' σ δ' v r → Q v H') (eE g (E σ))) : spOf g n fn vs H Q (E σ) := by
  unfold wp at w
  unfold callEnd at w
  cases em : δ[mi]? with
  | none => rw [em] at w; exact w.elim
  | some q =>
    cases q with
    | none => rw [em] at w; exact w.elim
    | some q =>
      cases q with
      | mem cs =>
        rw [em] at w
        simp only at w
        cases es : ssOf δ os with
        | none => rw [es] at w; exact w.elim
        | some ss =>
          rw [es] at w
          simp only at w
          by_cases nd : ndp (slotsIn os) = true
          · rw [if_pos nd] at w
            have nd' := ndp_ok nd
            refine ⟨by rw [r.len, hn], outO O H σ δ os, F, ss, cs, by rw [ssOf_len es, hn], M.entry r es nd' em, ?_⟩
            unfold wp
            simp only
            cases ef : fn (ss ++ [S.mem cs]) with
            | none => rw [ef] at w; exact w.elim
            | some x =>
              rw [ef] at w
              cases x with
              | ok s δo =>
                simp only at w
                cases ec : callFin os mi δ δo with
                | none => rw [ec] at w; exact w.elim
                | some δ' =>
                  rw [ec] at w
                  simp only [Option.map_some] at w
                  obtain ⟨cs', e1, e2, rfl⟩ := callFin_ok ec
                  intro F' H' s' M' v hv
                  exact w F' H' s' (M.exit r es nd' em e2 e1 s' M') v (hv.exit M r (by omega) (fun i s h ho => by
                    rcases get_set_of h with ⟨_, z⟩ | ⟨_, h'⟩
                    · cases z; cases ho
                    · exact h')).toR
              | err e δo =>
                simp only at w
                cases ec : callFin os mi δ δo with
                | none => rw [ec] at w; exact w.elim
                | some δ' =>
                  rw [ec] at w
                  simp only [Option.map_some] at w
                  obtain ⟨cs', e1, e2, rfl⟩ := callFin_ok ec
                  intro F' H' s' M' c dd hc
                  exact w F' H' s' (M.exit r es nd' em e2 e1 s' M') c dd hc
          · rw [if_neg nd] at w; exact w.elim
      | _ => rw [em] at w; exact w.elim
section
variable {X : Cx} {E : WS} {e : Expr} {es : List Expr} {x : Str} {p pos : Pos}
theorem pa_ag_nil : PA X [] (tOs (gx X) E (agsM [])) := pa_nil.imp fun σ H Q ⟨O, F, δ, M, w⟩ => wp_ret M w [] .nil
theorem pa_ag_val {m : M R} {as : List Ag} (h : PE X e (tR (gx X) E m)) (hr : PA X es (tOs (gx X) E (agsM as))) (hs : starEach (e :: es) X.env = (false, eval e X.env) :: starEach es X.env) : PA X (e :: es) (tOs (gx X) E (agsM (.val m :: as))) := by
  refine (pa_cons (pr_dat h) hr hs).imp fun σ H Q ⟨O, F, δ, M, w⟩ => ⟨O, F, δ, M, wp_mono (wp_bind w) fun F1 H1 δ1 x s1 M1 w1 v hv => ?_⟩
  exact ⟨O, F1, δ1, M1, wp_mono (wp_bind w1) fun F2 H2 δ2 xs s2 M2 w2 vs hvs => wp_ret M2 w2 _ (.cons (Rp.mono s2 _ _ hv) hvs)⟩
theorem pa_ag_rf {j : Nat} {as : List Ag} (h : PE X e (tR (gx X) E (slotM j))) (hr : PA X es (tOs (gx X) E (agsM as))) (hs : starEach (e :: es) X.env = (false, eval e X.env) :: starEach es X.env) : PA X (e :: es) (tOs (gx X) E (agsM (.rf j :: as))) := by
  refine (pa_cons (pr_opd h) hr hs).imp fun σ H Q ⟨O, F, δ, M, w⟩ => ⟨O, F, δ, M, wp_mono (wp_bind w) fun F1 H1 δ1 x s1 M1 w1 v hv => ?_⟩
  exact ⟨O, F1, δ1, M1, wp_mono (wp_bind w1) fun F2 H2 δ2 xs s2 M2 w2 vs hvs => wp_ret M2 w2 _ (.cons (hv.mono s2) hvs)⟩
theorem RpOs.append {g : Gx} {F : Hp} {σ : L2.St} : ∀ {vs ws : List V} {os ps : List Op}, RpOs g F σ vs os → RpOs g F σ ws ps → RpOs g F σ (vs ++ ws) (os ++ ps)
  | _, _, _, _, .nil, h => h
  | _, _, _, _, .cons a b, h => .cons a (RpOs.append b h)
theorem agsM_len : ∀ {as : List Ag} {δ δ' : Dl} {os : List Op}, agsM as δ = some (.ok os δ') → os.length = as.length
  | [], _, _, _, h => by cases h; rfl
  | .val m :: as, _, _, _, h => by
    obtain ⟨x, δ1, _, h⟩ := bind_ok h
    obtain ⟨xs, δ2, h2, h⟩ := bind_ok h
    cases h
    rw [List.length_cons, List.length_cons, agsM_len h2]
  | .rf j :: as, _, _, _, h => by
    obtain ⟨x, δ1, _, h⟩ := bind_ok h
    obtain ⟨xs, δ2, h2, h⟩ := bind_ok h
    cases h
    rw [List.length_cons, List.length_cons, agsM_len h2]
theorem wp_lenA {g : Gx} {O F : Hp} {σ : L2.St} {δ : Dl} {as : List Ag} {ok : Hp → Hp → Dl → List Op → Prop} {er} (h : wp g O F σ δ (agsM as) ok er) : wp g O F σ δ (agsM as) (fun F' H' δ' xs => xs.length = as.length ∧ ok F' H' δ' xs) er := by
  unfold wp at h ⊢
  cases e : agsM as δ with
  | none => rw [e] at h; exact h
  | some r => cases r with
    | err x d => rw [e] at h; exact h
    | ok xs d => rw [e] at h; exact fun F' H' s M => ⟨agsM_len e, h F' H' s M⟩
end

/-! ### a def's body as a function -/
def outs : List S → Dl → Option Dl
  | [], _ => some []
  | .d x :: r, _ :: δ => (outs r δ).map (some (.d x) :: ·)
  | .own _ :: r, some (.own ys) :: δ => (outs r δ).map (some (.own ys) :: ·)
  | .od _ _ :: r, some (.od ks ys) :: δ => (outs r δ).map (some (.od ks ys) :: ·)
  | _, _ => none
def lentIs : List Nat → Nat → List S → Bool
  | _, _, [] => true
  | L, i, .d _ :: r => !L.contains i && lentIs L (i + 1) r
  | L, i, .own _ :: r => L.contains i && lentIs L (i + 1) r
  | L, i, .od _ _ :: r => L.contains i && lentIs L (i + 1) r
  | _, _, .mem _ :: _ => false
/-- the parameters' slots behind the body, and the shared lists -/
def bodyEnd (as : List S) (k : Nat) (δ : Dl) : Option Dl := match δ[as.length + k]?, outs as δ with
  | some (some (.mem cs)), some o => some (o ++ [some (.mem cs)])
  | _, _ => none
/-- n parameters, k more names, L the parameters by reference -/
def bodyFn (n k : Nat) (L : List Nat) (m : M Fl) : Fn := fun ss => match ss[n]? with
  | some (.mem cs) => if ss.length = n + 1 ∧ lentIs L 0 (ss.take n) = true then match m ((ss.take n).map some ++ List.replicate k none ++ [some (.mem cs)]) with
    | some (.ok (.ret s) δ) => (bodyEnd (ss.take n) k δ).map fun o => .ok s o
    | some (.ok .next δ) => (bodyEnd (ss.take n) k δ).map fun o => .ok (.d .non) o
    | some (.err e δ) => (bodyEnd (ss.take n) k δ).map fun o => .err e o
    | _ => none
    else none
  | _ => none
theorem outs_own {s : S} {r : List S} {δ o : Dl} (hs : s.isOwn = true) (h : outs (s :: r) δ = some o) : ∃ t δ' o', t.isOwn = true ∧ δ = some t :: δ' ∧ outs r δ' = some o' ∧ o = some t :: o' := by
  cases s with
  | own xs =>
    cases δ with
    | nil => simp [outs] at h
    | cons y δ =>
      cases y with
      | none => simp [outs] at h
      | some y =>
        cases y with
        | own ys =>
          simp only [outs, Option.map_eq_some_iff] at h
          obtain ⟨o', h1, rfl⟩ := h
          exact ⟨_, _, _, rfl, rfl, h1, rfl⟩
        | _ => simp [outs] at h
  | od ks xs =>
    cases δ with
    | nil => simp [outs] at h
    | cons y δ =>
      cases y with
      | none => simp [outs] at h
      | some y =>
        cases y with
        | od ks ys =>
          simp only [outs, Option.map_eq_some_iff] at h
          obtain ⟨o', h1, rfl⟩ := h
          exact ⟨_, _, _, rfl, rfl, h1, rfl⟩
        | _ => simp [outs] at h
  | _ => cases hs
theorem outs_get : ∀ {ss : List S} {δ o : Dl} {i : Nat} {t : S}, outs ss δ = some o → o[i]? = some (some t) → (∃ x, ss[i]? = some (.d x) ∧ t = .d x) ∨ (∃ s, s.isOwn = true ∧ t.isOwn = true ∧ ss[i]? = some s ∧ δ[i]? = some (some t))
  | [], _, _, _, _, h, h2 => by simp [outs] at h; subst h; simp at h2
  | .mem cs :: r, [], _, _, _, h, _ => by simp [outs] at h
  | .mem cs :: r, _ :: _, _, _, _, h, _ => by simp [outs] at h
  | .d x :: r, [], _, _, _, h, _ => by simp [outs] at h
  | .d x :: r, y :: δ, o, i, t, h, h2 => by
    simp only [outs, Option.map_eq_some_iff] at h
    obtain ⟨o', h1, rfl⟩ := h
    cases i with
    | zero => simp at h2; subst h2; exact .inl ⟨x, rfl, rfl⟩
    | succ i => simpa using outs_get (i := i) h1 (by simpa using h2)
  | .own xs :: r, δ, o, i, t, h, h2 => by
    obtain ⟨s, δ', o', ht, rfl, h1, rfl⟩ := outs_own (s := .own xs) rfl h
    cases i with
    | zero => simp at h2; subst h2; exact .inr ⟨.own xs, rfl, ht, rfl, rfl⟩
    | succ i => simpa using outs_get (i := i) h1 (by simpa using h2)
  | .od ks xs :: r, δ, o, i, t, h, h2 => by
    obtain ⟨s, δ', o', ht, rfl, h1, rfl⟩ := outs_own (s := .od ks xs) rfl h
    cases i with
    | zero => simp at h2; subst h2; exact .inr ⟨.od ks xs, rfl, ht, rfl, rfl⟩
    | succ i => simpa using outs_get (i := i) h1 (by simpa using h2)
theorem outs_len : ∀ {ss : List S} {δ o : Dl}, outs ss δ = some o → o.length = ss.length
  | [], _, _, h => by simp [outs] at h; subst h; rfl
  | .mem cs :: r, [], _, h => by simp [outs] at h
  | .mem cs :: r, _ :: _, _, h => by simp [outs] at h
  | .d x :: r, [], _, h => by simp [outs] at h
  | .d x :: r, y :: δ, o, h => by
    simp only [outs, Option.map_eq_some_iff] at h
    obtain ⟨o', h1, rfl⟩ := h
    rw [List.length_cons, List.length_cons, outs_len h1]
  | .own xs :: r, δ, o, h => by
    obtain ⟨s, δ', o', ht, rfl, h1, rfl⟩ := outs_own (s := .own xs) rfl h
    rw [List.length_cons, List.length_cons, outs_len h1]
  | .od ks xs :: r, δ, o, h => by
    obtain ⟨s, δ', o', ht, rfl, h1, rfl⟩ := outs_own (s := .od ks xs) rfl h
    rw [List.length_cons, List.length_cons, outs_len h1]
theorem lentIs_at : ∀ {ss : List S} {L : List Nat} {k i : Nat} {s : S}, lentIs L k ss = true → ss[i]? = some s → s.isMem = false ∧ (s.isOwn = true → k + i ∈ L)
  | [], _, _, _, _, _, h => by simp at h
  | .mem cs :: r, _, _, _, _, h, _ => by simp [lentIs] at h
  | .d x :: r, L, k, 0, _, h, h2 => by simp at h2; subst h2; exact ⟨rfl, fun z => nomatch z⟩
  | .d x :: r, L, k, i + 1, xs, h, h2 => by
    simp only [lentIs, Bool.and_eq_true] at h
    have := lentIs_at (i := i) (s := xs) h.2 (by simpa using h2)
    rw [show k + (i + 1) = k + 1 + i by omega]; exact this
  | .own ys :: r, L, k, 0, _, h, h2 => by
    simp only [lentIs, Bool.and_eq_true, List.contains_eq_mem, decide_eq_true_eq] at h
    simp at h2; subst h2
    exact ⟨rfl, fun _ => by simpa using h.1⟩
  | .own ys :: r, L, k, i + 1, xs, h, h2 => by
    simp only [lentIs, Bool.and_eq_true] at h
    have := lentIs_at (i := i) (s := xs) h.2 (by simpa using h2)
    rw [show k + (i + 1) = k + 1 + i by omega]; exact this
  | .od ks ys :: r, L, k, 0, _, h, h2 => by
    simp only [lentIs, Bool.and_eq_true, List.contains_eq_mem, decide_eq_true_eq] at h
    simp at h2; subst h2
    exact ⟨rfl, fun _ => by simpa using h.1⟩
  | .od ks ys :: r, L, k, i + 1, xs, h, h2 => by
    simp only [lentIs, Bool.and_eq_true] at h
    have := lentIs_at (i := i) (s := xs) h.2 (by simpa using h2)
    rw [show k + (i + 1) = k + 1 + i by omega]; exact this
theorem start_get {N : List Str} {vs : List V} {i : Nat} {v : V} : (L2.start N vs)[i]? = some (some v) ↔ vs[i]? = some v := by
  unfold L2.start
  by_cases h : i < vs.length
  · rw [List.getElem?_append_left (by simpa using h), List.getElem?_map]
    cases vs[i]? <;> simp
  · rw [List.getElem?_append_right (by simpa using h), List.getElem?_eq_none (l := vs) (by omega)]
    simp only [List.length_map]
    constructor
    · intro z
      have := List.mem_of_getElem? z
      rw [List.mem_replicate] at this
      cases this.2
    · intro z; cases z
theorem init_get {ss : List S} {k i : Nat} {s t : S} (h : (ss.map some ++ List.replicate k none ++ [some t])[i]? = some (some s)) : (ss[i]? = some s) ∨ (i = ss.length + k ∧ s = t) := by
  rcases app_get h with ⟨_, h⟩ | ⟨h, z⟩
  · refine .inl ?_
    by_cases hi : i < ss.length
    · rw [List.getElem?_append_left (by simpa using hi), List.getElem?_map] at h
      cases e : ss[i]? <;> rw [e] at h <;> simp at h
      rw [h]
    · rw [List.getElem?_append_right (by simpa using hi)] at h
      have := List.mem_of_getElem? h
      rw [List.mem_replicate] at this
      cases this.2
  · refine .inr ⟨by simpa using h, by cases z; rfl⟩
section
variable {g : Gx} {O F H : Hp} {N : List Str} {vs : List V} {ss : List S} {k : Nat} {cs : List (List D)} {L : List Nat}
theorem Ms.start (M : Ms g O F H (vs.map some) ((ss ++ [S.mem cs]).map some)) (hl : lentIs L 0 ss = true) : Ms g O F H (L2.start N vs) (ss.map some ++ List.replicate k none ++ [some (.mem cs)]) := by
  have up : ∀ {i : Nat} {s : S}, ss[i]? = some s → ((ss ++ [S.mem cs]).map some)[i]? = some (some s) := fun {i s} h => map_some_get'.mpr (by rw [List.getElem?_append_left (List.getElem?_eq_some_iff.mp h).1]; exact h)
  have lst : ((ss ++ [S.mem cs]).map some)[ss.length]? = some (some (S.mem cs)) := map_some_get'.mpr (by simp)
  refine ⟨M.fh, M.oh, M.dj, fun i s h hm => ?_, fun i j s t v h1 h2 o1 o2 h3 h4 => ?_, fun i ds h => ?_, fun i j ds es h1 h2 => ?_⟩
  · rcases init_get h with h | ⟨_, z⟩
    · obtain ⟨v, ev, r⟩ := M.sl i s (up h) hm
      exact ⟨v, start_get.mpr (map_some_get.mp ev), r⟩
    · subst z; cases hm
  · rcases init_get h1 with h1 | ⟨_, z⟩
    rotate_left
    · subst z; cases o1
    rcases init_get h2 with h2 | ⟨_, z⟩
    rotate_left
    · subst z; cases o2
    rw [start_get] at h3 h4
    exact M.ap i j s t v (up h1) (up h2) o1 o2 (map_some_get.mpr h3) (map_some_get.mpr h4)
  · rcases init_get h with h | ⟨_, z⟩
    · cases (lentIs_at hl h).1
    · cases z; exact M.mm _ _ lst
  · rcases init_get h1 with h1 | ⟨e1, _⟩
    · cases (lentIs_at hl h1).1
    rcases init_get h2 with h2 | ⟨e2, _⟩
    · cases (lentIs_at hl h2).1
    omega
theorem Ms.finish {F' H' : Hp} {σ' : L2.St} {δ' o : Dl} {cs' : List (List D)} {p : Nat} (M : Ms g O F H (vs.map some) ((ss ++ [S.mem cs]).map some)) (s : Same F F') (hl : lentIs L 0 ss = true) (kp : Keep L (L2.start N vs) σ') (M' : Ms g O F' H' σ' δ') (ho : outs ss δ' = some o) (hm : δ'[p]? = some (some (.mem cs'))) : Ms g O F' H' (vs.map some) (o ++ [some (.mem cs')]) := by
  have up : ∀ {i : Nat} {s : S}, ss[i]? = some s → ((ss ++ [S.mem cs]).map some)[i]? = some (some s) := fun {i s} h => map_some_get'.mpr (by rw [List.getElem?_append_left (List.getElem?_eq_some_iff.mp h).1]; exact h)
  have lent : ∀ {i : Nat} {t : S} {v : V}, ss[i]? = some t → t.isOwn = true → vs[i]? = some v → σ'[i]? = some (some v) := fun h1 ht h2 => by
    rw [kp.2 _ (by simpa using (lentIs_at hl h1).2 ht)]
    exact start_get.mpr h2
  refine ⟨M'.fh, M'.oh, M'.dj, fun i t h hm' => ?_, fun i j t u v h1 h2 o1 o2 h3 h4 => ?_, fun i ds h => ?_, fun i j ds es h1 h2 => ?_⟩
  · rcases app_get h with ⟨_, h⟩ | ⟨_, z⟩
    rotate_left
    · cases z; cases hm'
    rcases outs_get ho h with ⟨x, e1, rfl⟩ | ⟨s0, ho0, ht, e1, e2⟩
    · obtain ⟨v, ev, r⟩ := M.sl i _ (up e1) rfl
      exact ⟨v, ev, Rp.mono s _ _ r⟩
    · obtain ⟨v, ev, r⟩ := M.sw (up e1) ho0
      obtain ⟨w, ew, rw'⟩ := M'.sl i _ e2 (own_nm ht)
      have := lent e1 ho0 (map_some_get.mp ev)
      rw [this] at ew; cases ew
      exact ⟨v, ev, rw'⟩
  · rcases app_get h1 with ⟨_, h1⟩ | ⟨_, z⟩
    rotate_left
    · cases z; cases o1
    rcases app_get h2 with ⟨_, h2⟩ | ⟨_, z⟩
    rotate_left
    · cases z; cases o2
    rcases outs_get ho h1 with ⟨x, _, z⟩ | ⟨s1, q1, _, e1, e2⟩
    · subst z; cases o1
    rcases outs_get ho h2 with ⟨x, _, z⟩ | ⟨s2, q2, _, f1, f2⟩
    · subst z; cases o2
    exact M'.ap i j _ _ v e2 f2 o1 o2 (lent e1 q1 (map_some_get.mp h3)) (lent f1 q2 (map_some_get.mp h4))
  · rcases app_get h with ⟨_, h⟩ | ⟨_, z⟩
    · rcases outs_get ho h with ⟨x, _, z⟩ | ⟨s1, q1, z, _⟩
      · cases z
      · cases z
    · cases z; exact M'.mm _ _ hm
  · rcases app_get h1 with ⟨_, h1⟩ | ⟨e1, _⟩
    · rcases outs_get ho h1 with ⟨x, _, z⟩ | ⟨s1, q1, z, _⟩ <;> cases z
    rcases app_get h2 with ⟨_, h2⟩ | ⟨e2, _⟩
    · rcases outs_get ho h2 with ⟨x, _, z⟩ | ⟨s1, q1, z, _⟩ <;> cases z
    omega
theorem RpT.finish {F' H' : Hp} {σ' : L2.St} {δ' o : Dl} {v : V} {t : S} {cs' : List (List D)} (hl : lentIs L 0 ss = true) (kp : Keep L (L2.start N vs) σ') (ho : outs ss δ' = some o) (h : RpT g O F' H' σ' δ' v t) : RpT g O F' H' (vs.map some) (o ++ [some (.mem cs')]) v t := by
  have key : Apart σ' δ' v → Apart (vs.map some) (o ++ [some (.mem cs')]) v := fun ap i s hi hs0 hs => by
    rcases app_get hi with ⟨_, hi⟩ | ⟨_, z⟩
    rotate_left
    · cases z; cases hs0
    rcases outs_get ho hi with ⟨x, _, z⟩ | ⟨s1, q1, _, e1, e2⟩
    · subst z; cases hs0
    · refine ap i _ e2 hs0 ?_
      rw [kp.2 _ (by simpa using (lentIs_at hl e1).2 q1)]
      exact start_get.mpr (map_some_get.mp hs)
  cases t with
  | d x => exact h
  | own xs => exact ⟨h.1, key h.2⟩
  | od ks xs => exact ⟨h.1, key h.2⟩
  | mem cs => exact ⟨h.1, key h.2⟩
end
theorem bodyEnd_ok {as : List S} {k : Nat} {δ o : Dl} (h : bodyEnd as k δ = some o) : ∃ cs o', δ[as.length + k]? = some (some (.mem cs)) ∧ outs as δ = some o' ∧ o = o' ++ [some (.mem cs)] := by
  unfold bodyEnd at h
  split at h
  · cases h; exact ⟨_, _, by assumption, by assumption, rfl⟩
  · cases h
/-- at a body's end: what it promised -/
theorem body_end {g : Gx} {N : List Str} {vs : List V} {H : Hp} {Q : VK} {E : XK} {n nk : Nat} {L : List Nat} {m : M Fl} (h : spOf g n (bodyFn n nk L m) vs H Q E) : tS g (fun _ => E) L m { nx := fun _ H' => Q .non H', rt := Q } (L2.start N vs) H := by
  obtain ⟨hl, O, F, ss, cs, hs, M, h⟩ := h
  have e0 : (ss ++ [S.mem cs])[n]? = some (S.mem cs) := by rw [← hs]; simp
  have e1 : (ss ++ [S.mem cs]).take n = ss := by rw [← hs]; simp
  have e2 : (ss ++ [S.mem cs]).length = n + 1 := by rw [List.length_append, hs]; rfl
  unfold wp bodyFn at h
  simp only [e0, e1, e2, true_and] at h
  by_cases hc : lentIs L 0 ss = true
  · rw [if_pos hc] at h
    refine ⟨O, F, ss.map some ++ List.replicate nk none ++ [some (.mem cs)], M.start hc, ?_⟩
    unfold wps
    cases em : m (ss.map some ++ List.replicate nk none ++ [some (.mem cs)]) with
    | none => rw [em] at h; exact h.elim
    | some r =>
      rw [em] at h
      cases r with
      | err e' δ' =>
        simp only at h
        cases eb : bodyEnd ss nk δ' with
        | none => rw [eb] at h; exact h.elim
        | some o =>
          rw [eb] at h
          obtain ⟨cs', o', q1, q2, rfl⟩ := bodyEnd_ok eb
          exact fun F' H' σ' c dd s' kp M' hc' => h F' H' s' (M.finish s' hc kp M' q2 q1) c dd hc'
      | ok fl δ' =>
        cases fl with
        | ret t =>
          simp only at h
          cases eb : bodyEnd ss nk δ' with
          | none => rw [eb] at h; exact h.elim
          | some o =>
            rw [eb] at h
            obtain ⟨cs', o', q1, q2, rfl⟩ := bodyEnd_ok eb
            exact fun F' H' σ' s' kp M' v hv => h F' H' s' (M.finish s' hc kp M' q2 q1) v (hv.finish hc kp q2)
        | next =>
          simp only at h
          cases eb : bodyEnd ss nk δ' with
          | none => rw [eb] at h; exact h.elim
          | some o =>
            rw [eb] at h
            obtain ⟨cs', o', q1, q2, rfl⟩ := bodyEnd_ok eb
            exact fun F' H' σ' s' kp M' => h F' H' s' (M.finish s' hc kp M' q2 q1) _ .non
        | _ => exact h.elim
  · rw [if_neg hc] at h; exact h.elim
end Ev

set_option Elab.async false
set_option linter.all false
set_option maxRecDepth 100000
namespace Ev
open PySem PySem.Spec PyProof.Rows L2

/-! ### calls by any pattern: np written arguments, keywords ks, the defaults dd; sel: the parameters' places among them -/
def pick {α : Type} (sel : List Nat) (l : List α) : List α := sel.filterMap (l[·]?)
/-- a def's promise, where no object is being shown -/
structure FnG (P : Program) (w : World) (K : PySem.W.Frag) (mg : Str → Option Value) (base : Heap) (k : Nat) (f : Addr) (fd : FuncData) (ps : List Str) (sp : Sp) : Prop where
  ln : ∀ vs H Q E, sp vs H Q E → vs.length = ps.length
  go : ∀ (A : Around) (outer : List Env) (s : Shared) (H : Hp) (args : Args) (us : List Value) (vs : List V) (Q : VK) (E : XK), Room k A → A.guards = some [] → Env0 P w K mg base A outer s H → BindsTo s fd args (ps.zip us) → Vals vs us → sp vs H Q E →
    codeAny (model P w) A (.call (.ref f) args) (CR (L2.CX P w) outer P w H s Q E) s
theorem FnG.mono {P : Program} {w : World} {K : PySem.W.Frag} {mg : Str → Option Value} {base : Heap} {j k : Nat} {f : Addr} {fd : FuncData} {ps : List Str} {sp : Sp} (F : FnG P w K mg base j f fd ps sp) (h : j ≤ k) : FnG P w K mg base k f fd ps sp :=
  ⟨F.ln, fun A outer s H args us vs Q E hr => F.go A outer s H args us vs Q E (hr.mono h)⟩
theorem FnG.imp {P : Program} {w : World} {K : PySem.W.Frag} {mg : Str → Option Value} {base : Heap} {k : Nat} {f : Addr} {fd : FuncData} {ps : List Str} {sp sp' : Sp} (F : FnG P w K mg base k f fd ps sp) (h : ∀ vs H Q E, sp' vs H Q E → sp vs H Q E) : FnG P w K mg base k f fd ps sp' :=
  ⟨fun vs H Q E q => F.ln vs H Q E (h _ _ _ _ q), fun A outer s H args us vs Q E hr hg e hb hv q => F.go A outer s H args us vs Q E hr hg e hb hv (h _ _ _ _ q)⟩
structure HasP (X : Cx) (E : WS) (x : Str) (n np : Nat) (ks : List Str) (dd : List D) (sel : List Nat) (fn : Fn) : Prop where
  ex : ∃ (f : Addr) (fd : FuncData) (ps : List Str) (k : Nat) (dvs : List V) (ds : List Value), FnG X.prog X.w X.K X.mg X.base k f fd ps (spOf (gx X) n fn) ∧ ps.length = n ∧ Room k X.A ∧ X.mg x = some (.ref f) ∧ PySem.W.keepIn X.K (.ref f) = true ∧
    Vals dvs ds ∧ (∀ F, RpA (gx X) F dvs dd) ∧ ∀ (s : Shared) (us ws : List Value), X.K.In s.heap → us.length = np → ws.length = ks.length → BindsTo s fd ⟨us, ks.zip ws⟩ (ps.zip (pick sel (us ++ ws ++ ds)))
  sl : ∀ {α : Type} (l : List α), l.length = np + ks.length + dd.length → (pick sel l).length = n
  px : ∀ σ, PassesAt (L2.CX X.prog X.w) X σ (E σ)
  gd : X.A.guards = some []
def callG (mi : Nat) (fn : Fn) (sel : List Nat) (dd : List D) (as : List Ag) (kw : List (M R)) : M R := bindM (agsM as) fun os => bindM (argsM kw) fun zs => callEnd mi fn (pick sel (os ++ zs.map Op.d ++ dd.map Op.d))
theorem Vals.pick {xs : List V} {us : List Value} (r : Vals xs us) : ∀ sel : List Nat, Vals (Ev.pick sel xs) (Ev.pick sel us)
  | [] => .nil
  | i :: sel => by
    have ih := Vals.pick r sel
    unfold Ev.pick at ih ⊢
    rw [List.filterMap_cons, List.filterMap_cons]
    cases e : xs[i]? with
    | none => rw [r.none_of e]; exact ih
    | some x =>
      obtain ⟨u, eu, ru⟩ := r.get e
      rw [eu]; exact .cons ru ih
theorem RpOs.get' {g : Gx} {F : Hp} {σ : L2.St} : ∀ {vs : List V} {os : List Op} {k : Nat} {v : V}, RpOs g F σ vs os → vs[k]? = some v → ∃ o, os[k]? = some o ∧ RpO g F σ v o
  | _, _, _, _, .nil, h => by simp at h
  | _, _, 0, _, .cons a _, h => by simp at h; subst h; exact ⟨_, rfl, a⟩
  | _, _, k + 1, o, .cons _ b, h => by simpa using RpOs.get' (k := k) b (by simpa using h)
theorem RpOs.pick {g : Gx} {F : Hp} {σ : L2.St} {vs : List V} {os : List Op} (r : RpOs g F σ vs os) : ∀ sel : List Nat, RpOs g F σ (Ev.pick sel vs) (Ev.pick sel os)
  | [] => .nil
  | i :: sel => by
    have ih := RpOs.pick r sel
    unfold Ev.pick at ih ⊢
    rw [List.filterMap_cons, List.filterMap_cons]
    cases e : vs[i]? with
    | none =>
      have : os[i]? = none := by
        rw [List.getElem?_eq_none_iff] at e ⊢
        rw [← r.len]; exact e
      rw [this]; exact ih
    | some x =>
      obtain ⟨u, eu, ru⟩ := r.get' e
      rw [eu]; exact .cons ru ih
theorem RpA.ops {g : Gx} {F : Hp} {σ : L2.St} : ∀ {vs : List V} {ds : List D}, RpA g F vs ds → RpOs g F σ vs (ds.map Op.d)
  | _, _, .nil => .nil
  | _, _, .cons a b => .cons a b.ops
section
variable {X : Cx} {E : WS} {e : Expr} {es : List Expr} {kws : List Keyword} {x : Str} {p pos : Pos} {n np : Nat} {ks : List Str} {dd : List D} {sel : List Nat} {fn : Fn} {mi : Nat}
theorem pk_nil' : PK X [] (tAs (gx X) E (argsM [])) := ⟨fun po pins s σ H Q I ⟨O, F, δ, M, w⟩ => pk_nil.run po pins s σ H Q I (wp_ret M w [] .nil)⟩
theorem pk_cons' {m : M R} {ms : List (M R)} {nm : Option Str} {kpos : Pos} (h : PE X e (tR (gx X) E m)) (hr : PK X kws (tAs (gx X) E (argsM ms))) : PK X (⟨nm, e, kpos⟩ :: kws) (tAs (gx X) E (argsM (m :: ms))) := by
  refine ⟨fun po pins s σ H Q I w => (pk_cons (nm := nm) (kpos := kpos) (pr_dat h) hr).run po pins s σ H Q I ?_⟩
  obtain ⟨O, F, δ, M, w⟩ := w
  refine ⟨O, F, δ, M, wp_mono (wp_bind w) fun F1 H1 δ1 x s1 M1 w1 v hv => ?_⟩
  exact ⟨O, F1, δ1, M1, wp_mono (wp_bind w1) fun F2 H2 δ2 xs s2 M2 w2 vs hvs => wp_ret M2 w2 _ (.cons (Rp.mono s2 _ _ hv) hvs)⟩
theorem run_G {pins : List (Addr × Obj)} {σ : L2.St} {H O F : Hp} {δ : Dl} {s : Shared} {Q : VK} {us ws : List Value} {vs zs : List V} {os : List Op} {zd : List D} (I : Inv X pins σ H s) (hsl : ∀ {α : Type} (l : List α), l.length = np + ks.length + dd.length → (pick sel l).length = n)
    (hx : ∀ σ, PassesAt (L2.CX X.prog X.w) X σ (E σ)) {f : Addr} {fd : FuncData} {ps : List Str} {k : Nat} {dvs : List V} {ds : List Value} (Fo : FnG X.prog X.w X.K X.mg X.base k f fd ps (spOf (gx X) n fn)) (hgd : X.A.guards = some []) (hr : Room k X.A) (rd : Vals dvs ds) (rdd : ∀ F, RpA (gx X) F dvs dd)
    (hb : ∀ (s : Shared) (us ws : List Value), X.K.In s.heap → us.length = np → ws.length = ks.length → BindsTo s fd ⟨us, ks.zip ws⟩ (ps.zip (pick sel (us ++ ws ++ ds)))) (r : Vals vs us) (rz : Vals zs ws) (ln : vs.length = np) (lk : zs.length = ks.length) (M : Ms (gx X) O F H σ δ) (ro : RpOs (gx X) F σ vs os) (rzd : RpA (gx X) F zs zd)
    (w : wp (gx X) O F σ δ (callEnd mi fn (pick sel (os ++ zd.map Op.d ++ dd.map Op.d))) (fun F' H' δ' r => ∀ v, RpR (gx X) O F' H' σ δ' v r → Q v H') (eE (gx X) (E σ))) :
    wpAny (model X.prog X.w) X.A (call (.ref f) us (ks.zip ws)) (EP X pins σ Q) X.xe s := by
  have rfull : Vals (pick sel (vs ++ zs ++ dvs)) (pick sel (us ++ ws ++ ds)) := Vals.pick ((r.append rz).append rd) sel
  have ro2 : RpOs (gx X) F σ (pick sel (vs ++ zs ++ dvs)) (pick sel (os ++ zd.map Op.d ++ dd.map Op.d)) := RpOs.pick ((ro.append rzd.ops).append (rdd F).ops) sel
  have hl : (pick sel (os ++ zd.map Op.d ++ dd.map Op.d)).length = n := hsl _ (by rw [List.length_append, List.length_append, List.length_map, List.length_map, ← ro.len, ← rzd.length, ln, lk])
  have sp := callEnd_ok (n := n) M ro2 hl w
  refine wpAny_call (codeAny_mono (Fo.go X.A X.stack s H ⟨us, ks.zip ws⟩ _ _ Q (E σ) hr hgd I.env0 (hb s us ws I.kIn (by rw [← r.length, ln]) (by rw [← rz.length, lk])) rfull sp) fun r s' hq => ?_)
  cases r with
  | error e => exact hx σ pins H s e s' I hq
  | ok fl =>
    cases fl with
    | ret u => exact I.after hq
    | next => exact False.elim hq
    | brk => exact False.elim hq
    | cont => exact False.elim hq
theorem pr_callG {as : List Ag} {kw : List (M R)} (hh : HasP X E x n np ks dd sel fn) (hg : Gl X x) (ha : PA X (e :: es) (tOs (gx X) E (agsM as))) (hkw : PK X kws (tAs (gx X) E (argsM kw))) (hl : as.length = np) (hlk : kw.length = ks.length) (hdb : (x == ("__debug__" : Str)) = false)
    (hall : (backToKw pos (keywordEach kws X.env)).all (·.1.isSome) = true) (hks : (backToKw pos (keywordEach kws X.env)).filterMap (·.1) = ks) (he : starEach (e :: es) X.env = (false, eval e X.env) :: starEach es X.env)
    (hpl : ((backTo pos (starEach (e :: es) X.env)).any (·.1) || (backToKw pos (keywordEach kws X.env)).any (·.1.isNone)) = false) :
    PE X (.Call (.Name x p) (e :: es) kws pos) (tR (gx X) E (callG mi fn sel dd as kw)) := by
  obtain ⟨⟨f, fd, ps, k, dvs, ds, Fo, hps, hr, hm, hk, rd, rdd, hb⟩, hsl, hx, hgd⟩ := hh
  refine ⟨fun pins s σ H Q I ⟨O, F, δ, M, w⟩ => ?_⟩
  refine wpAny_Call_Name_kw (ld_glob I hg hm ?_ hdb)
  refine PySem.W.callWith_KW (h₀ := X.base) I.ok.mod.kin hk hall (thn (ha.run pos pins s σ H (fun vs H1 => tAs (gx X) E (argsM kw) σ H1 fun zs H2 => ∃ F2 δ2 os zd, Ms (gx X) O F2 H2 σ δ2 ∧ RpOs (gx X) F2 σ vs os ∧ RpA (gx X) F2 zs zd ∧ os.length = np ∧ zd.length = ks.length ∧ wp (gx X) O F2 σ δ2 (callEnd mi fn (pick sel (os ++ zd.map Op.d ++ dd.map Op.d))) (fun F' H' δ' r => ∀ v, RpR (gx X) O F' H' σ δ' v r → Q v H') (eE (gx X) (E σ))) I ?_) fun us s1 ⟨vs, H1, I1, r, q⟩ => ?_) hpl he
  · exact ⟨O, F, δ, M, wp_mono (wp_lenA (wp_bind w)) fun F1 H1 δ1 os s1 M1 w1 vs hv => ⟨O, F1, δ1, M1, wp_mono (wp_len (wp_bind w1.2)) fun F2 H2 δ2 zd s2 M2 w2 zs hz => ⟨F2, δ2, os, zd, M2, hv.mono s2, hz, by rw [w1.1, hl], by rw [w2.1, hlk], w2.2⟩⟩⟩
  · refine thn (hkw.run pos pins s1 σ H1 _ I1 q) fun ws s2 ⟨zs, H2, I2, rz, F2, δ2, os, zd, M2, hv, hz, l1, l2, w2⟩ => ⟨I2.kIn, ?_⟩
    rw [hks]
    exact run_G I2 hsl hx Fo hgd hr rd rdd hb r rz (by rw [hv.len, l1]) (by rw [hz.length, l2]) M2 hv hz w2
theorem pr_callG0 {kw : List (M R)} (hh : HasP X E x n np ks dd sel fn) (hg : Gl X x) (hkw : PK X kws (tAs (gx X) E (argsM kw))) (hl : np = 0) (hlk : kw.length = ks.length) (hdb : (x == ("__debug__" : Str)) = false)
    (hall : (backToKw pos (keywordEach kws X.env)).all (·.1.isSome) = true) (hks : (backToKw pos (keywordEach kws X.env)).filterMap (·.1) = ks)
    (hpl : ((backTo pos (starEach [] X.env)).any (·.1) || (backToKw pos (keywordEach kws X.env)).any (·.1.isNone)) = false) :
    PE X (.Call (.Name x p) [] kws pos) (tR (gx X) E (callG mi fn sel dd [] kw)) := by
  obtain ⟨⟨f, fd, ps, k, dvs, ds, Fo, hps, hr, hm, hk, rd, rdd, hb⟩, hsl, hx, hgd⟩ := hh
  refine ⟨fun pins s σ H Q I ⟨O, F, δ, M, w⟩ => ?_⟩
  refine wpAny_Call_Name_kw (ld_glob I hg hm ?_ hdb)
  refine PySem.W.callWith_KW0 (h₀ := X.base) I.ok.mod.kin hk hall (thn (hkw.run pos pins s σ H (fun zs H2 => ∃ F2 δ2 zd, Ms (gx X) O F2 H2 σ δ2 ∧ RpA (gx X) F2 zs zd ∧ zd.length = ks.length ∧ wp (gx X) O F2 σ δ2 (callEnd mi fn (pick sel (([] : List Op) ++ zd.map Op.d ++ dd.map Op.d))) (fun F' H' δ' r => ∀ v, RpR (gx X) O F' H' σ δ' v r → Q v H') (eE (gx X) (E σ))) I ?_) fun ws s2 ⟨zs, H2, I2, rz, F2, δ2, zd, M2, hz, l2, w2⟩ => ⟨I2.kIn, ?_⟩) hpl
  · have w1 := wp_bind w
    have w2 := wp_ret M w1
    exact ⟨O, F, δ, M, wp_mono (wp_len (wp_bind w2)) fun F2 H2 δ2 zd s2 M2 w2 zs hz => ⟨F2, δ2, zd, M2, hz, by rw [w2.1, hlk], w2.2⟩⟩
  · rw [hks]
    exact run_G (us := []) (vs := []) (os := []) I2 hsl hx Fo hgd hr rd rdd hb .nil rz (by rw [hl]; rfl) (by rw [hz.length, l2]) M2 .nil hz w2
end

/-! ### isinstance with one type, with a written tuple of types -/
section
variable {X : Cx} {g : Gx} {E : WS} {a : Expr} {p pos tpos : Pos}
def isiD (ns : List String) (d : D) : Option S := match d.tyn with
  | some t => (kitAny' t ns).map fun b => .d (.bl b)
  | none => none
def isi1D (n : String) (d : D) : Option S := match d.tyn with
  | some t => (kitB t n).map fun b => .d (.bl b)
  | none => none
/-- a name of a built-in type -/
structure TyN (X : Cx) (e : Expr) (n : String) : Prop where
  pe : PE X e (tC (.ty n))
  st : starEach [e] X.env = [(false, eval e X.env)]
theorem pr_isi1 {b : Expr} {n : String} {ma : M R} (hg : Gl X "isinstance") (hm : X.mg "isinstance" = none) (hb : PE X b (tC (.ty n))) (ha : PE X a (tR (gx X) E ma)) (hs : starEach [a, b] X.env = (false, eval a X.env) :: starEach [b] X.env) (hs2 : starEach [b] X.env = [(false, eval b X.env)]) (hpl : (backTo pos (starEach [b] X.env)).any (·.1) = false) :
    PE X (.Call (.Name "isinstance" p) [a, b] [] pos) (tR (gx X) E (op1 (isi1D n) ma)) := by
  refine (pe_callB call_isi hg hm rfl (pa_cons (pr_opd ha) (pa_cons hb pa_nil hs2) hs) (by decide) (by decide) hs hpl).imp fun σ H Q w => ?_
  refine t_op1 (r := fun x H Q => rIsi X.K [x, .ty n] H Q) (fun O F H x d s Q fh bx ef q => ?_) w
  unfold isi1D at ef
  split at ef
  · rename_i t ht
    rw [Option.map_eq_some_iff] at ef
    obtain ⟨b, eb, rfl⟩ := ef
    exact ⟨x, .ty n, .type t, .type n, b, rfl, .ty n, bx.tyx fh ht, kit_ty eb, q_bl fh q⟩
  · cases ef
/-- a row of names of built-in types -/
theorem pa_tys : ∀ {es : List Expr} {ns : List String}, (Paired (fun e n => PE X e (tC (.ty n)) ∧ ∀ r : List Expr, starEach (e :: r) X.env = (false, eval e X.env) :: starEach r X.env) es ns) → PA X es (fun _ H Q => Q (ns.map V.ty) H)
  | _, _, .nil => pa_nil
  | _, _, .cons h t => (pa_cons h.1 (pa_tys t) (h.2 _)).imp fun σ H Q q => q
theorem pr_isiT {es : List Expr} {ns : List String} {k : Nat} {ma : M R} (hg : Gl X "isinstance") (hm : X.mg "isinstance" = none) (hb : Paired (fun e n => PE X e (tC (.ty n)) ∧ ∀ r : List Expr, starEach (e :: r) X.env = (false, eval e X.env) :: starEach r X.env) es ns) (hl : ns.length ≤ 1000) (ha : PE X a (tR (gx X) E ma))
    (hs : starEach [a, .Tuple es k tpos] X.env = (false, eval a X.env) :: starEach [.Tuple es k tpos] X.env) (hs2 : starEach [.Tuple es k tpos] X.env = [(false, eval (.Tuple es k tpos) X.env)]) (hpl : (backTo pos (starEach [.Tuple es k tpos] X.env)).any (·.1) = false) :
    PE X (.Call (.Name "isinstance" p) [a, .Tuple es k tpos] [] pos) (tR (gx X) E (op1 (isiD ns) ma)) := by
  refine (pe_callB call_isiT hg hm rfl (pa_cons (pr_opd ha) (pa_cons (pe_tup (pa_tys hb)) pa_nil hs2) hs) (by decide) (by decide) hs hpl).imp fun σ H Q w => ?_
  have key : O1 (gx X) (fun x H Q => ns.length ≤ sizeLine ∧ ∀ tp, H tp = none → rIsiT X.K [x, .ref tp] (upd H tp (.tup (ns.map V.ty))) Q) (isiD ns) := by
    intro O F H x d s Q fh bx ef q
    unfold isiD at ef
    split at ef
    · rename_i t ht
      rw [Option.map_eq_some_iff] at ef
      obtain ⟨b, eb, rfl⟩ := ef
      refine ⟨small_line hl, fun tp htp => ⟨x, tp, ns.map V.ty, .type t, ns.map Value.type, b, rfl, upd_same, ?_, ?_, kitAny'_ok eb, q _ _ _ (grow_tup fh htp) (.bl b)⟩⟩
      · clear hb hl eb q w
        induction ns with
        | nil => exact .nil
        | cons n r ih => exact .cons (.ty n) ih
      · have k := grow_tup (vs := ns.map V.ty) fh htp
        have bx' := bx.grow k
        exact bx'.tyx k.fh ht
    · cases ef
  obtain ⟨O, F, δ, M, z⟩ := t_op1 key w
  refine ⟨O, F, δ, M, wp_mono z fun F' H' δ' o s M' q v hv => ?_⟩
  obtain ⟨h1, h2⟩ := q v hv
  exact ⟨by rw [List.length_map]; exact h1, fun tp htp => h2 tp htp⟩
end
end Ev

set_option Elab.async false
set_option linter.all false
set_option maxRecDepth 100000
namespace Ev
open PySem PySem.Spec PyProof.Rows L2
theorem wp_later {g : Gx} {O F F' : Hp} {σ : L2.St} {δ : Dl} {α : Type} {m : M α} {ok : Hp → Hp → Dl → α → Prop} {er : Hp → Hp → Dl → Ex → Prop} (h : wp g O F σ δ m ok er) (s : Same F F') : wp g O F' σ δ m ok er := by
  unfold wp at h ⊢
  cases e : m δ with
  | none => rw [e] at h; exact h
  | some r =>
    rw [e] at h
    cases r with
    | ok a δ' => exact fun F2 H2 s2 => h F2 H2 (s.trans s2)
    | err a δ' => exact fun F2 H2 s2 => h F2 H2 (s.trans s2)
section
variable {g : Gx} {E : WS} {σ : L2.St} {H : Hp} {Q : VK}
theorem t_chain {r r' : R2} {f f' : D → D → Option S} {ma mb mc : M R} (h : O2 g r f) (h' : O2 g r' f') (w : tR g E (chainM f f' ma mb mc) σ H Q) : tChain r r' (tO g E (opdM ma)) (tO g E (opdM mb)) (tO g E (opdM mc)) σ H Q := by
  obtain ⟨O, F, δ, M, w⟩ := w
  refine ⟨O, F, δ, M, wp_mono (wp_bind w) fun F1 H1 δ1 x s1 M1 w1 vx hx => ?_⟩
  refine ⟨O, F1, δ1, M1, wp_mono (wp_bind w1) fun F2 H2 δ2 y s2 M2 w2 vy hy => ?_⟩
  unfold wp at w2
  simp only at w2
  cases ex : x.val δ2 with
  | none => rw [ex] at w2; exact w2.elim
  | some d =>
    cases ey : y.val δ2 with
    | none => rw [ex, ey] at w2; exact w2.elim
    | some e =>
      rw [ex, ey] at w2
      simp only at w2
      cases ef : f d e with
      | none => rw [ef] at w2; exact w2.elim
      | some s =>
        rw [ef] at w2
        cases s with
        | own xs => exact w2.elim
        | od ks xs => exact w2.elim
        | mem cs => exact w2.elim
        | d c =>
          cases c with
          | bl b =>
            refine h O F2 H2 vx vy d e _ _ M2.fh (M2.bw (hx.mono s2) ex) (M2.bw hy ey) ef fun F' H' v k n => ?_
            cases n
            cases b with
            | false =>
              refine ⟨false, rfl, ?_⟩
              rw [if_neg Bool.false_ne_true]
              exact w2 F' H' k.ff (M2.grow k) _ (.bl false)
            | true =>
              refine ⟨true, rfl, ?_⟩
              rw [if_pos rfl]
              have w3 : wp g O F2 σ δ2 (bindM (opdM mc) (fun z => fun δ => match y.val δ, z.val δ with
                | some d, some e => liftOp (f' d e) δ
                | _, _ => none)) _ _ := w2
              refine ⟨O, F', δ2, M2.grow k, wp_mono (wp_bind (wp_later w3 k.ff)) fun F4 H4 δ4 z s4 M4 w4 vz hz => ?_⟩
              unfold wp at w4
              simp only at w4
              cases ey' : y.val δ4 with
              | none => rw [ey'] at w4; exact w4.elim
              | some e' =>
                cases ez : z.val δ4 with
                | none => rw [ey', ez] at w4; exact w4.elim
                | some c' =>
                  rw [ey', ez] at w4
                  simp only [liftOp] at w4
                  cases ef' : f' e' c' with
                  | none => rw [ef'] at w4; exact w4.elim
                  | some s =>
                    rw [ef'] at w4
                    simp only [Option.map_some] at w4
                    exact h' O F4 H4 vy vz e' c' s Q M4.fh (M4.bw ((hy.mono k.ff).mono s4) ey') (M4.bw hz ez) ef' fun F' H' v k n => w4 F' H' k.ff (M4.grow k) v (M4.new k n)
          | _ => exact w2.elim
end
section
variable {X : Cx} {E : WS} {a b c : Expr} {pos : Pos}
theorem pr_chain {op op' : CmpOp} {f f' : D → D → Option S} {ma mb mc : M R} (hu : X.A.units + 64 < cLine) (h : cmpD op = some f) (h' : cmpD op' = some f') (ha : PE X a (tR (gx X) E ma)) (hb : PE X b (tR (gx X) E mb)) (hc : PE X c (tR (gx X) E mc)) (hm : lastMarks [op, op'] [b, c] = false) : PE X (.Compare a [op, op'] [b, c] pos) (tR (gx X) E (chainM f f' ma mb mc)) := by
  obtain ⟨r, h1, h2⟩ := cmp_ok (X := X) hu h
  obtain ⟨r', h3, h4⟩ := cmp_ok (X := X) hu h'
  exact (pe_chain h1 h3 (pr_opd ha) (pr_opd hb) (pr_opd hc) hm).imp fun σ H Q w => t_chain h2 h4 w
theorem pt_chain' {op op' : CmpOp} {f f' : D → D → Option S} {ma mb mc : M R} (hu : X.A.units + 64 < cLine) (h : cmpD op = some f) (h' : cmpD op' = some f') (ha : PE X a (tR (gx X) E ma)) (hb : PE X b (tR (gx X) E mb)) (hc : PE X c (tR (gx X) E mc)) (hm : lastMarks [op, op'] [b, c] = false) : PT X (.Compare a [op, op'] [b, c] pos) (tT (gx X) E (blM (chainM f f' ma mb mc))) := by
  obtain ⟨r, h1, h2⟩ := cmp_ok (X := X) hu h
  obtain ⟨r', h3, h4⟩ := cmp_ok (X := X) hu h'
  exact (pt_chain h1 h3 (pr_opd ha) (pr_opd hb) (pr_opd hc) hm).imp (tT_bl fun σ H Q w => t_chain h2 h4 w)
end
end Ev

set_option Elab.async false
set_option linter.all false
set_option maxRecDepth 100000
namespace Ev
open PySem PySem.Spec PyProof.Rows L2
/-! ### methods of lists that change them -/
def extF : List D → List D → Option (D × List D)
  | xs, [.lst ys] => if xs.length + ys.length ≤ sizeLine then some (.non, xs ++ ys) else none
  | _, _ => none
theorem om_extend {g : Gx} : OM g rExtend extF := by
  intro F H a vs ws xs ds d ys Q fh ha r rw' ef q
  unfold extF at ef
  split at ef
  · split at ef
    · cases ef
      obtain ⟨w, rfl, r1⟩ := rw'.one
      cases r1 with
      | lst h1 r2 => exact ⟨a, _, vs, _, rfl, rfl, ha, fh.of h1, by rw [r.length, r2.length]; assumption, q _ _ .non (r.append r2)⟩
    · cases ef
  · cases ef
def insF : List D → List D → Option (D × List D)
  | xs, [.int i, y] => if xs.length < sizeLine ∧ 0 ≤ i ∧ i < 4611686018427387904 then some (.non, xs.take i.toNat ++ [y] ++ xs.drop i.toNat) else none
  | _, _ => none
def rIns : V → List V → Hp → VK → Prop := fun x vs H Q => ∃ (l : Addr) (xs : List V) (i : Int) (y : V), x = .ref l ∧ vs = [.int i, y] ∧ H l = some (.lst xs) ∧ xs.length < sizeLine ∧ 0 ≤ i ∧ i < 2 ^ 63 ∧
    Q .non (upd H l (.lst (xs.take i.toNat ++ [y] ++ xs.drop i.toNat)))
theorem om_insert {g : Gx} : OM g rIns insF := by
  intro F H a vs ws xs ds d ys Q fh ha r rw' ef q
  unfold insF at ef
  split at ef
  · split at ef
    · rename_i hc
      cases ef
      obtain ⟨w, w', rfl, r1, r2⟩ := rw'.two
      cases r1
      exact ⟨a, vs, _, w', rfl, rfl, ha, by rw [r.length]; exact hc.1, hc.2.1, Int.lt_trans hc.2.2 (by decide), q _ _ .non (((r.take _).append (.cons r2 .nil)).append (r.drop _))⟩
    · cases ef
  · cases ef
def clrF : List D → List D → Option (D × List D)
  | xs, [] => some (.non, [])
  | _, _ => none
theorem om_clear {g : Gx} : OM g rClear clrF := by
  intro F H a vs ws xs ds d ys Q fh ha r rw' ef q
  unfold clrF at ef
  split at ef
  · cases ef
    cases rw'
    exact ⟨a, vs, rfl, rfl, ha, q _ _ .non .nil⟩
  · cases ef
def revF : List D → List D → Option (D × List D)
  | xs, [] => some (.non, xs.reverse)
  | _, _ => none
theorem RpA.rev {g : Gx} {F : Hp} : ∀ {vs : List V} {ds : List D}, RpA g F vs ds → RpA g F vs.reverse ds.reverse
  | _, _, .nil => .nil
  | _, _, .cons a r => by rw [List.reverse_cons, List.reverse_cons]; exact r.rev.append (.cons a .nil)
theorem om_reverse {g : Gx} : OM g rReverse revF := by
  intro F H a vs ws xs ds d ys Q fh ha r rw' ef q
  unfold revF at ef
  split at ef
  · cases ef
    cases rw'
    exact ⟨a, vs, rfl, rfl, ha, q _ _ .non r.rev⟩
  · cases ef
structure LMeth where
  name : Str
  id : String
  f : List D → List D → Option (D × List D)
  slot : Slot "list" name id
  ty : typeOf (.builtin id) = pure (.type "method_descriptor")
  ok : ∀ X : Cx, ∃ r, MtR X id r ∧ OM (gx X) r f
def lmeths : List LMeth := [
  ⟨"append", "list.append", appF, PySem.F.slot_list_append, PySem.F.type_list_append, fun X => ⟨_, mt_append, om_append⟩⟩,
  ⟨"pop", "list.pop", popF, PySem.F.slot_list_pop, PySem.F.type_list_pop, fun X => ⟨_, mt_pop, om_pop⟩⟩,
  ⟨"extend", "list.extend", extF, PySem.F.slot_list_extend, PySem.F.type_list_extend, fun X => ⟨_, mt_extend, om_extend⟩⟩,
  ⟨"insert", "list.insert", insF, PySem.F.slot_list_insert, PySem.F.type_list_insert, fun X => ⟨_, mt_insert, om_insert⟩⟩,
  ⟨"clear", "list.clear", clrF, PySem.F.slot_list_clear, PySem.F.type_list_clear, fun X => ⟨_, mt_clear, om_clear⟩⟩,
  ⟨"reverse", "list.reverse", revF, PySem.F.slot_list_reverse, PySem.F.type_list_reverse, fun X => ⟨_, mt_reverse, om_reverse⟩⟩]
def findLM (x : Str) : List LMeth → Option LMeth
  | [] => none
  | b :: r => if b.name = x then some b else findLM x r
theorem findLM_x {x : Str} : ∀ {l : List LMeth} {b : LMeth}, findLM x l = some b → b.name = x
  | [], _, h => by cases h
  | g :: r, f, h => by
    simp only [findLM] at h
    split at h
    · cases h; assumption
    · exact findLM_x h
theorem t_meth1 {X : Cx} {E : WS} {j : Nat} {r : V → List V → Hp → VK → Prop} {f : List D → List D → Option (D × List D)} (h : OM (gx X) r f) (σ : L2.St) (H : Hp) (Q : VK) (w : tR (gx X) E (meth j f []) σ H Q) : tBM0 X.K "list" r (tO (gx X) E (opdM (slotM j))) σ H Q := by
  obtain ⟨O, F, δ, M, q⟩ := t_meth h σ H Q w
  refine ⟨O, F, δ, M, wp_mono q fun F' H' δ' o s M' z v hv => ?_⟩
  obtain ⟨a, b⟩ := z v hv
  refine ⟨a, ?_⟩
  obtain ⟨O2, F2, δ2, M2, q2⟩ := b
  exact q2 F2 H' (Same.refl _) M2 [] .nil
/-! ### name += e, name -= e, of whole numbers -/
def augM (j : Nat) (f : Int → Int → Int) (m : M R) : M Fl := fun δ => match δ[j]? with
  | some (some (.d (.int i))) => bindM (datM m) (fun d => match d with
    | .int k => putM j (.d (.int (f i k)))
    | _ => fun _ => none) δ
  | _ => none
section
variable {X : Cx} {E : WS} {L : List Nat} {e : Expr} {pos : Pos}
theorem ps_aug' {i : Nat} {x : Str} {pos' : Pos} {a : M R} {op : Operator} {f : Int → Int → Int} (ho : PIp X op (ipI f)) (hN : X.N.Nodup) (hi : X.N[i]? = some x) (hx : Loc X.env.scope x) (hL : i ∉ L) (he : PE X e (tR (gx X) E a)) (hf : X.fn x = true ∨ X.env.scope.names.lookup x = some .local) :
    PS X (.AugAssign (.Name x pos') op e pos) (tS (gx X) E L (augM i f a)) := by
  refine ⟨fun pins s σ H D I w => (ps_aug hN hi hx (pr_dat he) ho hf).run pins s σ H D I ?_⟩
  obtain ⟨O, F, δ, M, w⟩ := w
  have hlen : i < σ.length := by rw [I.len]; exact (List.getElem?_eq_some_iff.mp hi).1
  unfold wps at w
  cases ed : δ[i]? with
  | none => unfold augM at w; rw [ed] at w; exact w.elim
  | some o => cases o with
    | none => unfold augM at w; rw [ed] at w; exact w.elim
    | some s => cases s with
      | own xs => unfold augM at w; rw [ed] at w; exact w.elim
      | od ks xs => unfold augM at w; rw [ed] at w; exact w.elim
      | mem cs => unfold augM at w; rw [ed] at w; exact w.elim
      | d c => cases c with
        | int k =>
          have w' : wps (gx X) E O F L σ δ (bindM (datM a) (fun d => match d with
            | .int k2 => putM i (.d (.int (f k k2)))
            | _ => fun _ => none)) D := by
            unfold wps
            unfold augM at w
            rw [ed] at w
            exact w
          obtain ⟨v, ev, rv⟩ := M.sd ed
          have : v = .int k := by cases rv; rfl
          subst this
          refine ⟨.int k, ev, O, F, δ, M, wp_mono (wps_bind w') fun F1 H1 δ1 d s1 M1 w1 y hy => ?_⟩
          cases d with
          | int k2 =>
            cases hy
            exact ⟨k, k2, rfl, rfl, wps_put M1 hlen hL (r := .d (.int (f k k2))) (v := .int (f k k2)) (.int _) w1⟩
          | _ => exact w1.elim
        | _ => unfold augM at w; rw [ed] at w; exact w.elim
end
/-! ### type(x) -/
theorem Bw.tyb {g : Gx} {O F H : Hp} {v : V} {d : D} {n : String} (b : Bw g O F H v d) (fh : Fit F H) (e : d.tyn = some n) : TyB g.K H v n := by
  cases d with
  | non => cases e; have := b.non; subst this; exact .non
  | bl x => cases e; have := b.bl; subst this; exact .bl x
  | int x => cases e; have := b.int; subst this; exact .int x
  | str x => cases e; have := b.str; subst this; exact .str x
  | tup xs => cases e; obtain ⟨a, vs, rfl, h1, r⟩ := b.tup; exact .tup (fit_tup fh h1)
  | lst xs => cases e; obtain ⟨a, vs, rfl, h1, r⟩ := b.list fh; exact .lst (.inl (.inl h1))
  | scr xs => cases e; obtain ⟨a, vs, rfl, h1, r⟩ := b.scr fh; exact .lst h1
  | _ => cases e
def typeF : List D → Option S
  | [d] => d.tyn.map fun n => .d (.ty n)
  | _ => none
theorem on_type {g : Gx} : ON g (rTyp g.K) typeF := by
  intro O F H vs ds s Q fh b ef q
  unfold typeF at ef
  split at ef
  · rw [Option.map_eq_some_iff] at ef
    obtain ⟨n, en, rfl⟩ := ef
    obtain ⟨v, rfl, b1⟩ := b.one
    exact ⟨v, n, rfl, b1.tyb fh en, q F H _ (Grow.refl fh) (.ty n)⟩
  · cases ef
end Ev

set_option Elab.async false
set_option linter.all false
set_option maxRecDepth 100000
namespace Ev
open PySem PySem.Spec PyProof.Rows L2
/-! ### f(e), e a new list that f holds alone -/
theorem ext_sig {σ : L2.St} {v : V} {i : Nat} {w : V} (h : (σ ++ [none, some v])[i]? = some (some w)) : σ[i]? = some (some w) ∨ (i = σ.length + 1 ∧ w = v) := by
  by_cases hi : i < σ.length
  · rw [List.getElem?_append_left hi] at h; exact .inl h
  · rw [List.getElem?_append_right (by omega)] at h
    match e : i - σ.length, h with
    | 0, h => simp at h
    | 1, h => simp at h; exact .inr ⟨by omega, h.symm⟩
    | k + 2, h => simp at h
theorem sig_ext {σ : L2.St} {v : V} {i : Nat} {w : V} (h : σ[i]? = some (some w)) : (σ ++ [none, some v])[i]? = some (some w) := by
  rw [List.getElem?_append_left (List.getElem?_eq_some_iff.mp h).1]; exact h
theorem Ms.ext {g : Gx} {O F H : Hp} {σ : L2.St} {δ : Dl} {v : V} {xs : List D} (M : Ms g O F H σ δ) (hl : δ.length = σ.length + 1) (ho : OwnedS g O F H v (.own xs)) (ha : Apart σ δ v) : Ms g O F H (σ ++ [none, some v]) (δ ++ [some (.own xs)]) := by
  have hv : (σ ++ [none, some v])[δ.length]? = some (some v) := by rw [hl]; simp
  refine ⟨M.fh, M.oh, M.dj, fun i s h hm => ?_, fun i j s t w h1 h2 o1 o2 h3 h4 => ?_, fun i cs h => ?_, fun i j cs ds h1 h2 => ?_⟩
  · rcases app_get h with ⟨hi, h'⟩ | ⟨rfl, e⟩
    · obtain ⟨w, ew, rw'⟩ := M.sl i s h' hm
      exact ⟨w, sig_ext ew, rw'⟩
    · cases e
      exact ⟨v, hv, ho⟩
  · rcases app_get h1 with ⟨hi, h1'⟩ | ⟨rfl, e1⟩
    · rcases app_get h2 with ⟨hj, h2'⟩ | ⟨rfl, e2⟩
      · have z1 : σ[i]? = some (some w) := by
          rcases ext_sig h3 with z | ⟨z, _⟩
          · exact z
          · omega
        have z2 : σ[j]? = some (some w) := by
          rcases ext_sig h4 with z | ⟨z, _⟩
          · exact z
          · omega
        exact M.ap i j s t w h1' h2' o1 o2 z1 z2
      · rw [hv] at h4; cases h4
        rcases ext_sig h3 with z | ⟨z, _⟩
        · exact absurd z (ha i s h1' o1)
        · omega
    · rcases app_get h2 with ⟨hj, h2'⟩ | ⟨rfl, e2⟩
      · rw [hv] at h3; cases h3
        rcases ext_sig h4 with z | ⟨z, _⟩
        · exact absurd z (ha j t h2' o2)
        · omega
      · rfl
  · rcases app_get h with ⟨_, h'⟩ | ⟨_, z⟩
    · exact M.mm i cs h'
    · cases z
  · rcases app_get h1 with ⟨_, h1'⟩ | ⟨_, z⟩
    rotate_left
    · cases z
    rcases app_get h2 with ⟨_, h2'⟩ | ⟨_, z⟩
    rotate_left
    · cases z
    exact M.m1 i j cs ds h1' h2'
def callTE (mi : Nat) (fn : Fn) (xs : List D) : M R := fun δ => match δ[mi]? with
  | some (some (.mem cs)) => match fn [.own xs, .mem cs] with
    | none => none
    | some (.ok s δo) => match (δo[1]? : Option (Option S)) with
      | some (some (.mem cs')) => some (.ok s.toR (δ.set mi (some (.mem cs'))))
      | _ => none
    | some (.err e δo) => match (δo[1]? : Option (Option S)) with
      | some (some (.mem cs')) => some (.err e (δ.set mi (some (.mem cs'))))
      | _ => none
  | _ => none
theorem Ms.pre {g : Gx} {O F H : Hp} {σ : L2.St} {δ δ' : Dl} {v : V} (M : Ms g O F H (σ ++ [none, some v]) δ') (hl : δ.length = σ.length + 1) (hz : ∀ s, δ[σ.length]? = some (some s) → s.isMem = true) (h : ∀ i, i < δ.length → δ'[i]? = δ[i]?) : Ms g O F H σ δ := by
  have up : ∀ {i : Nat} {s : S}, δ[i]? = some (some s) → δ'[i]? = some (some s) := fun {i s} q => by rw [h i (List.getElem?_eq_some_iff.mp q).1]; exact q
  refine ⟨M.fh, M.oh, M.dj, fun i s hs hm => ?_, fun i j s t w h1 h2 o1 o2 h3 h4 => M.ap i j s t w (up h1) (up h2) o1 o2 (sig_ext h3) (sig_ext h4), fun i cs q => M.mm i cs (up q), fun i j cs ds h1 h2 => M.m1 i j cs ds (up h1) (up h2)⟩
  obtain ⟨w, ew, rw'⟩ := M.sl i s (up hs) hm
  refine ⟨w, ?_, rw'⟩
  have hi := (List.getElem?_eq_some_iff.mp hs).1
  rcases ext_sig ew with z | ⟨z, _⟩
  · exact z
  · omega
theorem RpR.pre {g : Gx} {O F H : Hp} {σ : L2.St} {δ δ' : Dl} {u : V} {v : V} {s : S} (hv : RpR g O F H (σ ++ [none, some u]) δ' v s.toR) (h : ∀ i, i < δ.length → δ'[i]? = δ[i]?) : RpR g O F H σ δ v s.toR := by
  have key : Apart (σ ++ [none, some u]) δ' v → Apart σ δ v := fun ap i t hi ho hs => ap i t (by rw [h i (List.getElem?_eq_some_iff.mp hi).1]; exact hi) ho (sig_ext hs)
  cases s with
  | d x => exact hv
  | own xs => exact ⟨hv.1, key hv.2⟩
  | od ks xs => exact ⟨hv.1, key hv.2⟩
  | mem cs => exact hv
theorem spT {g : Gx} {E : WS} {O F H : Hp} {σ : L2.St} {δ : Dl} {fn : Fn} {v : V} {xs : List D} {Q : VK} {mi : Nat} (M : Ms g O F H σ δ) (hl : δ.length = σ.length + 1) (hv : RpR g O F H σ δ v (.own xs))
    (w : wp g O F σ δ (callTE mi fn xs) (fun F' H' δ' r => ∀ v, RpR g O F' H' σ δ' v r → Q v H') (eE g (E σ))) : spOf g 1 fn [v] H Q (E σ) := by
  refine callEnd_ok (E := fun _ => E σ) (mi := mi) (os := [.slot δ.length]) (M.ext hl hv.1 hv.2) (.cons (by show (σ ++ [none, some v])[δ.length]? = _; rw [hl]; simp) .nil) rfl ?_
  unfold wp at w ⊢
  unfold callTE at w
  cases em : δ[mi]? with
  | none => rw [em] at w; exact w.elim
  | some q =>
    cases q with
    | none => rw [em] at w; exact w.elim
    | some q =>
      cases q with
      | mem cs =>
        rw [em] at w
        simp only at w
        have hmi := (List.getElem?_eq_some_iff.mp em).1
        have em' : (δ ++ [some (S.own xs)])[mi]? = some (some (.mem cs)) := by rw [List.getElem?_append_left hmi]; exact em
        have hp : ∀ (x : Option S) (cs' : List (List D)) (i : Nat), i < (δ.set mi (some (.mem cs'))).length → (((δ ++ [some (S.own xs)]).set mi (some (.mem cs'))).set δ.length x)[i]? = (δ.set mi (some (.mem cs')))[i]? := fun x cs' i hi => by
          rw [List.length_set] at hi
          rw [List.getElem?_set_ne (by omega)]
          by_cases e : mi = i
          · subst e
            rw [List.getElem?_set_self (by simp; omega), List.getElem?_set_self hmi]
          · rw [List.getElem?_set_ne e, List.getElem?_set_ne e, List.getElem?_append_left hi]
        have hz : ∀ (cs' : List (List D)) (s : S), (δ.set mi (some (.mem cs')))[σ.length]? = some (some s) → s.isMem = true := fun cs' s h => by
          rcases get_set_of h with ⟨_, z⟩ | ⟨ne, h'⟩
          · cases z; rfl
          · cases hs : s.isMem with
            | true => rfl
            | false =>
              obtain ⟨w, ew, _⟩ := M.sl _ s h' hs
              rw [List.getElem?_eq_none (by omega)] at ew; cases ew
        unfold callEnd
        rw [em']
        simp only [ssOf, slotsIn, ndp]
        simp
        cases ef : fn [.own xs, .mem cs] with
        | none => rw [ef] at w; exact w.elim
        | some x =>
          rw [ef] at w
          cases x with
          | ok s δo =>
            simp only at w
            split at w
            · exact w.elim
            · rename_i a δ9 e9
              split at e9
              · rename_i cs' ec
                cases e9
                cases δo with
                | nil => simp at ec
                | cons a r =>
                  simp only [callFin, List.length_cons, List.length_nil, ec, putBack, Option.map_some]
                  exact fun F' H' s' M' v' hv' => w F' H' s' (M'.pre (by rw [List.length_set]; exact hl) (hz cs') (hp a cs')) v' (hv'.pre (hp a cs'))
              · cases e9
            · rename_i e9
              split at e9 <;> cases e9
          | err er δo =>
            simp only at w
            split at w
            · exact w.elim
            · rename_i e9
              split at e9 <;> cases e9
            · rename_i a δ9 e9
              split at e9
              · rename_i cs' ec
                cases e9
                cases δo with
                | nil => simp at ec
                | cons a r =>
                  simp only [callFin, List.length_cons, List.length_nil, ec, putBack, Option.map_some]
                  exact fun F' H' s' M' c dd hc => w F' H' s' (M'.pre (by rw [List.length_set]; exact hl) (hz cs') (hp a cs')) c dd hc
              · cases e9
      | _ => rw [em] at w; exact w.elim
def callT (n : Nat) (fn : Fn) (m : M R) : M R := bindM m fun r => fun δ => match r with
  | .own xs => if δ.length = n + 1 then callTE n fn xs δ else none
  | _ => none
section
variable {X : Cx} {E : WS} {e : Expr} {x : Str} {p pos : Pos} {fn : Fn}
theorem pr_callT {m : M R} {n : Nat} (hh : HasP X E x 1 1 [] [] [0] fn) (hN : X.N.length = n) (hg : Gl X x) (h : PE X e (tR (gx X) E m)) (hdb : (x == ("__debug__" : Str)) = false) (he : starEach [e] X.env = [(false, eval e X.env)]) :
    PE X (.Call (.Name x p) [e] [] pos) (tR (gx X) E (callT n fn m)) := by
  obtain ⟨⟨f, fd, ps, k, dvs, ds, Fo, hps, hr, hm, hk, rd, rdd, hb⟩, hsl, hx, hgd⟩ := hh
  have hpa := pa_cons h (pa_nil (X := X)) he
  refine ⟨fun pins s σ H Q I ⟨O, F, δ, M, w⟩ => ?_⟩
  refine wpAny_Call_Name_kw (ld_glob I hg hm ?_ hdb)
  refine PySem.W.callWith_K (h₀ := X.base) I.ok.mod.kin hk (thn (hpa.run pos pins s σ H (fun vs H1 => ∃ v, vs = [v] ∧ spOf (gx X) 1 fn vs H1 Q (E σ)) I ?_) fun us s1 ⟨vs, H1, I1, r, v, ev, q⟩ => ⟨I1.kIn, ?_⟩) he rfl
  · refine ⟨O, F, δ, M, wp_mono (wp_bind w) fun F1 H1 δ1 r s1 M1 w1 v hv => ?_⟩
    cases r with
    | own xs =>
      by_cases hd : δ1.length = n + 1
      · have w2 : wp (gx X) O F1 σ δ1 (callTE n fn xs) (fun F' H' δ' r => ∀ v, RpR (gx X) O F' H' σ δ' v r → Q v H') (eE (gx X) (E σ)) := by
          unfold wp at w1 ⊢
          simp only [if_pos hd] at w1
          exact w1
        exact ⟨v, rfl, spT M1 (by rw [I.len, hN, hd]) hv w2⟩
      · unfold wp at w1
        simp only [if_neg hd] at w1
    | _ => exact w1.elim
  · subst ev
    obtain ⟨u, rfl, ru⟩ := vals1 r
    have rfull : Vals [v] [u] := .cons ru .nil
    have hbb := hb s1 [u] [] I1.kIn rfl rfl
    refine wpAny_call (codeAny_mono (Fo.go X.A X.stack s1 H1 ⟨[u], []⟩ _ _ Q (E σ) hr hgd I1.env0 hbb rfull q) fun r s' hq => ?_)
    cases r with
    | error e => exact hx σ pins H1 s1 e s' I1 hq
    | ok fl =>
      cases fl with
      | ret u => exact I1.after hq
      | next => exact False.elim hq
      | brk => exact False.elim hq
      | cont => exact False.elim hq
end
end Ev

set_option Elab.async false
set_option linter.all false
set_option maxRecDepth 100000
namespace Ev
open PySem PySem.Spec PyProof.Rows L2
/-! ### methods of texts -/
def methS (f : Str → List D → Option S) (mo : M R) (ms : List (M R)) : M R := bindM (opdM mo) fun x => fun δ => match x.val δ with
  | some (.str a) => bindM (opsM ms) (fun os => fun δ => match vals δ os with
    | some ds => liftOp (f a ds) δ
    | none => none) δ
  | _ => none
def SM (g : Gx) (r : V → List V → Hp → VK → Prop) (f : Str → List D → Option S) : Prop := ∀ (O F H : Hp) (a : Str) (vs : List V) (ds : List D) (s : S) (Q : VK), Fit F H → BwA g O F H vs ds → f a ds = some s →
  (∀ F' H' v, Grow F H F' H' → RpN g H F' H' v s → Q v H') → r (.str a) vs H Q
theorem t_methS {g : Gx} {K : PySem.W.Frag} {E : WS} {σ : L2.St} {H : Hp} {Q : VK} {r : V → List V → Hp → VK → Prop} {f : Str → List D → Option S} {mo : M R} {ms : List (M R)} (h : SM g r f) (w : tR g E (methS f mo ms) σ H Q) : tBM K "str" r (tO g E (opdM mo)) (tOs g E (opsM ms)) σ H Q := by
  obtain ⟨O, F, δ, M, w⟩ := w
  refine ⟨O, F, δ, M, wp_mono (wp_bind w) fun F1 H1 δ1 x s1 M1 w1 v hv => ?_⟩
  unfold wp at w1
  simp only at w1
  cases ex : x.val δ1 with
  | none => rw [ex] at w1; exact w1.elim
  | some d =>
    cases d with
    | str a =>
      rw [ex] at w1
      have := (M1.bw hv ex).str
      subst this
      have w2 : wp g O F1 σ δ1 (bindM (opsM ms) (fun os => fun δ => match vals δ os with
        | some ds => liftOp (f a ds) δ
        | none => none)) (fun F' H' δ' r => ∀ v, RpR g O F' H' σ δ' v r → Q v H') (eE g (E σ)) := w1
      refine ⟨rfl, O, F1, δ1, M1, wp_mono (wp_bind w2) fun F2 H2 δ2 os s2 M2 w3 vs hvs => ?_⟩
      unfold wp at w3
      simp only at w3
      cases ey : vals δ2 os with
      | none => rw [ey] at w3; exact w3.elim
      | some ds =>
        rw [ey] at w3
        simp only [liftOp] at w3
        cases ef : f a ds with
        | none => rw [ef] at w3; exact w3.elim
        | some s =>
          rw [ef] at w3
          simp only [Option.map_some] at w3
          exact h O F2 H2 a vs ds s Q M2.fh (M2.bws hvs ey) ef fun F' H' v k n => w3 F' H' k.ff (M2.grow k) v (M2.new k n)
    | _ => rw [ex] at w1; exact w1.elim
def strsOf : List D → Option (List Str)
  | [] => some []
  | .str a :: r => (strsOf r).map (a :: ·)
  | _ => none
theorem RpA.strs {g : Gx} {F : Hp} : ∀ {vs : List V} {ds : List D} {ys : List Str}, RpA g F vs ds → strsOf ds = some ys → vs = ys.map V.str
  | _, _, _, .nil, e => by cases e; rfl
  | _, _, _, .cons (d := d) a b, e => by
    cases d with
    | str x =>
      simp only [strsOf, Option.map_eq_some_iff] at e
      obtain ⟨zs, e1, rfl⟩ := e
      cases a
      rw [b.strs e1]; rfl
    | _ => cases e
theorem strsA {g : Gx} {F : Hp} : ∀ ys : List Str, RpA g F (ys.map V.str) (ys.map D.str)
  | [] => .nil
  | y :: r => .cons (.str y) (strsA r)
section
variable {g : Gx}
def splitF (a : Str) : List D → Option S
  | [.str b] => if (b.length == 0) = false ∧ a.length + 2 ≤ sizeLine then some (.own ((Txt.split a b).map D.str)) else none
  | _ => none
theorem sm_split : SM g (fun x xs H Q => ∃ a b, x = .str a ∧ xs = [.str b] ∧ (b.length == 0) = false ∧ a.length + 2 ≤ sizeLine ∧ rNewStrs (Txt.split a b) H Q) splitF := by
  intro O F H a vs ds s Q fh b ef q
  unfold splitF at ef
  split at ef
  · split at ef
    · rename_i hc
      cases ef
      obtain ⟨v, rfl, b1⟩ := b.one
      have := b1.str; subst this
      exact ⟨_, _, rfl, rfl, hc.1, hc.2, fun p hp => q _ _ _ (grow_lst fh hp) (new_own fh hp (strsA _))⟩
    · cases ef
  · cases ef
def joinF (a : Str) : List D → Option S
  | [d] => match d.seqT with
    | some xs => match strsOf xs with
      | some ys => if (ys.map (·.length)).sum + ys.length * a.length ≤ 16777216 then some (.d (.str (Txt.join a ys))) else none
      | none => none
    | none => none
  | _ => none
theorem sm_join : SM g (fun x xs H Q => ∃ a p, ∃ ys : List Str, x = .str a ∧ xs = [.ref p] ∧ (SqL g.K H p (ys.map V.str) ∨ SqT g.K H p (ys.map V.str)) ∧
    (ys.map (·.length)).sum + ys.length * a.length ≤ 16777216 ∧ Q (.str (Txt.join a ys)) H) joinF := by
  intro O F H a vs ds s Q fh b ef q
  unfold joinF at ef
  split at ef
  · split at ef
    · rename_i xs ex
      split at ef
      · rename_i ys ey
        split at ef
        · rename_i hc
          cases ef
          obtain ⟨v, rfl, b1⟩ := b.one
          obtain ⟨p, ws, rfl, h1, r⟩ := b1.seqT ex fh
          have := r.strs ey
          subst this
          exact ⟨a, p, ys, rfl, rfl, h1, hc, q F H _ (Grow.refl fh) (.str _)⟩
        · cases ef
      · cases ef
    · cases ef
  · cases ef
def str1F (C : Str → Bool) (f : Str → Str → Str) (a : Str) : List D → Option S
  | [.str b] => if C a then some (.d (.str (f a b))) else none
  | _ => none
theorem sm_str1 {f : Str → Str → Str} : SM g (fun x xs H Q => ∃ a b, x = .str a ∧ xs = [.str b] ∧ a.length ≤ sizeLine ∧ Q (.str (f a b)) H) (str1F (fun a => decide (a.length ≤ sizeLine)) f) := by
  intro O F H a vs ds s Q fh b ef q
  unfold str1F at ef
  split at ef
  · split at ef
    · rename_i hc
      cases ef
      obtain ⟨v, rfl, b1⟩ := b.one
      have := b1.str; subst this
      exact ⟨_, _, rfl, rfl, of_decide_eq_true hc, q F H _ (Grow.refl fh) (.str _)⟩
    · cases ef
  · cases ef
def bool0F (f : Str → Bool) (a : Str) : List D → Option S
  | [] => some (.d (.bl (f a)))
  | _ => none
theorem sm_bool0 {f : Str → Bool} : SM g (fun x xs H Q => ∃ a, x = .str a ∧ xs = [] ∧ True ∧ Q (.bl (f a)) H) (bool0F f) := by
  intro O F H a vs ds s Q fh b ef q
  unfold bool0F at ef
  split at ef
  · cases ef
    cases b
    exact ⟨_, rfl, rfl, trivial, q F H _ (Grow.refl fh) (.bl _)⟩
  · cases ef
def zfillF (a : Str) : List D → Option S
  | [.int i] => if PadOk i = true then some (.d (.str (Txt.zfill a i))) else none
  | _ => none
theorem sm_zfill : SM g (fun x xs H Q => ∃ (a : Str) (i : Int), x = .str a ∧ xs = [.int i] ∧ PadOk i = true ∧ Q (.str (Txt.zfill a i)) H) zfillF := by
  intro O F H a vs ds s Q fh b ef q
  unfold zfillF at ef
  split at ef
  · split at ef
    · rename_i hc
      cases ef
      obtain ⟨v, rfl, b1⟩ := b.one
      have := b1.int; subst this
      exact ⟨_, _, rfl, rfl, hc, q F H _ (Grow.refl fh) (.str _)⟩
    · cases ef
  · cases ef
def partF (a : Str) : List D → Option S
  | [.str b] => if (b.length == 0) = false ∧ a.length ≤ sizeLine then some (.d (.tup [.str (Txt.partition a b).1, .str (Txt.partition a b).2.1, .str (Txt.partition a b).2.2])) else none
  | _ => none
theorem sm_part : SM g (fun x xs H Q => ∃ a b, x = .str a ∧ xs = [.str b] ∧ (b.length == 0) = false ∧ a.length ≤ sizeLine ∧
    ∀ p, H p = none → Q (.ref p) (upd H p (.tup [.str (Txt.partition a b).1, .str (Txt.partition a b).2.1, .str (Txt.partition a b).2.2]))) partF := by
  intro O F H a vs ds s Q fh b ef q
  unfold partF at ef
  split at ef
  · split at ef
    · rename_i hc
      cases ef
      obtain ⟨v, rfl, b1⟩ := b.one
      have := b1.str; subst this
      exact ⟨_, _, rfl, rfl, hc.1, hc.2, fun p hp => q _ _ _ (grow_tup fh hp) (new_tup fh hp (.cons (.str _) (.cons (.str _) (.cons (.str _) .nil))))⟩
    · cases ef
  · cases ef
end
structure SMeth where
  name : Str
  id : String
  f : Str → List D → Option S
  slot : Slot "str" name id
  ty : typeOf (.builtin id) = pure (.type "method_descriptor")
  ok : ∀ X : Cx, ∃ r, MtR X id r ∧ SM (gx X) r f
def smeths : List SMeth := [
  ⟨"split", "str.split", splitF, PySem.F.slot_str_split, PySem.F.type_str_split, fun X => ⟨_, mt_split, sm_split⟩⟩,
  ⟨"join", "str.join", joinF, PySem.F.slot_str_join, PySem.F.type_str_join, fun X => ⟨_, mt_join, sm_join⟩⟩,
  ⟨"strip", "str.strip", str1F (fun a => decide (a.length ≤ sizeLine)) Txt.stripChars, PySem.F.slot_str_strip, PySem.F.type_str_strip, fun X => ⟨_, mt_stripChars, sm_str1⟩⟩,
  ⟨"removeprefix", "str.removeprefix", str1F (fun a => decide (a.length ≤ sizeLine)) Txt.removeprefix, PySem.F.slot_str_removeprefix, PySem.F.type_str_removeprefix, fun X => ⟨_, mt_removeprefix, sm_str1⟩⟩,
  ⟨"isdigit", "str.isdigit", bool0F Txt.isdigit, PySem.F.slot_str_isdigit, PySem.F.type_str_isdigit, fun X => ⟨_, mt_isdigit, sm_bool0⟩⟩,
  ⟨"isascii", "str.isascii", bool0F Txt.isascii, PySem.F.slot_str_isascii, PySem.F.type_str_isascii, fun X => ⟨_, mt_isascii, sm_bool0⟩⟩,
  ⟨"zfill", "str.zfill", zfillF, PySem.F.slot_str_zfill, PySem.F.type_str_zfill, fun X => ⟨_, mt_zfill, sm_zfill⟩⟩,
  ⟨"partition", "str.partition", partF, PySem.F.slot_str_partition, PySem.F.type_str_partition, fun X => ⟨_, mt_partition, sm_part⟩⟩]
def findSM (x : Str) : List SMeth → Option SMeth
  | [] => none
  | b :: r => if b.name = x then some b else findSM x r
theorem findSM_x {x : Str} : ∀ {l : List SMeth} {b : SMeth}, findSM x l = some b → b.name = x
  | [], _, h => by cases h
  | g :: r, f, h => by
    simp only [findSM] at h
    split at h
    · cases h; assumption
    · exact findSM_x h
theorem t_methS0 {g : Gx} {K : PySem.W.Frag} {E : WS} {σ : L2.St} {H : Hp} {Q : VK} {r : V → List V → Hp → VK → Prop} {f : Str → List D → Option S} {mo : M R} (h : SM g r f) (w : tR g E (methS f mo []) σ H Q) : tBM0 K "str" r (tO g E (opdM mo)) σ H Q := by
  obtain ⟨O, F, δ, M, q⟩ := t_methS (K := K) h w
  refine ⟨O, F, δ, M, wp_mono q fun F' H' δ' o s M' z v hv => ?_⟩
  obtain ⟨a, b⟩ := z v hv
  refine ⟨a, ?_⟩
  obtain ⟨O2, F2, δ2, M2, q2⟩ := b
  exact q2 F2 H' (Same.refl _) M2 [] .nil
end Ev

set_option Elab.async false
set_option linter.all false
set_option maxRecDepth 100000
namespace Ev
open PySem PySem.Spec PyProof.Rows L2
/-! ### xs[::-1] of lists -/
def revLD : D → Option S
  | .lst xs => some (.own xs.reverse)
  | .scr xs => some (.own xs.reverse)
  | _ => none
theorem o1_rev {g : Gx} : O1 g (fun x H Q => ∃ a xs, x = .ref a ∧ SqL g.K H a xs ∧ ∀ p, H p = none → Q (.ref p) (upd H p (.lst xs.reverse))) revLD := by
  intro O F H x d s Q fh b ef q
  unfold revLD at ef
  split at ef
  · cases ef
    obtain ⟨a, vs, rfl, h1, r⟩ := b.list fh
    exact ⟨a, vs, rfl, .inl (.inl h1), fun p hp => q _ _ _ (grow_lst fh hp) (new_own fh hp r.rev)⟩
  · cases ef
    obtain ⟨a, vs, rfl, h1, r⟩ := b.scr fh
    exact ⟨a, vs, rfl, h1, fun p hp => q _ _ _ (grow_lst fh hp) (new_own fh hp r.rev)⟩
  · cases ef
theorem pr_rev {X : Cx} {E : WS} {e : Expr} {m : M R} {k : Nat} {p1 p2 p3 pos : Pos} (h : PE X e (tR (gx X) E m)) : PE X (.Subscript e (.Slice none none (some (.UnaryOp .USub (.Constant (.int 1) k p1) p2)) p3) pos) (tR (gx X) E (op1 revLD m)) :=
  (pe_revL (pr_opd h)).imp fun σ H Q w => t_op1 o1_rev w
end Ev

set_option Elab.async false
set_option linter.all false
set_option maxRecDepth 100000
namespace Ev
open PySem PySem.Spec PyProof.Rows L2

/-! ### repr of data -/
def intSmall : PyData → Bool
  | .int i => decide (i.natAbs.log2 < 1920)
  | _ => true
def reprP (p : PyData) : Bool := intSmall p && p.showable && !p.hasDict && decide (p.depth ≤ 60) && decide (p.shown.length ≤ sizeLine)
def reprD : List D → Option S
  | [d] => match d.pd with
    | some p => if reprP p then some (.d (.str p.shown)) else none
    | none => none
  | _ => none
def rRepr (K : PySem.W.Frag) : List V → Hp → VK → Prop := fun xs H Q => ∃ x p, xs = [x] ∧ Dp K H x p ∧ reprP p = true ∧ Q (.str p.shown) H
theorem call_reprD {X : Cx} (hg : X.A.guards = some []) (hu : X.A.units + 64 < cLine) : CallR X (.builtin "repr") (rRepr X.K) := by
  intro pins s σ H xs us Q I r h
  obtain ⟨x, p, rfl, dp, ok, q⟩ := h
  obtain ⟨u, rfl, ru⟩ := vals1 r
  simp only [reprP, Bool.and_eq_true, decide_eq_true_eq, Bool.not_eq_true'] at ok
  obtain ⟨⟨⟨⟨o0, o1⟩, o2⟩, o3⟩, o4⟩ := ok
  have fin : ∀ (t : Tok) (s' : Shared), Inv X pins σ H s' → EP X pins σ Q (.str p.shown t) s' := fun t s' I' => ⟨.str p.shown, H, I', ⟨t, rfl⟩, q⟩
  have big : ∀ (a : Addr) (as : List Addr), Reads s.heap (.ref a) p as → wpAny (model X.prog X.w) X.A (call (.builtin "repr") [.ref a]) (EP X pins σ Q) X.xe s := fun a as rd =>
    repr_of_reads' rd o1 (fun z => by rw [o2] at z; cases z) hg (by omega) (fun b o e => e) (fun h' u tk k => fin u _ (I.kept (t' := tk) k)) o4
  obtain ⟨as, rd⟩ := dp.reads I p x u ru
  cases dp with
  | non => cases ru; exact PySem.P.repr_of_none (fin _ _ (I.tok _))
  | bl b => cases ru; exact PySem.P.repr_of_bool (fin _ _ (I.tok _))
  | int i => obtain ⟨t, rfl⟩ := ru; exact PySem.P.repr_of_int (of_decide_eq_true o0) (fin _ _ (I.tok _))
  | str z => obtain ⟨t, rfl⟩ := ru; exact PySem.P.repr_of_str (fin _ _ (I.tok _)) o4
  | lst _ _ => cases ru; exact big _ _ rd
  | tup _ _ => cases ru; exact big _ _ rd
theorem on_repr {g : Gx} : ON g (rRepr g.K) reprD := by
  intro O F H vs ds s Q fh b ef q
  unfold reprD at ef
  split at ef
  · split at ef
    · rename_i p hp
      split at ef
      · rename_i ok
        cases ef
        obtain ⟨v, rfl, b1⟩ := b.one
        exact ⟨v, p, rfl, b1.dp fh hp, ok, q F H _ (Grow.refl fh) (.str _)⟩
      · cases ef
    · cases ef
  · cases ef
end Ev

set_option Elab.async false
set_option linter.all false
set_option maxRecDepth 100000
namespace Ev
open PySem PySem.Spec PyProof.Rows L2

/-! ### {k: e, ..}, the keys written as texts -/
theorem Ms.unO {g : Gx} {O F H : Hp} {σ : L2.St} {δ : Dl} {p : Addr} {o : HO} (M : Ms g (upd O p o) F H σ δ) (hO : O p = none) : Ms g O F H σ δ := by
  have fp : F p = none := (M.dj p).resolve_right (by rw [upd_same]; exact fun z => nomatch z)
  refine ⟨M.fh, fun b x e => M.oh _ _ (by rw [upd_ne (fun z => by subst z; rw [hO] at e; cases e)]; exact e), fun b => ?_, fun i t h hm => ?_, M.ap, fun i cs h => ?_, M.m1⟩
  · by_cases hb : b = p
    · subst hb; exact .inr hO
    · have := M.dj b
      rw [upd_ne hb] at this; exact this
  · obtain ⟨v, ev, r⟩ := M.sl i t h hm
    exact ⟨v, ev, r.unout hO⟩
  · have c := M.mm i cs h
    refine ⟨fun d n q => ?_, c.all, c.one⟩
    obtain ⟨xs, us, h1, h2, h3, h4⟩ := c.at_ d n q
    exact ⟨xs, us, h1, h2, h3, by rw [upd_ne (fun z => by subst z; rw [fp] at q; cases q)] at h4; exact h4⟩
def dispM (ks : List Str) (ms : List (M D)) : M R := bindM (seqD ms) fun xs => retM (.od (ks.map Sum.inr) xs)
where
  seqD : List (M D) → M (List D)
    | [] => retM []
    | m :: ms => bindM m fun x => bindM (seqD ms) fun xs => retM (x :: xs)
theorem t_pairs {g : Gx} {E : WS} {σ : L2.St} {p : Addr} {o : HO} {O : Hp} (hO : O p = none) : ∀ {ks : List Str} {ms : List (M D)} {trs : List (TE × TE)}, Paired (fun (q : Str × M D) (t : TE × TE) => t = (tC (.str q.1), tD g E q.2)) (ks.zip ms) trs → ks.length = ms.length →
    ∀ {F H : Hp} {δ : Dl} {K : List (V × V) → Hp → Prop}, Ms g (upd O p o) F H σ δ →
    wp g O F σ δ (dispM.seqD ms) (fun _ _ _ _ => True) (eE g (E σ)) →
    (∀ F' H' δ' xs vs, dispM.seqD ms δ = some (.ok xs δ') → Same F F' → Ms g (upd O p o) F' H' σ δ' → RpA g F' vs xs → K ((ks.map V.str).zip vs) H') → tPairs trs σ H K
  | [], [], _, .nil, _, F, H, δ, K, M, _, k => k F H δ [] [] rfl (Same.refl _) M .nil
  | k0 :: ks, m :: ms, _, .cons e r, hl, F, H, δ, K, M, w, k => by
    subst e
    show tPairs ((tC (.str k0), tD g E m) :: _) σ H K
    refine ⟨upd O p o, F, δ, M, ?_⟩
    simp only [dispM.seqD] at w k
    unfold wp at w ⊢
    cases em : m δ with
    | none => simp only [bindM, em] at w
    | some res =>
      cases res with
      | err x δ1 =>
        simp only [bindM, em] at w
        exact fun F1 H1 s1 M1 => w F1 H1 s1 (M1.unO hO)
      | ok x δ1 =>
        intro F1 H1 s1 M1 v hv
        refine t_pairs hO r (by simpa using hl) M1 ?_ fun F2 H2 δ2 xs vs e2 s2 M2 r2 => ?_
        · unfold wp
          cases em2 : dispM.seqD ms δ1 with
          | none => simp only [bindM, em, em2] at w
          | some res2 =>
            cases res2 with
            | err x δ2 =>
              simp only [bindM, em, em2] at w
              exact fun F2 H2 s2 M2 => w F2 H2 (s1.trans s2) M2
            | ok xs δ2 => exact fun _ _ _ _ => trivial
        · exact k F2 H2 δ2 (x :: xs) (v :: vs) (by simp only [bindM, em, e2]; rfl) (s1.trans s2) M2 (.cons (Rp.mono s2 _ _ hv) r2)
theorem seqD_len : ∀ {ms : List (M D)} {δ δ' : Dl} {xs : List D}, dispM.seqD ms δ = some (.ok xs δ') → xs.length = ms.length
  | [], _, _, _, h => by cases h; rfl
  | m :: ms, _, _, _, h => by
    simp only [dispM.seqD] at h
    obtain ⟨x, d1, _, h⟩ := bind_ok h
    obtain ⟨xs, d2, h2, h⟩ := bind_ok h
    cases h
    rw [List.length_cons, List.length_cons, seqD_len h2]
theorem putK_snoc {κ : Type} [DecidableEq κ] {kvs : List (κ × V)} {k : κ} {v : V} (h : k ∉ kvs.map (·.1)) : putK kvs k v = kvs ++ [(k, v)] := by
  refine putK_new v ?_
  cases e : valV kvs k with
  | none => rfl
  | some x => exact absurd (valV_in e) h
theorem merge_fresh : ∀ {more kvs : List (Key × V)}, ((kvs ++ more).map (·.1)).Nodup → mergeK kvs more = kvs ++ more
  | [], kvs, _ => by show kvs = _; rw [List.append_nil]
  | p :: r, kvs, h => by
    show mergeK (putK kvs p.1 p.2) r = _
    have h1 : p.1 ∉ kvs.map (·.1) := by
      rw [List.map_append, List.nodup_append] at h
      intro z
      exact h.2.2 _ z _ (by simp) rfl
    rw [putK_snoc h1, merge_fresh (by simpa using h)]
    simp
theorem zip_kv : ∀ {ks : List Str} {vs : List V}, vs.length = ks.length → (ks.map V.str).zip vs = ((ks.map Sum.inr : List Key).zip vs).map fun kv : Key × V => (kV kv.1, kv.2)
  | [], _, _ => by simp
  | _ :: _, [], h => by cases h
  | a :: r, b :: t, h => by
    simp only [List.map_cons, List.zip_cons_cons]
    rw [zip_kv (by simpa using h)]; rfl
section
variable {X : Cx} {E : WS} {pos : Pos}
theorem pr_disp {keys : List (Option Expr)} {values : List Expr} {ks : List Str} {ms : List (M D)} {trs : List (TE × TE)} (h : PPs X pos keys values trs) (ht : Paired (fun (q : Str × M D) (t : TE × TE) => t = (tC (.str q.1), tD (gx X) E q.2)) (ks.zip ms) trs)
    (hall : keys.all (·.isSome) = true) (hl : keys.length = values.length) (h0 : keys ≠ []) (h15 : keys.length ≤ 15) (lk : ks.length = ms.length) (lk2 : ks.length = keys.length) (nd : ks.Nodup) : PE X (.Dict keys values pos) (tR (gx X) E (dispM ks ms)) := by
  refine (pe_disp h hall hl h0 h15).imp fun σ H Q ⟨O, F, δ, M, w⟩ p hp => ?_
  have hO := M.oh.free hp
  unfold wp dispM at w
  refine t_pairs (o := .dK []) hO ht lk (M.out hp _ rfl) ?_ fun F2 H2 δ2 xs vs e2 s2 M2 r2 => ?_
  · unfold wp
    cases em : dispM.seqD ms δ with
    | none => simp only [bindM, em] at w
    | some res =>
      cases res with
      | err x δ1 => simp only [bindM, em] at w; exact w
      | ok xs δ1 => exact fun _ _ _ _ => trivial
  · have lv : vs.length = ks.length := by rw [r2.length, seqD_len e2, lk]
    let kvs : List (Key × V) := (ks.map Sum.inr).zip vs
    have e1 : kvs.map (·.1) = ks.map Sum.inr := by
      show ((ks.map Sum.inr : List Key).zip vs).map (fun q : Key × V => q.1) = _
      rw [List.map_fst_zip]; simp [lv]
    have e3 : kvs.map (·.2) = vs := by
      show ((ks.map Sum.inr : List Key).zip vs).map (fun q : Key × V => q.2) = _
      rw [List.map_snd_zip]; simp [lv]
    have ndk : ((([] : List (Key × V)) ++ kvs).map (fun q : Key × V => q.1)).Nodup := by
      rw [List.nil_append, e1]
      exact List.Pairwise.map _ (fun a b h z => h (Sum.inr.inj z)) nd
    refine ⟨M2.oh _ _ upd_same, kvs, ?_, ?_, ?_⟩
    · show (ks.map V.str).zip vs = ((ks.map Sum.inr : List Key).zip vs).map fun kv : Key × V => (kV kv.1, kv.2)
      exact zip_kv lv
    · have := congrArg List.length e3
      rw [List.length_map] at this
      omega
    · have em : mergeK [] kvs = kvs := by rw [merge_fresh ndk]; rfl
      rw [em]
      simp only [bindM, e2, retM] at w
      have fp : F2 p = none := (M2.dj p).resolve_right (by rw [upd_same]; exact fun z => nomatch z)
      have M3 := (M2.reout (o' := .dK kvs) hO).unO hO
      refine w F2 _ s2 M3 (.ref p) ⟨⟨p, _, rfl, upd_same, ⟨kvs, rfl, e1, by rw [e3]; exact r2⟩, fp, hO⟩, fun i t hi ht hs => ?_⟩
      obtain ⟨u, eu, q, us, rfl, f1, f2, f3, f4⟩ := M2.sw hi ht
      rw [hs] at eu; cases eu
      rw [upd_same] at f4; cases f4
/-- {} -/
theorem pr_disp0 : PE X (.Dict [] [] pos) (tR (gx X) E (retM (.od [] []))) := by
  refine pe_dnewK.imp fun σ H Q ⟨O, F, δ, M, w⟩ p hp => ?_
  have k := grow_obj (o := .dK []) M.fh hp
  exact w F _ k.ff (M.grow k) _ (M.new (s := .od [] []) k ⟨p, _, rfl, hp, upd_same, ⟨[], rfl, rfl, .nil⟩, M.fh.free hp⟩)
end
end Ev

set_option Elab.async false
set_option linter.all false
set_option maxRecDepth 100000
namespace Ev
open PySem PySem.Spec PyProof.Rows L2

/-! ### a dict that a name holds alone, changed in its place -/
def putKs (k : Key) (ks : List Key) : List Key := if ks.any (fun j => decide (j = k)) then ks else ks ++ [k]
def putVs (k : Key) (d : D) (ks : List Key) (vs : List D) : List D := if ks.any (fun j => decide (j = k)) then (ks.zip vs).map (fun p => if p.1 = k then d else p.2) else vs ++ [d]
theorem any_fst {k : Key} : ∀ (kvs : List (Key × V)), (kvs.map (fun q : Key × V => q.1)).any (fun j => decide (j = k)) = kvs.any (fun kv => decide (kv.1 = k))
  | [] => rfl
  | p :: r => by rw [List.map_cons, List.any_cons, List.any_cons, any_fst r]
theorem put_map {g : Gx} {F : Hp} {k : Key} {v : V} {d : D} (rv : Rp g F v d) : ∀ {kvs : List (Key × V)} {vs : List D}, RpA g F (kvs.map (fun q : Key × V => q.2)) vs →
    (kvs.map fun kv => if kv.1 = k then (kv.1, v) else kv).map (fun q : Key × V => q.1) = kvs.map (fun q : Key × V => q.1) ∧ RpA g F ((kvs.map fun kv => if kv.1 = k then (kv.1, v) else kv).map (fun q : Key × V => q.2)) (((kvs.map (fun q : Key × V => q.1)).zip vs).map (fun p => if p.1 = k then d else p.2))
  | [], _, r => by cases r; exact ⟨rfl, .nil⟩
  | p :: kvs, _, r => by
    rw [List.map_cons] at r
    cases r with
    | cons a b =>
      obtain ⟨h1, h2⟩ := put_map rv b
      simp only [List.map_cons, List.zip_cons_cons]
      rw [h1]
      by_cases e : p.1 = k
      · simp only [if_pos e]; exact ⟨trivial, .cons rv h2⟩
      · simp only [if_neg e]; exact ⟨trivial, .cons a h2⟩
theorem put_rp {g : Gx} {F : Hp} {k : Key} {v : V} {d : D} {kvs : List (Key × V)} {ks : List Key} {vs : List D} (rv : Rp g F v d) (e : kvs.map (fun q : Key × V => q.1) = ks) (r : RpA g F (kvs.map (fun q : Key × V => q.2)) vs) :
    (putK kvs k v).map (fun q : Key × V => q.1) = putKs k ks ∧ RpA g F ((putK kvs k v).map (fun q : Key × V => q.2)) (putVs k d ks vs) := by
  subst e
  unfold putK putKs putVs
  rw [any_fst]
  by_cases h : (kvs.any fun kv => decide (kv.1 = k)) = true
  · rw [if_pos h, if_pos h, if_pos h]; exact put_map rv r
  · rw [if_neg h, if_neg h, if_neg h, List.map_append, List.map_append]
    exact ⟨rfl, r.append (.cons rv .nil)⟩
def mergeD : List Key → List D → List Key → List D → List Key × List D
  | ks, vs, k :: k2, d :: v2 => mergeD (putKs k ks) (putVs k d ks vs) k2 v2
  | ks, vs, _, _ => (ks, vs)
theorem merge_rp {g : Gx} {F : Hp} : ∀ {more kvs : List (Key × V)} {ks : List Key} {vs v2 : List D}, kvs.map (fun q : Key × V => q.1) = ks → RpA g F (kvs.map (fun q : Key × V => q.2)) vs → RpA g F (more.map (fun q : Key × V => q.2)) v2 →
    (mergeK kvs more).map (fun q : Key × V => q.1) = (mergeD ks vs (more.map (fun q : Key × V => q.1)) v2).1 ∧ RpA g F ((mergeK kvs more).map (fun q : Key × V => q.2)) (mergeD ks vs (more.map (fun q : Key × V => q.1)) v2).2
  | [], _, _, _, _, e, r, r2 => by cases r2; exact ⟨e, r⟩
  | p :: more, kvs, ks, vs, _, e, r, r2 => by
    rw [List.map_cons] at r2
    cases r2 with
    | cons a b =>
      obtain ⟨h1, h2⟩ := put_rp (k := p.1) a e r
      exact merge_rp (more := more) (kvs := putK kvs p.1 p.2) h1 h2 b
def rDUpd : V → List V → Hp → VK → Prop := fun x xs H Q => ∃ (a b : Addr) (kvs more : List (Key × V)), x = .ref a ∧ xs = [.ref b] ∧ a ≠ b ∧ H a = some (.dK kvs) ∧ H b = some (.dK more) ∧ kvs.length + more.length ≤ sizeLine ∧ Q .non (upd H a (.dK (mergeK kvs more)))
theorem mt_dupd {X : Cx} : MtR X "dict.update" rDUpd := by
  intro pins s σ H x vs v us Q I rx rv h
  obtain ⟨a, b, kvs, more, rfl, rfl, ne, ha, hb, hz, q⟩ := h
  cases rx
  obtain ⟨u, rfl, ru⟩ := vals1 rv
  cases ru
  obtain ⟨z1, d1, ws, r1, D1⟩ := dk_of I.hok ha
  obtain ⟨z2, d2, xs, r2, D2⟩ := dk_of I.hok hb
  refine call_meetsIn PySem.F.slot_dict_update D1.typeIs PySem.F.entry_dict_update (PySem.F.args_dict_update_2 _ _) (meets_dict_update (mixKind X.prog X.w) a b ne d2)
    ⟨ws, xs, D1, D2, by rw [← r1.length, ← r2.length]; exact hz, fun h' hm _ hs => ?_⟩
  have len : (mergeK kvs more).length ≤ sizeLine := Nat.le_trans (length_mergeK more kvs) hz
  have he : ∃ q, h'.get? a = some q := by obtain ⟨o, _, _, e, _⟩ := hm; exact ⟨o, e⟩
  exact ⟨.non, _, d_write (t' := s.toks) I (by rw [ha]; exact True.intro) hs he (dk_new len d1 (r2.merge r1) hm), rfl, q⟩
def odM (j : Nat) : M Unit := fun δ => match δ[j]? with
  | some (some (.od _ _)) => some (.ok () δ)
  | _ => none
def updM (j : Nat) (m : M R) : M R := bindM (opdM (slotM j)) fun _ => bindM (odM j) fun _ => bindM m fun r => fun δ => match δ[j]?, r with
  | some (some (.od ks vs)), .od k2 v2 => if ks.length + k2.length ≤ sizeLine then some (.ok (.d .non) (δ.set j (some (.od (mergeD ks vs k2 v2).1 (mergeD ks vs k2 v2).2)))) else none
  | _, _ => none
section
variable {X : Cx} {E : WS}
theorem t_upd {j : Nat} {m : M R} (σ : L2.St) (H : Hp) (Q : VK) (w : tR (gx X) E (updM j m) σ H Q) : tBM X.K "dict" rDUpd (tO (gx X) E (opdM (slotM j))) (tCons (tR (gx X) E m) tNil) σ H Q := by
  obtain ⟨O, F, δ, M, w⟩ := w
  have w2 := wp_bind w
  refine ⟨O, F, δ, M, ?_⟩
  unfold wp at w2 ⊢
  cases eo : opdM (slotM j) δ with
  | none => rw [eo] at w2; exact w2.elim
  | some q =>
    rw [eo] at w2
    cases q with
    | err x δ2 => exact (opd_slot_err eo).elim
    | ok o δ2 =>
      obtain ⟨rfl, rfl⟩ := opd_slot eo
      intro F2 H2 s2 M2 u hu
      have hu' : σ[j]? = some (some u) := hu
      have w3 := wp_bind (w2 F2 H2 s2 M2)
      have own : ∃ ks vs, δ2[j]? = some (some (.od ks vs)) := by
        unfold wp odM at w3
        cases e : δ2[j]? with
        | none => rw [e] at w3; exact w3.elim
        | some s => cases s with
          | none => rw [e] at w3; exact w3.elim
          | some s => cases s with
            | od ks vs => exact ⟨ks, vs, rfl⟩
            | _ => rw [e] at w3; exact w3.elim
      obtain ⟨ks0, vs0, hown⟩ := own
      unfold wp odM at w3
      rw [hown] at w3
      obtain ⟨u1, eu1, a, o1, rfl, ea1, ⟨kv1, rfl, _⟩, _⟩ := M2.sw hown rfl
      rw [hu'] at eu1; cases eu1
      refine ⟨.inr (.inr (.inl ⟨rfl, .inl ⟨kv1, ea1⟩⟩)), ?_⟩
      have w5 := wp_bind (w3 F2 H2 (Same.refl _) M2)
      refine ⟨O, F2, δ2, M2, wp_mono w5 fun F3 H3 δ3 r s3 M3 w6 y hy => ?_⟩
      unfold wp at w6
      simp only at w6
      split at w6
      · exact w6.elim
      · rename_i r δ4 e4
        split at e4
        · rename_i ks vs k2 v2 e3
          split at e4
          · rename_i hz
            cases e4
            obtain ⟨u3, eu3, a3, o3, rfl, ea3, ⟨kvs, rfl, k1, r1⟩, f3, _⟩ := M3.sw e3 rfl
            rw [hu'] at eu3; cases eu3
            obtain ⟨⟨b, _, rfl, hb, ⟨more, rfl, k3, r3⟩, _⟩, ap⟩ := hy
            have ne : a ≠ b := fun z => by subst z; exact ap j _ e3 rfl hu'
            refine ⟨a, b, kvs, more, rfl, rfl, ne, ea3, hb, ?_, ?_⟩
            · have l1 := congrArg List.length k1
              have l2 := congrArg List.length k3
              rw [List.length_map] at l1 l2
              omega
            · obtain ⟨m1, m2⟩ := merge_rp (more := more) k1 r1 r3
              rw [k3] at m1 m2
              exact w6 F3 _ (Same.refl _) (M3.updS e3 rfl rfl hu' ⟨_, rfl, m1, m2⟩) .non .non
          · cases e4
        · cases e4
      · rename_i e4
        split at e4
        · split at e4 <;> cases e4
        · cases e4
end
/-! ### d[k] = e, x[i] = e -/
def rSetDk : V → V → V → Hp → (Hp → Prop) → Prop := fun o i v H Q => ∃ a kvs z, o = .ref a ∧ i = .str z ∧ H a = some (.dK kvs) ∧ kvs.length < sizeLine ∧ Q (upd H a (.dK (putK kvs (.inr z) v)))
theorem set_dk {X : Cx} (hu : X.A.units + 64 < cLine) : PSet X rSetDk := by
  intro pins s σ H o i v ov iv u Q I ro ri rv h
  obtain ⟨a, kvs, z, rfl, rfl, e, hz, q⟩ := h
  cases ro
  exact d_setItem (by omega) I (DPut.k (k := .inr z) e hz) ri rv fun s' I' => ⟨_, I', q⟩
theorem pset_or {X : Cx} {t t' : TSet} (h : PSet X t) (h' : PSet X t') : PSet X (fun o i v H Q => t o i v H Q ∨ t' o i v H Q) := fun pins s σ H o i v ov iv u Q I ro ri rv q => by
  rcases q with q | q
  · exact h pins s σ H o i v ov iv u Q I ro ri rv q
  · exact h' pins s σ H o i v ov iv u Q I ro ri rv q
/-- what is written at an index or a key of what a slot holds alone -/
def putAtS (s : S) (k d : D) : Option S := match s, k with
  | .own xs, .int i => (ixN xs.length i).map fun n => .own (xs.set n d)
  | .od ks vs, .str z => if ks.length < sizeLine then some (.od (putKs (.inr z) ks) (putVs (.inr z) d ks vs)) else none
  | _, _ => none
theorem putAtS_ok {g : Gx} {O F H : Hp} {σ : L2.St} {δ : Dl} {j : Nat} {s t : S} {k d : D} {u vi v : V} {Q : Hp → Prop} (M : Ms g O F H σ δ) (hj : δ[j]? = some (some s)) (hu : σ[j]? = some (some u)) (bk : Bw g O F H vi k) (rv : Rp g F v d) (e : putAtS s k d = some t)
    (q : ∀ H', Ms g O F H' σ (δ.set j (some t)) → Q H') : rSetL u vi v H Q ∨ rSetDk u vi v H Q := by
  unfold putAtS at e
  split at e
  · rename_i xs i
    rw [Option.map_eq_some_iff] at e
    obtain ⟨n, en, rfl⟩ := e
    obtain ⟨w, ew, a, vs, rfl, ea, r, f, o⟩ := M.so hj
    rw [hu] at ew; cases ew
    have ei := bk.int
    subst ei
    exact .inl ⟨a, vs, i, n, rfl, rfl, ea, by rw [r.length]; exact en, q _ (M.updOwn hj hu (r.set rv n))⟩
  · split at e
    · rename_i hz
      cases e
      obtain ⟨w, ew, a, _, rfl, ea, ⟨kvs, rfl, k1, r1⟩, f, o⟩ := M.sw hj rfl
      rw [hu] at ew; cases ew
      have ei := bk.str
      subst ei
      obtain ⟨m1, m2⟩ := put_rp (k := .inr _) rv k1 r1
      refine .inr ⟨a, kvs, _, rfl, rfl, ea, ?_, q _ (M.updS hj rfl rfl hu ⟨_, rfl, m1, m2⟩)⟩
      have l1 := congrArg List.length k1
      rw [List.length_map] at l1
      omega
    · cases e
  · cases e
/-- x[i] = e -/
def setIxS (j : Nat) (val ix : M R) : M Fl := bindM (datM val) fun d => bindM (opdM (slotM j)) fun _ => bindM (opdM ix) fun k => fun δ => match δ[j]?, k.val δ with
  | some (some s), some kd => (putAtS s kd d).map fun t => .ok .next (δ.set j (some t))
  | _, _ => none
section
variable {X : Cx} {E : WS} {L : List Nat} {pos p tpos : Pos} {e i : Expr}
theorem ps_setIxS {j : Nat} {x : Str} {mv mi : M R} (hun : X.A.units + 64 < cLine) (hN : X.N[j]? = some x) (hx : Vis X.env.scope x) (hd : (x == ("__debug__" : Str)) = false) (hcd : (x == ("__classdict__" : Str)) = false) (he : PE X e (tR (gx X) E mv)) (hi : PE X i (tR (gx X) E mi))
    (ha : ∀ v, assign (.Subscript (.Name x p) i tpos) X.env v = (do
      let ov ← holding [v] (eval (.Name x p) X.env)
      let iv ← holding [v, ov] (eval i X.env)
      standAt tpos
      holding [v, ov, iv] (setItem ov iv v)
      release [v, ov, iv] []))
    (hs : swapsWithSole [.Subscript (.Name x p) i tpos] e pos.line X.env = pure false) (hw : swappedStores [.Subscript (.Name x p) i tpos] e X.env = pure none) (h1 : (assignEach [.Subscript (.Name x p) i tpos] X.env).map (·.2) = [assign (.Subscript (.Name x p) i tpos) X.env]) :
    PS X (.Assign [.Subscript (.Name x p) i tpos] e pos) (tS (gx X) E L (setIxS j mv mi)) := by
  refine (ps_asg (pr_dat he) (pg_sub (pr_opd (pr_name (E := E) hN hx hd hcd)) (pr_opd hi) (pset_or set_list (set_dk hun)) ha) hs hw h1).imp fun D σ H ⟨O, F, δ, M, w⟩ => ⟨O, F, δ, M, wp_mono (wps_bind w) fun F1 H1 δ1 d s1 M1 w1 v hv => ?_⟩
  refine ⟨O, F1, δ1, M1, ?_⟩
  have w2 := wps_bind w1
  unfold wp at w2 ⊢
  cases eo : opdM (slotM j) δ1 with
  | none => rw [eo] at w2; exact w2
  | some r =>
    rw [eo] at w2
    cases r with
    | err x δ2 => exact (opd_slot_err eo).elim
    | ok o δ2 =>
      obtain ⟨rfl, rfl⟩ := opd_slot eo
      intro F2 H2 s2 M2 u hu
      refine ⟨O, F2, δ2, M2, wp_mono (wps_bind (w2 F2 H2 s2 M2)) fun F3 H3 δ3 k s3 M3 w3 vi hvi => ?_⟩
      have hu' : σ[j]? = some (some u) := hu
      unfold wps at w3
      simp only at w3
      cases ej : δ3[j]? with
      | none => rw [ej] at w3; exact w3.elim
      | some q =>
        cases q with
        | none => rw [ej] at w3; exact w3.elim
        | some s =>
          cases ek : k.val δ3 with
          | none => rw [ej, ek] at w3; exact w3.elim
          | some kd =>
            rw [ej, ek] at w3
            simp only at w3
            cases ep : putAtS s kd d with
            | none => rw [ep] at w3; exact w3.elim
            | some t =>
              rw [ep] at w3
              simp only [Option.map_some] at w3
              exact putAtS_ok M3 ej hu' (M3.bw hvi ek) (Rp.mono (s2.trans s3) _ _ hv) ep fun H' M' => w3 F3 H' σ (Same.refl _) Keep.refl M'
end
end Ev

set_option Elab.async false
set_option linter.all false
set_option maxRecDepth 100000
namespace Ev
open PySem PySem.Spec PyProof.Rows L2

/-! ### shared lists -/
theorem Bw.locA {g : Gx} {O F H : Hp} {v : V} {n : Nat} (b : Bw g O F H v (.loc n)) : ∃ a, v = .ref a ∧ F a = some (mkr n) := by
  have := b.rp (fun _ z => nomatch z)
  cases this with | loc q => exact ⟨_, rfl, q⟩
/-- a[b], of a shared list, too -/
def ixM (mi : Nat) (ma mb : M R) : M R := bindM (opdM ma) fun x => bindM (opdM mb) fun y => fun δ => match x.val δ, y.val δ with
  | some (.loc n), some (.int i) => match δ[mi]? with
    | some (some (.mem cs)) => match cs[n]? with
      | some xs => (atI xs i).map fun d => .ok (.d d) δ
      | none => none
    | _ => none
  | some d, some e => liftOp (ixD d e) δ
  | _, _ => none
section
variable {X : Cx} {E : WS} {a b : Expr} {pos : Pos}
theorem t_ixM {mi : Nat} {ma mb : M R} {σ : L2.St} {H : Hp} {Q : VK} (w : tR (gx X) E (ixM mi ma mb) σ H Q) : tOp (rIxD' X.K X.w) (tO (gx X) E (opdM ma)) (tO (gx X) E (opdM mb)) σ H Q := by
  obtain ⟨O, F, δ, M, w⟩ := w
  refine ⟨O, F, δ, M, wp_mono (wp_bind w) fun F1 H1 δ1 x s1 M1 w1 vx hx => ?_⟩
  refine ⟨O, F1, δ1, M1, wp_mono (wp_bind w1) fun F2 H2 δ2 y s2 M2 w2 vy hy => ?_⟩
  have plain : ∀ d e, x.val δ2 = some d → y.val δ2 = some e → wp (gx X) O F2 σ δ2 (fun δ => liftOp (ixD d e) δ) (fun F' H' δ' r => ∀ v, RpR (gx X) O F' H' σ δ' v r → Q v H') (eE (gx X) (E σ)) → rIxD' X.K X.w vx vy H2 Q := fun d e ex ey w3 => by
    unfold wp at w3
    simp only [liftOp] at w3
    cases ef : ixD d e with
    | none => rw [ef] at w3; exact w3.elim
    | some s =>
      rw [ef] at w3
      simp only [Option.map_some] at w3
      exact o2_ix (g := gx X) O F2 H2 vx vy d e s Q M2.fh (M2.bw (hx.mono s2) ex) (M2.bw hy ey) ef fun F' H' v k n => w3 F' H' k.ff (M2.grow k) v (M2.new k n)
  cases ex : x.val δ2 with
  | none => unfold wp at w2; simp only [ex] at w2
  | some d =>
    cases ey : y.val δ2 with
    | none => unfold wp at w2; cases d <;> simp only [ex, ey] at w2
    | some e =>
      by_cases hl : ∃ n i, d = .loc n ∧ e = .int i
      · obtain ⟨n, i, rfl, rfl⟩ := hl
        unfold wp at w2
        simp only [ex, ey] at w2
        cases em : δ2[mi]? with
        | none => rw [em] at w2; exact w2.elim
        | some q =>
          cases q with
          | none => rw [em] at w2; exact w2.elim
          | some q =>
            cases q with
            | mem cs =>
              rw [em] at w2
              simp only at w2
              cases ec : cs[n]? with
              | none => rw [ec] at w2; exact w2.elim
              | some xs =>
                rw [ec] at w2
                simp only at w2
                cases ed : atI xs i with
                | none => rw [ed] at w2; exact w2.elim
                | some d =>
                  rw [ed] at w2
                  simp only [Option.map_some] at w2
                  obtain ⟨p, rfl, hp⟩ := (M2.bw (hx.mono s2) ex).locA
                  have ei := (M2.bw hy ey).int
                  obtain ⟨xs', vs, e1, e2, e3, e4⟩ := (M2.mm _ _ em).at_ p n hp
                  rw [ec] at e1; cases e1
                  obtain ⟨v, hv, rv⟩ := atI_rp e3 ed
                  exact .inr (.inl ⟨p, vs, i, v, rfl, ei, .inl (.inl e2), hv, w2 F2 H2 (Same.refl _) M2 v rv⟩)
            | _ => rw [em] at w2; exact w2.elim
      · refine plain d e ex ey ?_
        unfold wp at w2 ⊢
        cases d with
        | loc n =>
          cases e with
          | int i => exact absurd ⟨n, i, rfl, rfl⟩ hl
          | _ => simp only [ex, ey] at w2; exact w2
        | _ => simp only [ex, ey] at w2; exact w2
theorem pr_ixM {mi : Nat} {ma mb : M R} (hu : X.A.units + 64 < cLine) (ha : PE X a (tR (gx X) E ma)) (hb : PE X b (tR (gx X) E mb)) (hs : PlainIx b) : PE X (.Subscript a b pos) (tR (gx X) E (ixM mi ma mb)) :=
  (pe_ix ((ix_dk hu).or ix_seq) (pr_opd ha) (pr_opd hb) hs).imp fun σ H Q w => t_ixM w
end
/-- a list becomes a shared one -/
def locM (mi : Nat) (m : M R) : M D := bindM m fun r => fun δ => match δ[mi]? with
  | some (some (.mem cs)) => match r with
    | .own xs => some (.ok (.loc cs.length) (δ.set mi (some (.mem (cs ++ [xs])))))
    | .slot j => match δ[j]? with
      | some (some (.own xs)) => some (.ok (.loc cs.length) ((δ.set j (some (.d (.loc cs.length)))).set mi (some (.mem (cs ++ [xs])))))
      | some (some (.d (.loc n))) => some (.ok (.loc n) δ)
      | _ => none
    | _ => none
  | _ => none
section
variable {g : Gx} {O F H : Hp} {σ : L2.St} {δ : Dl} {v : V} {xs : List D} {mi : Nat} {cs : List (List D)}
theorem mk_fit {a : Addr} {n : Nat} (fh : Fit F H) (hh : H a ≠ none) (f : F a = none) : Fit (upd F a (mkr n)) H := by
  refine ⟨fun b o h m => ?_, fun b h => ?_⟩
  · by_cases e : b = a
    · subst e; rw [upd_same] at h; cases h; cases m
    · rw [upd_ne e] at h; exact fh.rd _ _ h m
  · by_cases e : b = a
    · subst e; exact hh
    · rw [upd_ne e] at h; exact fh.lv _ h
theorem cells_snoc {a : Addr} {vs : List V} (c : Cells g O F H cs) (e : H a = some (.lst vs)) (r : RpA g F vs xs) (f : F a = none) (o : O a = none) : Cells g O (upd F a (mkr cs.length)) H (cs ++ [xs]) := by
  have s1 : Same F (upd F a (mkr cs.length)) := fun b x q => by rw [upd_ne (ne_of_none q f)]; exact q
  have lt : ∀ b n, F b = some (mkr n) → n < cs.length := fun b n h => by
    obtain ⟨ys, _, h1, _⟩ := c.at_ b n h
    exact (List.getElem?_eq_some_iff.mp h1).1
  refine ⟨fun b n h => ?_, fun n ys h => ?_, fun b d n h1 h2 => ?_⟩
  · by_cases hb : b = a
    · subst hb
      rw [upd_same] at h
      have := mkr_inj (Option.some.inj h)
      subst this
      exact ⟨xs, vs, by simp, e, r.mono s1 _ _, o⟩
    · rw [upd_ne hb] at h
      obtain ⟨ys, us, h1, h2, h3, h4⟩ := c.at_ b n h
      exact ⟨ys, us, by rw [List.getElem?_append_left (lt b n h)]; exact h1, h2, h3.mono s1 _ _, h4⟩
  · rcases app_get h with ⟨_, h⟩ | ⟨e1, _⟩
    · obtain ⟨b, hb⟩ := c.all n ys h
      exact ⟨b, s1 _ _ hb⟩
    · exact ⟨a, by rw [upd_same, e1]⟩
  · by_cases hb : b = a
    · by_cases hd : d = a
      · rw [hb, hd]
      · rw [hb, upd_same] at h1
        rw [upd_ne hd] at h2
        have := mkr_inj (Option.some.inj h1)
        have := lt d n h2
        omega
    · by_cases hd : d = a
      · rw [hd, upd_same] at h2
        rw [upd_ne hb] at h1
        have := mkr_inj (Option.some.inj h2)
        have := lt b n h1
        omega
      · rw [upd_ne hb] at h1; rw [upd_ne hd] at h2
        exact c.one b d n h1 h2
theorem RpS.mark {a : Addr} {n : Nat} {w : V} {s : S} (f : F a = none) (r : RpS g O F H w s) (hn : s.isOwn = true → w ≠ .ref a) : RpS g O (upd F a (mkr n)) H w s :=
  r.frz (fun b x q => by rw [upd_ne (ne_of_none q f)]; exact q) hn
/-- a new list becomes a shared one -/
theorem Ms.share (M : Ms g O F H σ δ) (hm : δ[mi]? = some (some (.mem cs))) (ow : Owned g O F H v xs) (ap : Apart σ δ v) : ∃ F', Same F F' ∧ Ms g O F' H σ (δ.set mi (some (.mem (cs ++ [xs])))) ∧ Rp g F' v (.loc cs.length) := by
  obtain ⟨a, vs, rfl, e, r, f, o⟩ := ow
  have s1 : Same F (upd F a (mkr cs.length)) := fun b x q => by rw [upd_ne (ne_of_none q f)]; exact q
  refine ⟨upd F a (mkr cs.length), s1, ⟨mk_fit M.fh (ne_none e) f, M.oh, frz_dj M.dj o, fun i s h hm' => ?_, fun i j s t w h1 h2 o1 o2 => ?_, fun i ds h => ?_, fun i j ds es h1 h2 => ?_⟩, .loc upd_same⟩
  · rcases get_set_of h with ⟨_, z⟩ | ⟨ne, h'⟩
    · cases z; cases hm'
    · obtain ⟨w, ew, rw'⟩ := M.sl i s h' hm'
      exact ⟨w, ew, rw'.mark f fun ho z => by subst z; exact ap i s h' ho ew⟩
  · rcases get_set_of h1 with ⟨_, z⟩ | ⟨_, h1'⟩
    · cases z; cases o1
    rcases get_set_of h2 with ⟨_, z⟩ | ⟨_, h2'⟩
    · cases z; cases o2
    exact M.ap i j s t w h1' h2' o1 o2
  · rcases get_set_of h with ⟨_, z⟩ | ⟨ne, h'⟩
    · cases z; exact cells_snoc (M.mm _ _ hm) e r f o
    · exact absurd (M.m1 _ _ _ _ hm h') ne
  · rcases get_set_of h1 with ⟨e1, _⟩ | ⟨ne, h1'⟩
    · rcases get_set_of h2 with ⟨e2, _⟩ | ⟨ne2, h2'⟩
      · omega
      · exact absurd (M.m1 _ _ _ _ hm h2') ne2
    · exact absurd (M.m1 _ _ _ _ hm h1') ne
/-- .. a slot's list -/
theorem Ms.shareSlot {j : Nat} (M : Ms g O F H σ δ) (hm : δ[mi]? = some (some (.mem cs))) (hj : δ[j]? = some (some (.own xs))) : ∃ F' v, σ[j]? = some (some v) ∧ Same F F' ∧ Ms g O F' H σ ((δ.set j (some (.d (.loc cs.length)))).set mi (some (.mem (cs ++ [xs])))) ∧ Rp g F' v (.loc cs.length) := by
  obtain ⟨v, ev, ow⟩ := M.so hj
  have hne : mi ≠ j := fun z => by subst z; rw [hm] at hj; cases hj
  have M1 : Ms g O F H σ (δ.set j none) := M.forget
  obtain ⟨F', s1, M2, r⟩ := M1.share (mi := mi) (cs := cs) (by rw [List.getElem?_set_ne hne.symm]; exact hm) ow (forget_apart M hj rfl ev)
  refine ⟨F', v, ev, s1, ?_, r⟩
  have hjl := (List.getElem?_eq_some_iff.mp hj).1
  have conv : ∀ {i : Nat} {s : S}, ((δ.set j (some (.d (.loc cs.length)))).set mi (some (.mem (cs ++ [xs]))))[i]? = some (some s) → (i = j ∧ s = .d (.loc cs.length)) ∨ ((δ.set j none).set mi (some (.mem (cs ++ [xs]))))[i]? = some (some s) := fun {i s} h => by
    rcases get_set_of h with ⟨e1, e2⟩ | ⟨n1, h1⟩
    · right
      subst e1
      rw [List.getElem?_set_self (by rw [List.length_set]; exact (List.getElem?_eq_some_iff.mp hm).1), e2]
    · rcases get_set_of h1 with ⟨e1, e2⟩ | ⟨n2, h2⟩
      · left; exact ⟨e1.symm, by cases e2; rfl⟩
      · right
        rw [List.getElem?_set_ne n1, List.getElem?_set_ne n2]; exact h2
  refine ⟨M2.fh, M2.oh, M2.dj, fun i s h hm' => ?_, fun i k s t w h1 h2 o1 o2 => ?_, fun i ds h => ?_, fun i k ds es h1 h2 => ?_⟩
  · rcases conv h with ⟨rfl, rfl⟩ | h
    · exact ⟨v, ev, r⟩
    · exact M2.sl i s h hm'
  · rcases conv h1 with ⟨_, rfl⟩ | h1
    · cases o1
    rcases conv h2 with ⟨_, rfl⟩ | h2
    · cases o2
    exact M2.ap i k s t w h1 h2 o1 o2
  · rcases conv h with ⟨_, z⟩ | h
    · cases z
    · exact M2.mm i ds h
  · rcases conv h1 with ⟨_, z⟩ | h1
    · cases z
    rcases conv h2 with ⟨_, z⟩ | h2
    · cases z
    exact M2.m1 i k ds es h1 h2
theorem cells_write {a : Addr} {n : Nat} {vs : List V} {ys : List D} (c : Cells g O F H cs) (hp : F a = some (mkr n)) (r : RpA g F vs xs) (hn : cs[n]? = some ys) : Cells g O F (upd H a (.lst vs)) (cs.set n xs) := by
  have hl := (List.getElem?_eq_some_iff.mp hn).1
  refine ⟨fun b m h => ?_, fun m zs h => ?_, c.one⟩
  · by_cases hb : b = a
    · subst hb
      rw [hp] at h
      have := mkr_inj (Option.some.inj h)
      subst this
      obtain ⟨_, _, _, _, _, h4⟩ := c.at_ b n hp
      exact ⟨xs, vs, List.getElem?_set_self hl, upd_same, r, h4⟩
    · obtain ⟨zs, us, h1, h2, h3, h4⟩ := c.at_ b m h
      have : n ≠ m := fun z => by subst z; exact hb (c.one b a n h hp)
      exact ⟨zs, us, by rw [List.getElem?_set_ne this]; exact h1, by rw [upd_ne hb]; exact h2, h3, h4⟩
  · by_cases e : n = m
    · subst e; exact ⟨a, hp⟩
    · rw [List.getElem?_set_ne e] at h; exact c.all m zs h
theorem Ms.updCell {a : Addr} {n : Nat} {vs : List V} {ys : List D} (M : Ms g O F H σ δ) (hm : δ[mi]? = some (some (.mem cs))) (hp : F a = some (mkr n)) (r : RpA g F vs xs) (hn : cs[n]? = some ys) : Ms g O F (upd H a (.lst vs)) σ (δ.set mi (some (.mem (cs.set n xs)))) := by
  have C := M.mm _ _ hm
  have oa : O a = none := by obtain ⟨_, _, _, _, _, h4⟩ := C.at_ a n hp; exact h4
  refine ⟨⟨fun b o h m => ?_, fun b h => ?_⟩, fun b o h => ?_, M.dj, fun i s h hm' => ?_, fun i j s t w h1 h2 o1 o2 => ?_, fun i ds h => ?_, fun i j ds es h1 h2 => ?_⟩
  · have : b ≠ a := fun z => by subst z; rw [hp] at h; cases h; cases m
    rw [upd_ne this]; exact M.fh.rd _ _ h m
  · by_cases hb : b = a
    · subst hb; rw [upd_same]; exact fun z => nomatch z
    · rw [upd_ne hb]; exact M.fh.lv _ h
  · rw [upd_ne (fun z => by subst z; rw [oa] at h; cases h)]; exact M.oh _ _ h
  · rcases get_set_of h with ⟨_, z⟩ | ⟨ne, h'⟩
    · cases z; cases hm'
    · obtain ⟨w, ew, rw'⟩ := M.sl i s h' hm'
      refine ⟨w, ew, ?_⟩
      have key : ∀ u : S, OwnedS g O F H w u → OwnedS g O F (upd H a (.lst vs)) w u := fun u ⟨b, us, e0, e1, e2, e3, e4⟩ => by
        refine ⟨b, us, e0, ?_, e2, e3, e4⟩
        rw [upd_ne (fun z => by subst z; rw [hp] at e3; cases e3)]; exact e1
      cases s with
      | d x => exact rw'
      | own xs => exact key _ rw'
      | od ks xs => exact key _ rw'
      | mem cs => exact key _ rw'
  · rcases get_set_of h1 with ⟨_, z⟩ | ⟨_, h1'⟩
    · cases z; cases o1
    rcases get_set_of h2 with ⟨_, z⟩ | ⟨_, h2'⟩
    · cases z; cases o2
    exact M.ap i j s t w h1' h2' o1 o2
  · rcases get_set_of h with ⟨_, z⟩ | ⟨ne, h'⟩
    · cases z; exact cells_write C hp r hn
    · exact absurd (M.m1 _ _ _ _ hm h') ne
  · rcases get_set_of h1 with ⟨e1, _⟩ | ⟨ne, h1'⟩
    · rcases get_set_of h2 with ⟨e2, _⟩ | ⟨ne2, h2'⟩
      · omega
      · exact absurd (M.m1 _ _ _ _ hm h2') ne2
    · exact absurd (M.m1 _ _ _ _ hm h1') ne
end
section
variable {X : Cx} {E : WS} {L : List Nat} {pos tpos : Pos} {e o i : Expr}
theorem pr_loc {mi : Nat} {m : M R} (h : PE X e (tR (gx X) E m)) : PE X e (tD (gx X) E (locM mi m)) := by
  refine h.imp fun σ H Q ⟨O, F, δ, M, w⟩ => ⟨O, F, δ, M, wp_mono (wp_bind w) fun F' H' δ' r s M' q v hv => ?_⟩
  unfold wp at q
  simp only at q
  cases em : δ'[mi]? with
  | none => rw [em] at q; exact q.elim
  | some t =>
    cases t with
    | none => rw [em] at q; exact q.elim
    | some t =>
      cases t with
      | mem cs =>
        rw [em] at q
        simp only at q
        cases r with
        | own xs =>
          obtain ⟨F2, s2, M2, r2⟩ := M'.share em hv.1.o hv.2
          exact q F2 H' s2 M2 v r2
        | slot j =>
          have hv' : σ[j]? = some (some v) := hv
          simp only at q
          cases ej : δ'[j]? with
          | none => rw [ej] at q; exact q.elim
          | some u =>
            cases u with
            | none => rw [ej] at q; exact q.elim
            | some u =>
              cases u with
              | own xs =>
                rw [ej] at q
                obtain ⟨F2, w, ew, s2, M2, r2⟩ := M'.shareSlot em ej
                rw [hv'] at ew; cases ew
                exact q F2 H' s2 M2 v r2
              | d x =>
                rw [ej] at q
                cases x with
                | loc n =>
                  obtain ⟨w, ew, r2⟩ := M'.sd ej
                  rw [hv'] at ew; cases ew
                  exact q F' H' (Same.refl _) M' v r2
                | _ => exact q.elim
              | _ => rw [ej] at q; exact q.elim
        | _ => exact q.elim
      | _ => rw [em] at q; exact q.elim
/-- o[i] = e, o a shared list -/
def setCell (mi : Nat) (val mo ix : M R) : M Fl := bindM (datM val) fun d => bindM (opdM mo) fun x => bindM (opdM ix) fun k => fun δ => match x.val δ, k.val δ, δ[mi]? with
  | some (.loc n), some (.int i), some (some (.mem cs)) => match cs[n]? with
    | some xs => (ixN xs.length i).map fun j => .ok .next (δ.set mi (some (.mem (cs.set n (xs.set j d)))))
    | none => none
  | _, _, _ => none
theorem ps_setCell {mi : Nat} {mv mo mx : M R} (he : PE X e (tR (gx X) E mv)) (ho : PE X o (tR (gx X) E mo)) (hi : PE X i (tR (gx X) E mx))
    (ha : ∀ v, assign (.Subscript o i tpos) X.env v = (do
      let ov ← holding [v] (eval o X.env)
      let iv ← holding [v, ov] (eval i X.env)
      standAt tpos
      holding [v, ov, iv] (setItem ov iv v)
      release [v, ov, iv] []))
    (hs : swapsWithSole [.Subscript o i tpos] e pos.line X.env = pure false) (hw : swappedStores [.Subscript o i tpos] e X.env = pure none) (h1 : (assignEach [.Subscript o i tpos] X.env).map (·.2) = [assign (.Subscript o i tpos) X.env]) :
    PS X (.Assign [.Subscript o i tpos] e pos) (tS (gx X) E L (setCell mi mv mo mx)) := by
  refine (ps_asg (pr_dat he) (pg_sub (pr_opd ho) (pr_opd hi) set_list ha) hs hw h1).imp fun D σ H ⟨O, F, δ, M, w⟩ => ⟨O, F, δ, M, wp_mono (wps_bind w) fun F1 H1 δ1 d s1 M1 w1 v hv => ?_⟩
  refine ⟨O, F1, δ1, M1, wp_mono (wps_bind w1) fun F2 H2 δ2 x s2 M2 w2 u hu => ?_⟩
  refine ⟨O, F2, δ2, M2, wp_mono (wps_bind w2) fun F3 H3 δ3 k s3 M3 w3 vi hvi => ?_⟩
  unfold wps at w3
  simp only at w3
  split at w3
  · exact w3.elim
  · rename_i fl δ4 e4
    split at e4
    · rename_i n j cs ex ek em
      split at e4
      · rename_i xs hn
        rw [Option.map_eq_some_iff] at e4
        obtain ⟨j', ej, e4⟩ := e4
        cases e4
        obtain ⟨p, rfl, hp⟩ := (M3.bw (hu.mono s3) ex).locA
        have ei := (M3.bw hvi ek).int
        subst ei
        obtain ⟨xs', vs, e1, e2, e3, e5⟩ := (M3.mm _ _ em).at_ p n hp
        rw [hn] at e1; cases e1
        exact ⟨p, vs, j, j', rfl, rfl, e2, by rw [e3.length]; exact ej, w3 F3 _ σ (Same.refl _) Keep.refl (M3.updCell em hp (e3.set (Rp.mono (s2.trans s3) _ _ hv) j') hn)⟩
      · cases e4
    · cases e4
  · rename_i e4
    split at e4
    · split at e4
      · rw [Option.map_eq_some_iff] at e4
        obtain ⟨_, _, z⟩ := e4; cases z
      · cases e4
    · cases e4
end
end Ev

set_option Elab.async false
set_option linter.all false
set_option maxRecDepth 100000
namespace Ev
open PySem PySem.Spec PyProof.Rows L2

/-! ### zip of a text and a tuple, of any two of these; enumerate of a tuple -/
inductive Cp where
  | txt (x : Str) (t : Tok) | tup (a : Addr)
def Cp.val : Cp → Value
  | .txt x t => .str x t
  | .tup a => .ref a
def Cp.base : Cp → List Addr
  | .txt _ _ => []
  | .tup a => [a]
def Cp.st (it i : Nat) (h : Heap) : Cp → Prop
  | .txt x t => h.IsStrIter it (strIterType x) x t i
  | .tup a => h.IsTupleIter it a i
def Cp.ok (K : PySem.W.Frag) (H : Hp) (xs : List V) : Cp → Prop
  | .txt x _ => xs = x.cps.toList.map fun c => V.str ⟨#[c]⟩
  | .tup a => SqT K H a xs
theorem Cp.uniq {X : Cx} {pins : List (Addr × Obj)} {σ : L2.St} {H : Hp} {s : Shared} (I : Inv X pins σ H s) {c : Cp} {xs ys : List V} (h1 : c.ok X.K H xs) (h2 : c.ok X.K H ys) : xs = ys := by
  cases c with
  | txt x t => exact h1.trans h2.symm
  | tup a => exact I.tuple_inj h1 h2
theorem Cp.stays {it i : Nat} {h h' : Heap} {c : Cp} (x : c.st it i h) (k : ∀ o, h.get? it = some o → h'.get? it = some o) : c.st it i h' := by
  cases c with
  | txt z t => obtain ⟨o, e, r⟩ := x; exact ⟨o, k o e, r⟩
  | tup a => exact x.at k
theorem Cp.there {it i : Nat} {h : Heap} {c : Cp} (x : c.st it i h) : ∃ o, h.get? it = some o ∧ ∀ v, o.data ≠ .cell v := by
  cases c with
  | txt z t => obtain ⟨o, e, _, d⟩ := x; exact ⟨o, e, fun v q => by rw [d] at q; cases q⟩
  | tup a => obtain ⟨o, e, _, d⟩ := x; exact ⟨o, e, fun v q => by rw [d] at q; cases q⟩
theorem Cp.draws {X : Cx} {pins : List (Addr × Obj)} {σ : L2.St} {H : Hp} {s : Shared} {A : Around} (I : Inv X pins σ H s) (hh : A.handled = none) {c : Cp} {it : Addr} {xs : List V} (ok : c.ok X.K H xs) (ne : it ∉ c.base) :
    ∃ (P : Nat → Value → Prop) (St : Nat → Heap → Prop), Draws X.prog X.w A it (it :: c.base) xs.length P St ∧ (∀ i v, P i v → ∃ x, xs[i]? = some x ∧ RelV x v) ∧ (∀ i, c.st it i s.heap → St i s.heap) ∧ ∀ i h, St i h → c.st it i h := by
  cases c with
  | txt x t =>
    have e : xs = x.cps.toList.map fun c => V.str ⟨#[c]⟩ := ok
    have l : xs.length = x.cps.size := by rw [e]; simp
    refine ⟨fun i v => ∃ c u, x.cps[i]? = some c ∧ v = .str ⟨#[c]⟩ u, fun i h => h.IsStrIter it (strIterType x) x t i, by rw [l]; exact Draws.text hh it x t, fun i v ⟨ch, u, h1, h2⟩ => ⟨V.str ⟨#[ch]⟩, ?_, ⟨u, h2⟩⟩, fun i h => h, fun i h q => q⟩
    rw [e, List.getElem?_map, Array.getElem?_toList, h1]; rfl
  | tup a =>
    obtain ⟨its, rv, p, _⟩ := I.tuple ok
    have hne : a ≠ it := fun z => ne (by rw [z]; exact List.mem_singleton.mpr rfl)
    have l : xs.length = its.toArray.size := by rw [rv.length]; simp
    refine ⟨fun i v => its.toArray[i]? = some v, fun i h => h.IsTupleIter it a i ∧ h.IsTuple a its.toArray, by rw [l]; exact Draws.tuple hh it a hne its.toArray, fun i v h => ?_, fun i h => ⟨h, p⟩, fun i h q => q.1⟩
    have h' : its[i]? = some v := by simpa using h
    cases e : xs[i]? with
    | none => rw [rv.none_of e] at h'; cases h'
    | some x =>
      obtain ⟨u, eu, ru⟩ := rv.get e
      rw [h'] at eu; cases eu
      exact ⟨x, rfl, ru⟩
/-- the components as they stand at each turn, the items in new pairs -/
def Jz (K : PySem.W.Frag) (c1 c2 : Cp) : It :=
  ⟨fun i H => ∃ xs ys : List V, c1.ok K H xs ∧ c2.ok K H ys ∧ i < min xs.length ys.length,
    fun i H v H' => ∃ T x y, v = .ref T ∧ H T = none ∧ H' = upd H T (.tup [x, y]) ∧ (∀ xs, c1.ok K H xs → xs[i]? = some x) ∧ ∀ ys, c2.ok K H ys → ys[i]? = some y,
    fun i H => ∃ xs ys : List V, c1.ok K H xs ∧ c2.ok K H ys ∧ i = min xs.length ys.length⟩
/-- the cells of a zip lie apart, and apart from what is walked -/
structure ZSep (z TI TO i1 i2 : Addr) (b1 b2 : List Addr) : Prop where
  s : ZipSep2 z TI TO i1 i2 (i1 :: b1) (i2 :: b2)
  n1 : i1 ∉ b1
  n2 : i2 ∉ b2
theorem turn_zipC {P : Program} {w : World} {K : PySem.W.Frag} {elts : List Expr} {kk : Nat} {tpos : Pos} {c1 c2 : Cp} {z TI TO i1 i2 : Addr} (D : ZSep z TI TO i1 i2 c1.base c2.base) :
    Turn P w K (.Tuple elts kk tpos) (Jz K c1 c2) [z, TI, TO, i1, i2] z (fun i h => IsZip h z TI TO .none ∧ IsTupOf2 h TI (.ref i1) (.ref i2) ∧ (∃ x y, IsTupOf2 h TO x y) ∧ c1.st i1 i h ∧ c2.st i2 i h) where
  mem := by simp
  obj := fun i h ⟨hz, hTI, ⟨x, y, hTO⟩, h1, h2⟩ c hc => by
    have e' : c = z ∨ c = TI ∨ c = TO ∨ c = i1 ∨ c = i2 := by simpa using hc
    rcases e' with q | q | q | q | q <;> subst q
    · exact ⟨_, hz, fun v q => nomatch q⟩
    · exact ⟨_, hTI, fun v q => nomatch q⟩
    · exact ⟨_, hTO, fun v q => nomatch q⟩
    · exact Cp.there h1
    · exact Cp.there h2
  keep := fun i h h' ⟨hz, hTI, ⟨x, y, hTO⟩, h1, h2⟩ k =>
    ⟨k z (by simp) _ hz, k TI (by simp) _ hTI, ⟨x, y, k TO (by simp) _ hTO⟩, Cp.stays h1 (k i1 (by simp)), Cp.stays h2 (k i2 (by simp))⟩
  item := by
    intro X hP hw hK hc i pins s σ H E I hf ⟨hz, hTI, hTO, h1, h2⟩ ⟨xs, ys, o1, o2, hi⟩
    subst hP hw hK
    have hh : X.A.in1.handled = none := I.ok.hd hc
    obtain ⟨P1, S1, D1, p1, q1, r1⟩ := Cp.draws (A := X.A.in1) I hh o1 D.n1
    obtain ⟨P2, S2, D2, p2, q2, r2⟩ := Cp.draws (A := X.A.in1) I hh o2 D.n2
    have G := GoesN.zip2 (A := X.A) (elts := elts) (x1 := kk) (pos := tpos) D.s D1 D2
    refine wpAny_mono (G.goes i s (fun v s2 => ∃ x H', Inv X pins σ H' s2 ∧ RelV x v ∧ (Jz X.K c1 c2).yld i H x H' ∧ (IsZip s2.heap z TI TO .none ∧ IsTupOf2 s2.heap TI (.ref i1) (.ref i2) ∧ (∃ x y, IsTupOf2 s2.heap TO x y) ∧ c1.st i1 (i + 1) s2.heap ∧ c2.st i2 (i + 1) s2.heap) ∧ ∀ b ∈ [z, TI, TO, i1, i2], H' b = none) E hi ⟨hz, hTI, hTO, q1 i h1, q2 i h2⟩ ?_) (fun r s1 h => h) fun _ _ h => h
    intro v h' tk ⟨T, u1, u2, ev, hT, hp1, hp2, tup⟩ ⟨z', TI', TO', st1, st2⟩ k _
    obtain ⟨x, ex, rx⟩ := p1 _ _ hp1
    obtain ⟨y, ey, ry⟩ := p2 _ _ hp2
    subst ev
    have new : ObjOk X.prog X.w (upd H T (.tup [x, y])) h' T (.tup [x, y]) := by
      obtain ⟨o, g1, g2, n, g3⟩ := tup
      exact ⟨by show 2 ≤ sizeLine; decide, [u1, u2], .cons rx (.cons ry .nil), o, g1, g2, n, g3⟩
    have I1 : Inv X pins σ (upd H T (.tup [x, y])) { s with heap := h', toks := tk } :=
      I.turnedNew (ch := [z, TI, TO, i1, i2]) (fun c o hb q => k c o (fun m => hb (by
        have e' : c = z ∨ c = TO ∨ c = i1 ∨ c = i2 := by simpa using m
        rcases e' with q | q | q | q <;> simp [q])) q) hf hT new
    refine ⟨.ref T, _, I1, rfl, ⟨T, x, y, rfl, I.hok.fresh hT, rfl, fun l hl => by rw [Cp.uniq I hl o1]; exact ex, fun l hl => by rw [Cp.uniq I hl o2]; exact ey⟩, ⟨z', TI', TO', r1 _ _ st1, r2 _ _ st2⟩, fun b hb => ?_⟩
    have hlt : b < s.heap.objs.size := by
      obtain ⟨x0, y0, hTO⟩ := hTO
      have e' : b = z ∨ b = TI ∨ b = TO ∨ b = i1 ∨ b = i2 := by simpa using hb
      rcases e' with q | q | q | q | q <;> subst q
      · exact Heap.lt_size hz
      · exact Heap.lt_size hTI
      · exact Heap.lt_size hTO
      · obtain ⟨_, e, _⟩ := Cp.there h1; exact Heap.lt_size e
      · obtain ⟨_, e, _⟩ := Cp.there h2; exact Heap.lt_size e
    rw [upd_ne (Nat.ne_of_lt (Nat.lt_of_lt_of_le hlt hT))]
    exact (hf b hb).1
  done := by
    intro X hP hw hK hc i pins s σ H E I hf ⟨hz, hTI, hTO, h1, h2⟩ ⟨xs, ys, o1, o2, hi⟩
    subst hP hw hK
    have hh : X.A.in1.handled = none := I.ok.hd hc
    obtain ⟨P1, S1, D1, p1, q1, r1⟩ := Cp.draws (A := X.A.in1) I hh o1 D.n1
    obtain ⟨P2, S2, D2, p2, q2, r2⟩ := Cp.draws (A := X.A.in1) I hh o2 D.n2
    have G := GoesN.zip2 (A := X.A) (elts := elts) (x1 := kk) (pos := tpos) D.s D1 D2
    subst hi
    exact G.stops s (fun s2 => Inv X pins σ H s2) E ⟨hz, hTI, hTO, q1 _ h1, q2 _ h2⟩ fun h' tk k _ => I.turnedL (ch := [z, TI, TO, i1, i2]) (fun c o hb q => k c o (fun m => hb (by
        have e' : c = z ∨ c = TO ∨ c = i1 ∨ c = i2 := by simpa using m
        rcases e' with q | q | q | q <;> simp [q])) q) hf
  self := fun A i s Q E st h => wpAny_pyIter_zip st.1 h
/-- the value of a component -/
def CpIs (v : V) : Cp → Prop
  | .txt x _ => v = .str x
  | .tup a => v = .ref a
def CpV (K : PySem.W.Frag) (H : Hp) (v : V) (xs : List V) : Prop := (∃ x : Str, v = .str x ∧ xs = x.cps.toList.map fun c => V.str ⟨#[c]⟩) ∨ ∃ a, v = .ref a ∧ SqT K H a xs
theorem CpV.ok {K : PySem.W.Frag} {H : Hp} {v : V} {xs : List V} {c : Cp} (h : CpV K H v xs) (e : CpIs v c) : c.ok K H xs := by
  cases c with
  | txt x t =>
    rcases h with ⟨y, h1, h2⟩ | ⟨a, h1, h2⟩
    · rw [h1] at e
      have e' : V.str y = V.str x := e
      cases e'; exact h2
    · rw [h1] at e
      have e' : V.ref a = V.str x := e
      cases e'
  | tup a =>
    rcases h with ⟨y, h1, h2⟩ | ⟨b, h1, h2⟩
    · rw [h1] at e
      have e' : V.str y = V.ref a := e
      cases e'
    · rw [h1] at e
      have e' : V.ref b = V.ref a := e
      cases e'; exact h2
/-- a component as it begins to be walked -/
theorem CpV.begins {X : Cx} {pins : List (Addr × Obj)} {σ : L2.St} {H : Hp} {s : Shared} {v : V} {u : Value} {xs : List V} (I : Inv X pins σ H s) (h : CpV X.K H v xs) (r : RelV v u) :
    ∃ (c : Cp) (o : Obj) (B : Heap → Prop), CpIs v c ∧ Begins u o B ∧ B s.heap ∧ (∀ (h' : Heap) (it : Addr), h'.get? it = some o → c.st it 0 h') ∧ ∀ b ∈ c.base, b < s.heap.objs.size := by
  rcases h with ⟨x, rfl, _⟩ | ⟨a, rfl, hq⟩
  · obtain ⟨t, rfl⟩ := r
    exact ⟨.txt x t, _, _, rfl, begins_text x t, trivial, fun h' it e => ⟨_, e, rfl, rfl⟩, fun b hb => nomatch hb⟩
  · cases r
    obtain ⟨its, rv, p, _⟩ := I.tuple hq
    have p' : s.heap.IsTuple a its.toArray := p
    obtain ⟨o, ho, _⟩ := id p'
    refine ⟨.tup a, _, _, rfl, begins_tuple a its.toArray, p', fun h' it e => ⟨_, e, rfl, rfl⟩, fun b hb => ?_⟩
    obtain rfl : b = a := List.mem_singleton.mp hb
    exact Heap.lt_size ho
def iZipC (K : PySem.W.Frag) (ta : TA) : TI := fun σ H R => ta σ H fun vs H1 => ∃ v1 v2 xs ys, vs = [v1, v2] ∧ CpV K H1 v1 xs ∧ CpV K H1 v2 ys ∧ ∀ c1 c2, CpIs v1 c1 → CpIs v2 c2 → R (Jz K c1 c2) H1
theorem pi_zipC {X : Cx} {e e2 : Expr} {ta : TA} {p pos tpos : Pos} {elts : List Expr} {kk : Nat} (hg : Gl X "zip") (hm : X.mg "zip" = none) (ha : PA X [e, e2] ta)
    (hs : starEach [e, e2] X.env = (false, eval e X.env) :: starEach [e2] X.env) (hpl : (backTo pos (starEach [e2] X.env)).any (·.1) = false) :
    PI X (.Tuple elts kk tpos) (.Call (.Name "zip" p) [e, e2] [] pos) (iZipC X.K ta) := by
  refine ⟨fun pins s σ H R I h => Call_ (ld_blt I hg hm PyProof.Rows.boot_zip (PyProof.Rows.callWith_type1 (thn (ha.run pos pins s σ H _ I h) fun us s1 ⟨vs, H1, I1, r1, q1⟩ => ?_) hs hpl))⟩
  obtain ⟨v1, v2, xs, ys, rfl, k1, k2, q⟩ := q1
  obtain ⟨u1, u2, rfl, ru1, ru2⟩ := vals2 r1
  obtain ⟨c1, o1, B1, e1, b1, h1, st1, lt1⟩ := k1.begins I1 ru1
  obtain ⟨c2, o2, B2, e2, b2, h2, st2, lt2⟩ := k2.begins I1 ru2
  refine zip_begins2 b1 b2 h1 h2 fun h' hz hTI hTO g1 g2 hsz hk => wpAny_pyIter_zip hz ?_
  have I2 : Inv X pins σ H1 { s1 with heap := h' } := I1.kept (t' := s1.toks) hk
  have sep : ZSep (s1.heap.objs.size + 4) (s1.heap.objs.size + 2) (s1.heap.objs.size + 3) s1.heap.objs.size (s1.heap.objs.size + 1) c1.base c2.base :=
    ⟨zip_sep2 lt1 lt2, fun m => absurd (lt1 _ m) (Nat.lt_irrefl _), fun m => absurd (lt2 _ m) (Nat.not_lt_of_le (Nat.le_succ _))⟩
  refine ⟨_, [s1.heap.objs.size + 4, s1.heap.objs.size + 2, s1.heap.objs.size + 3, s1.heap.objs.size, s1.heap.objs.size + 1], _, _, H1, rfl, I2, turn_zipC sep, ⟨hz, hTI, ⟨_, _, hTO⟩, st1 _ _ g1, st2 _ _ g2⟩, fun b hb => ?_, q c1 c2 e1 e2⟩
  have e' : b = s1.heap.objs.size + 4 ∨ b = s1.heap.objs.size + 2 ∨ b = s1.heap.objs.size + 3 ∨ b = s1.heap.objs.size ∨ b = s1.heap.objs.size + 1 := by simpa using hb
  have hle : s1.heap.objs.size ≤ b := by
    rcases e' with z | z | z | z | z <;> rw [z] <;> first | exact Nat.le_refl _ | exact Nat.le_add_right _ _
  exact I1.fpOk hle (I1.hok.fresh hle)
/-! ### by data -/
def compD : D → Option (List D)
  | .str x => some (signsD x)
  | .tup xs => some xs
  | _ => none
theorem Rp.comp {g : Gx} {F : Hp} {v : V} {d : D} {ds : List D} (h : Rp g F v d) (e : compD d = some ds) : ∃ xs, (∀ H, Fit F H → CpV g.K H v xs) ∧ RpA g F xs ds := by
  cases d with
  | str x =>
    cases e; cases h
    refine ⟨x.cps.toList.map fun c => V.str ⟨#[c]⟩, fun H _ => .inl ⟨x, rfl, rfl⟩, ?_⟩
    unfold signsD
    generalize x.cps.toList = l
    induction l with
    | nil => exact .nil
    | cons a r ih => exact .cons (.str _) ih
  | tup ys => cases e; cases h with | tup q r => exact ⟨_, fun H fh => .inr ⟨_, rfl, fit_tup fh q⟩, r⟩
  | _ => cases e
theorem wk_zipC {g : Gx} {F : Hp} {c1 c2 : Cp} {xs ys : List V} {ds es : List D} (h1 : ∀ H, Fit F H → c1.ok g.K H xs) (h2 : ∀ H, Fit F H → c2.ok g.K H ys) (r : RpA g F xs ds) (r' : RpA g F ys es) : Wk g (Jz g.K c1 c2) F (zipD ds es) where
  go := fun i F1 H s1 s2 hi => ⟨xs, ys, h1 H (Fit.dn s1 s2), h2 H (Fit.dn s1 s2), by rw [r.length, r'.length]; simpa [zipD] using hi⟩
  yl := fun i F1 H x H' d s1 s2 hd hy => by
    obtain ⟨T, y, z, rfl, hT, rfl, hy, hz⟩ := hy
    simp only [zipD, List.getElem?_zipWith] at hd
    cases e1 : ds[i]? with
    | none => rw [e1] at hd; simp at hd
    | some d1 =>
      cases e2 : es[i]? with
      | none => rw [e1, e2] at hd; simp at hd
      | some d2 =>
        rw [e1, e2] at hd
        simp only [Option.some.injEq] at hd
        subst hd
        obtain ⟨v, hv, rv⟩ := r.get e1
        obtain ⟨v', hv', rv'⟩ := r'.get e2
        have := hy xs (h1 H (Fit.dn s1 s2))
        rw [hv] at this; cases this
        have := hz ys (h2 H (Fit.dn s1 s2))
        rw [hv'] at this; cases this
        exact ⟨_, grow_tup s2 hT, new_tup (H := H) s2 hT (.cons (Rp.mono s1 _ _ rv) (.cons (Rp.mono s1 _ _ rv') .nil))⟩
  st := fun i F1 H s1 s2 hi => ⟨xs, ys, h1 H (Fit.dn s1 s2), h2 H (Fit.dn s1 s2), by rw [r.length, r'.length, hi]; simp [zipD]⟩
def zipCM (a b : M R) : M (List D) := bindM (argsM [a, b]) fun ds => fun δ => match ds with
  | [d, e] => match compD d, compD e with
    | some xs, some ys => some (.ok (zipD xs ys) δ)
    | _, _ => none
  | _ => none
theorem pi_zipCM {X : Cx} {E : WS} {e e2 : Expr} {a b : M R} {p pos tpos : Pos} {elts : List Expr} {kk : Nat} (hg : Gl X "zip") (hm : X.mg "zip" = none) (ha : PE X e (tR (gx X) E a)) (hb : PE X e2 (tR (gx X) E b))
    (hs : starEach [e, e2] X.env = (false, eval e X.env) :: starEach [e2] X.env) (hs2 : starEach [e2] X.env = [(false, eval e2 X.env)]) (hpl : (backTo pos (starEach [e2] X.env)).any (·.1) = false) :
    PI X (.Tuple elts kk tpos) (.Call (.Name "zip" p) [e, e2] [] pos) (tI (gx X) E (zipCM a b)) := by
  refine (pi_zipC hg hm (pa_args ha (pa_args hb pa_args_nil hs2) hs) hs hpl).imp fun σ H R ⟨O, F, δ, M, w⟩ => ⟨O, F, δ, M, wp_mono (wp_bind w) fun F1 H1 δ1 ds s1 M1 w1 vs hv => ?_⟩
  unfold wp at w1
  simp only at w1
  split at w1
  · exact w1.elim
  · rename_i q δ2 e1
    split at e1
    · split at e1
      · rename_i d1 d2 xs ys c1 c2
        cases e1
        obtain ⟨v, v', rfl, r, r'⟩ := hv.two
        obtain ⟨us, k1, ra⟩ := r.comp c1
        obtain ⟨ws, k2, rb⟩ := r'.comp c2
        exact ⟨v, v', us, ws, rfl, k1 _ M1.fh, k2 _ M1.fh, fun c c' z z' => w1 F1 H1 (Same.refl _) M1 _ (wk_zipC (fun H fh => (k1 H fh).ok z) (fun H fh => (k2 H fh).ok z') ra rb)⟩
      · cases e1
    · cases e1
  · rename_i e1
    split at e1
    · split at e1 <;> cases e1
    · cases e1
/-- zip(a, b): two tuples, two lists, a text and a tuple .. -/
def zipOf : List D → Option (List D)
  | [.tup xs, .tup ys] => some (zipD xs ys)
  | [d, e] => match d.seqL, e.seqL with
    | some xs, some ys => some (zipD xs ys)
    | _, _ => match compD d, compD e with
      | some xs, some ys => some (zipD xs ys)
      | _, _ => none
  | _ => none
def zipAM (a b : M R) : M (List D) := bindM (argsM [a, b]) fun ds => optM (zipOf ds)
theorem pi_zipAM {X : Cx} {E : WS} {e e2 : Expr} {a b : M R} {p pos tpos : Pos} {elts : List Expr} {kk : Nat} (hg : Gl X "zip") (hm : X.mg "zip" = none) (ha : PE X e (tR (gx X) E a)) (hb : PE X e2 (tR (gx X) E b))
    (hs : starEach [e, e2] X.env = (false, eval e X.env) :: starEach [e2] X.env) (hs2 : starEach [e2] X.env = [(false, eval e2 X.env)]) (hpl : (backTo pos (starEach [e2] X.env)).any (·.1) = false) :
    PI X (.Tuple elts kk tpos) (.Call (.Name "zip" p) [e, e2] [] pos) (tI (gx X) E (zipAM a b)) := by
  refine ((pi_zi hg hm ha hb hs hs2 hpl).or (pi_zipCM hg hm ha hb hs hs2 hpl)).imp fun σ H R ⟨O, F, δ, M, w⟩ => ?_
  unfold wp zipAM at w
  cases e1 : argsM [a, b] δ with
  | none => simp only [bindM, e1] at w
  | some r =>
    cases r with
    | err x δ' =>
      simp only [bindM, e1] at w
      refine .inl ⟨O, F, δ, M, ?_⟩
      unfold wp zipM
      simp only [bindM, e1]
      exact w
    | ok ds δ' =>
      simp only [bindM, e1, optM] at w
      cases ez : zipOf ds with
      | none => rw [ez] at w; exact w.elim
      | some zs =>
        rw [ez] at w
        simp only [Option.map_some] at w
        unfold zipOf at ez
        split at ez
        · cases ez
          refine .inl ⟨O, F, δ, M, ?_⟩
          unfold wp zipM
          simp only [bindM, e1]
          exact w
        · rename_i d1 d2 hnt
          split at ez
          · rename_i xs ys s1 s2
            cases ez
            refine .inl ⟨O, F, δ, M, ?_⟩
            unfold wp zipM
            cases d1 <;> cases s1 <;> cases d2 <;> cases s2 <;> (simp only [bindM, e1, D.seqL]; exact w)
          · split at ez
            · rename_i xs ys s1 s2
              cases ez
              refine .inr ⟨O, F, δ, M, ?_⟩
              unfold wp zipCM
              simp only [bindM, e1, s1, s2]
              exact w
            · cases ez
        · cases ez
end Ev

set_option Elab.async false
set_option linter.all false
set_option maxRecDepth 100000
namespace Ev
open PySem PySem.Spec PyProof.Rows L2

/-! ### max, min of a list -/
def maxF : List D → Option S
  | [.int i, .int j] => some (.d (.int (if j > i then j else i)))
  | [d] => match d.seqL with
    | some xs => match intsOf xs with
      | some (b :: bs) => some (.d (.int (bs.foldl (fun m y => if y > m then y else m) b)))
      | _ => none
    | none => none
  | _ => none
def minF : List D → Option S
  | [.int i, .int j] => some (.d (.int (if j < i then j else i)))
  | [d] => match d.seqL with
    | some xs => match intsOf xs with
      | some (b :: bs) => some (.d (.int (bs.foldl (fun m y => if y < m then y else m) b)))
      | _ => none
    | none => none
  | _ => none
theorem foldMax : ∀ (bs : List Int) (b : Int), bs.foldl (fun m y => if y > m then y else m) b ∈ b :: bs ∧ ∀ y ∈ b :: bs, y ≤ bs.foldl (fun m y => if y > m then y else m) b
  | [], b => ⟨by simp, by simp⟩
  | c :: cs, b => by
    obtain ⟨h1, h2⟩ := foldMax cs (if c > b then c else b)
    refine ⟨?_, fun y hy => ?_⟩
    · show List.foldl _ (if c > b then c else b) cs ∈ _
      rcases List.mem_cons.mp h1 with e | e
      · rw [e]; split <;> simp
      · exact List.mem_cons_of_mem _ (List.mem_cons_of_mem _ e)
    · have h3 := h2 _ (List.mem_cons_self ..)
      rcases List.mem_cons.mp hy with rfl | hy
      · refine Int.le_trans ?_ h3; split <;> omega
      · rcases List.mem_cons.mp hy with rfl | hy
        · refine Int.le_trans ?_ h3; split <;> omega
        · exact h2 _ (List.mem_cons_of_mem _ hy)
theorem foldMin : ∀ (bs : List Int) (b : Int), bs.foldl (fun m y => if y < m then y else m) b ∈ b :: bs ∧ ∀ y ∈ b :: bs, bs.foldl (fun m y => if y < m then y else m) b ≤ y
  | [], b => ⟨by simp, by simp⟩
  | c :: cs, b => by
    obtain ⟨h1, h2⟩ := foldMin cs (if c < b then c else b)
    refine ⟨?_, fun y hy => ?_⟩
    · show List.foldl _ (if c < b then c else b) cs ∈ _
      rcases List.mem_cons.mp h1 with e | e
      · rw [e]; split <;> simp
      · exact List.mem_cons_of_mem _ (List.mem_cons_of_mem _ e)
    · have h3 := h2 _ (List.mem_cons_self ..)
      rcases List.mem_cons.mp hy with rfl | hy
      · refine Int.le_trans h3 ?_; split <;> omega
      · rcases List.mem_cons.mp hy with rfl | hy
        · refine Int.le_trans h3 ?_; split <;> omega
        · exact h2 _ (List.mem_cons_of_mem _ hy)
section
variable {g : Gx}
theorem on_maxF : ON g (fun xs H Q => (∃ i j, xs = [.int i, .int j] ∧ Q (.int (if j > i then j else i)) H) ∨ rMax g.K xs H Q) maxF := by
  intro O F H vs ds s Q fh b ef q
  unfold maxF at ef
  split at ef
  · cases ef
    obtain ⟨v, w, rfl, b1, c⟩ := b.two
    have := b1.int; subst this
    have := c.int; subst this
    exact .inl ⟨_, _, rfl, q F H _ (Grow.refl fh) (.int _)⟩
  · split at ef
    · rename_i xs ex
      split at ef
      · rename_i b0 bs eb
        cases ef
        obtain ⟨v, rfl, b1⟩ := b.one
        obtain ⟨a, vs, rfl, h1, r⟩ := b1.seqL ex fh
        have := r.intsOf eb; subst this
        refine .inr ⟨a, b0 :: bs, rfl, h1, by simp, fun m hm hall => ?_⟩
        obtain ⟨k1, k2⟩ := foldMax bs b0
        have e : m = bs.foldl (fun m y => if y > m then y else m) b0 := Int.le_antisymm (k2 _ hm) (hall _ k1)
        subst e
        exact q F H _ (Grow.refl fh) (.int _)
      · cases ef
    · cases ef
  · cases ef
theorem on_minF : ON g (fun xs H Q => (∃ i j, xs = [.int i, .int j] ∧ Q (.int (if j < i then j else i)) H) ∨ rMin g.K xs H Q) minF := by
  intro O F H vs ds s Q fh b ef q
  unfold minF at ef
  split at ef
  · cases ef
    obtain ⟨v, w, rfl, b1, c⟩ := b.two
    have := b1.int; subst this
    have := c.int; subst this
    exact .inl ⟨_, _, rfl, q F H _ (Grow.refl fh) (.int _)⟩
  · split at ef
    · rename_i xs ex
      split at ef
      · rename_i b0 bs eb
        cases ef
        obtain ⟨v, rfl, b1⟩ := b.one
        obtain ⟨a, vs, rfl, h1, r⟩ := b1.seqL ex fh
        have := r.intsOf eb; subst this
        refine .inr ⟨a, b0 :: bs, rfl, h1, by simp, fun m hm hall => ?_⟩
        obtain ⟨k1, k2⟩ := foldMin bs b0
        have e : m = bs.foldl (fun m y => if y < m then y else m) b0 := Int.le_antisymm (hall _ k1) (k2 _ hm)
        subst e
        exact q F H _ (Grow.refl fh) (.int _)
      · cases ef
    · cases ef
  · cases ef
end

/-! ### enumerate of a list, a tuple or a text, from any number on -/
inductive Ce where
  | txt (x : Str) (t : Tok) | tup (a : Addr) | lst (a : Addr)
def Ce.base : Ce → List Addr
  | .txt _ _ => []
  | .tup a => [a]
  | .lst a => [a]
def Ce.st (it i : Nat) (h : Heap) : Ce → Prop
  | .txt x t => h.IsStrIter it (strIterType x) x t i
  | .tup a => h.IsTupleIter it a i
  | .lst a => h.IsListIter it a i
def Ce.ok (K : PySem.W.Frag) (H : Hp) (xs : List V) : Ce → Prop
  | .txt x _ => xs = x.cps.toList.map fun c => V.str ⟨#[c]⟩
  | .tup a => SqT K H a xs
  | .lst a => SqL K H a xs
theorem Ce.uniq {X : Cx} {pins : List (Addr × Obj)} {σ : L2.St} {H : Hp} {s : Shared} (I : Inv X pins σ H s) {c : Ce} {xs ys : List V} (h1 : c.ok X.K H xs) (h2 : c.ok X.K H ys) : xs = ys := by
  cases c with
  | txt x t => exact h1.trans h2.symm
  | tup a => exact I.tuple_inj h1 h2
  | lst a => exact I.list_inj h1 h2
theorem Ce.stays {it i : Nat} {h h' : Heap} {c : Ce} (x : c.st it i h) (k : ∀ o, h.get? it = some o → h'.get? it = some o) : c.st it i h' := by
  cases c with
  | txt z t => obtain ⟨o, e, r⟩ := x; exact ⟨o, k o e, r⟩
  | tup a => exact x.at k
  | lst a => exact x.at k
theorem Ce.there {it i : Nat} {h : Heap} {c : Ce} (x : c.st it i h) : ∃ o, h.get? it = some o ∧ ∀ v, o.data ≠ .cell v := by
  cases c with
  | txt z t => obtain ⟨o, e, _, d⟩ := x; exact ⟨o, e, fun v q => by rw [d] at q; cases q⟩
  | tup a => obtain ⟨o, e, _, d⟩ := x; exact ⟨o, e, fun v q => by rw [d] at q; cases q⟩
  | lst a => obtain ⟨o, e, _, d⟩ := x; exact ⟨o, e, fun v q => by rw [d] at q; cases q⟩
theorem Ce.draws {X : Cx} {pins : List (Addr × Obj)} {σ : L2.St} {H : Hp} {s : Shared} {A : Around} (I : Inv X pins σ H s) (hh : A.handled = none) {c : Ce} {it : Addr} {xs : List V} (ok : c.ok X.K H xs) (ne : it ∉ c.base) :
    ∃ (P : Nat → Value → Prop) (St : Nat → Heap → Prop), Draws X.prog X.w A it (it :: c.base) xs.length P St ∧ (∀ i v, P i v → ∃ x, xs[i]? = some x ∧ RelV x v) ∧ (∀ i, c.st it i s.heap → St i s.heap) ∧ ∀ i h, St i h → c.st it i h := by
  have get {its : List Value} (rv : Vals xs its) (i : Nat) (v : Value) (h : its.toArray[i]? = some v) : ∃ x, xs[i]? = some x ∧ RelV x v := by
    have h' : its[i]? = some v := by simpa using h
    cases e : xs[i]? with
    | none => rw [rv.none_of e] at h'; cases h'
    | some x =>
      obtain ⟨u, eu, ru⟩ := rv.get e
      rw [h'] at eu; cases eu
      exact ⟨x, rfl, ru⟩
  cases c with
  | txt x t =>
    have e : xs = x.cps.toList.map fun c => V.str ⟨#[c]⟩ := ok
    have l : xs.length = x.cps.size := by rw [e]; simp
    refine ⟨fun i v => ∃ c u, x.cps[i]? = some c ∧ v = .str ⟨#[c]⟩ u, fun i h => h.IsStrIter it (strIterType x) x t i, by rw [l]; exact Draws.text hh it x t, fun i v ⟨ch, u, h1, h2⟩ => ⟨V.str ⟨#[ch]⟩, ?_, ⟨u, h2⟩⟩, fun i h => h, fun i h q => q⟩
    rw [e, List.getElem?_map, Array.getElem?_toList, h1]; rfl
  | tup a =>
    obtain ⟨its, rv, p, _⟩ := I.tuple ok
    have hne : a ≠ it := fun z => ne (by rw [z]; exact List.mem_singleton.mpr rfl)
    have l : xs.length = its.toArray.size := by rw [rv.length]; simp
    exact ⟨fun i v => its.toArray[i]? = some v, fun i h => h.IsTupleIter it a i ∧ h.IsTuple a its.toArray, by rw [l]; exact Draws.tuple hh it a hne its.toArray, get rv, fun i h => ⟨h, p⟩, fun i h q => q.1⟩
  | lst a =>
    obtain ⟨its, rv, p, _⟩ := I.list ok
    have hne : a ≠ it := fun z => ne (by rw [z]; exact List.mem_singleton.mpr rfl)
    have l : xs.length = its.toArray.size := by rw [rv.length]; simp
    exact ⟨fun i v => its.toArray[i]? = some v, fun i h => h.IsListIter it a i ∧ h.IsList a its.toArray, by rw [l]; exact Draws.list hh it a hne its.toArray, get rv, fun i h => ⟨h, p.isList⟩, fun i h q => q.1⟩
/-- the component as it stands at each turn, the items in new pairs, numbered from k on -/
def Je (K : PySem.W.Frag) (k : Int) (c : Ce) : It :=
  ⟨fun i H => ∃ xs : List V, c.ok K H xs ∧ i < xs.length,
    fun i H v H' => ∃ T x, v = .ref T ∧ H T = none ∧ H' = upd H T (.tup [.int (k + (i : Int)), x]) ∧ ∀ xs, c.ok K H xs → xs[i]? = some x,
    fun i H => ∃ xs : List V, c.ok K H xs ∧ i = xs.length⟩
theorem turn_enumC {P : Program} {w : World} {K : PySem.W.Frag} {elts : List Expr} {kk : Nat} {tpos : Pos} {c : Ce} {k : Int} {e it : Addr} (n1 : e ≠ it) (n2 : e ∉ it :: c.base) (n3 : it ∉ c.base) :
    Turn P w K (.Tuple elts kk tpos) (Je K k c) [e, it] e (fun i h => (∃ old, IsEnum h e it (k + (i : Int)) old) ∧ c.st it i h) where
  mem := by simp
  obj := fun i h ⟨⟨old, he⟩, h1⟩ b hb => by
    have e' : b = e ∨ b = it := by simpa using hb
    rcases e' with q | q <;> subst q
    · exact ⟨_, he, fun v q => nomatch q⟩
    · exact Ce.there h1
  keep := fun i h h' ⟨⟨old, he⟩, h1⟩ kp => ⟨⟨old, kp e (by simp) _ he⟩, Ce.stays h1 (kp it (by simp))⟩
  item := by
    intro X hP hw hK hc i pins s σ H E I hf ⟨he, h1⟩ ⟨xs, o1, hi⟩
    subst hP hw hK
    have hh : X.A.in1.handled = none := I.ok.hd hc
    obtain ⟨P1, S1, D1, p1, q1, r1⟩ := Ce.draws (A := X.A.in1) I hh o1 n3
    have G := GoesN.enumFrom (A := X.A) (elts := elts) (x1 := kk) (pos := tpos) k D1 e n1 n2 (List.mem_cons_self ..)
    refine wpAny_mono (G.goes i s (fun v s2 => ∃ x H', Inv X pins σ H' s2 ∧ RelV x v ∧ (Je X.K k c).yld i H x H' ∧ ((∃ old, IsEnum s2.heap e it (k + ((i + 1 : Nat) : Int)) old) ∧ c.st it (i + 1) s2.heap) ∧ ∀ b ∈ [e, it], H' b = none) E hi ⟨he, q1 i h1⟩ ?_) (fun r s1 h => h) fun _ _ h => h
    intro v h' tk ⟨T, t, u, ev, hT, hp1, tup⟩ ⟨he', st1⟩ kp _
    obtain ⟨x, ex, rx⟩ := p1 _ _ hp1
    subst ev
    have new : ObjOk X.prog X.w (upd H T (.tup [.int (k + (i : Int)), x])) h' T (.tup [.int (k + (i : Int)), x]) := by
      obtain ⟨o, g1, g2, n, g3⟩ := tup
      exact ⟨by show 2 ≤ sizeLine; decide, [.int (k + (i : Int)) t, u], .cons ⟨_, rfl⟩ (.cons rx .nil), o, g1, g2, n, g3⟩
    have I1 : Inv X pins σ (upd H T (.tup [.int (k + (i : Int)), x])) { s with heap := h', toks := tk } :=
      I.turnedNew (ch := [e, it]) (fun c o hb q => kp c o hb q) hf hT new
    refine ⟨.ref T, _, I1, rfl, ⟨T, x, rfl, I.hok.fresh hT, rfl, fun l hl => by rw [Ce.uniq I hl o1]; exact ex⟩, ⟨he', r1 _ _ st1⟩, fun b hb => ?_⟩
    have hlt : b < s.heap.objs.size := by
      obtain ⟨old, he⟩ := he
      have e' : b = e ∨ b = it := by simpa using hb
      rcases e' with q | q <;> subst q
      · exact Heap.lt_size he
      · obtain ⟨_, e, _⟩ := Ce.there h1; exact Heap.lt_size e
    rw [upd_ne (Nat.ne_of_lt (Nat.lt_of_lt_of_le hlt hT))]
    exact (hf b hb).1
  done := by
    intro X hP hw hK hc i pins s σ H E I hf ⟨he, h1⟩ ⟨xs, o1, hi⟩
    subst hP hw hK
    have hh : X.A.in1.handled = none := I.ok.hd hc
    obtain ⟨P1, S1, D1, p1, q1, r1⟩ := Ce.draws (A := X.A.in1) I hh o1 n3
    have G := GoesN.enumFrom (A := X.A) (elts := elts) (x1 := kk) (pos := tpos) k D1 e n1 n2 (List.mem_cons_self ..)
    subst hi
    exact G.stops s (fun s2 => Inv X pins σ H s2) E ⟨he, q1 _ h1⟩ fun h' tk kp _ => I.turnedL (ch := [e, it]) (fun c o hb q => kp c o hb q) hf
  self := fun A i s Q E st h => let ⟨⟨_, he⟩, _⟩ := st; wpAny_pyIter_enum he h
/-- the value of a component, of the kind kd -/
def CeIs (v : V) (kd : Nat) : Ce → Prop
  | .txt x _ => v = .str x ∧ kd = 0
  | .tup a => v = .ref a ∧ kd = 1
  | .lst a => v = .ref a ∧ kd = 2
def CeV (K : PySem.W.Frag) (H : Hp) (v : V) (xs : List V) (kd : Nat) : Prop := (kd = 0 ∧ ∃ x : Str, v = .str x ∧ xs = x.cps.toList.map fun c => V.str ⟨#[c]⟩) ∨ (kd = 1 ∧ ∃ a, v = .ref a ∧ SqT K H a xs) ∨ (kd = 2 ∧ ∃ a, v = .ref a ∧ SqL K H a xs)
theorem CeV.ok {K : PySem.W.Frag} {H : Hp} {v : V} {xs : List V} {kd : Nat} {c : Ce} (h : CeV K H v xs kd) (e : CeIs v kd c) : c.ok K H xs := by
  cases c with
  | txt x t =>
    obtain ⟨e1, e2⟩ : v = .str x ∧ kd = 0 := e
    subst e1 e2
    rcases h with ⟨_, y, h1, h2⟩ | ⟨z, _⟩ | ⟨z, _⟩
    · cases h1; exact h2
    · cases z
    · cases z
  | tup a =>
    obtain ⟨e1, e2⟩ : v = .ref a ∧ kd = 1 := e
    subst e1 e2
    rcases h with ⟨z, _⟩ | ⟨_, b, h1, h2⟩ | ⟨z, _⟩
    · cases z
    · cases h1; exact h2
    · cases z
  | lst a =>
    obtain ⟨e1, e2⟩ : v = .ref a ∧ kd = 2 := e
    subst e1 e2
    rcases h with ⟨z, _⟩ | ⟨z, _⟩ | ⟨_, b, h1, h2⟩
    · cases z
    · cases z
    · cases h1; exact h2
/-- a component as it begins to be walked -/
theorem CeV.begins {X : Cx} {pins : List (Addr × Obj)} {σ : L2.St} {H : Hp} {s : Shared} {v : V} {u : Value} {xs : List V} {kd : Nat} (I : Inv X pins σ H s) (h : CeV X.K H v xs kd) (r : RelV v u) :
    ∃ (c : Ce) (o : Obj) (B : Heap → Prop), CeIs v kd c ∧ Begins u o B ∧ B s.heap ∧ (∀ (h' : Heap) (it : Addr), h'.get? it = some o → c.st it 0 h') ∧ ∀ b ∈ c.base, b < s.heap.objs.size := by
  rcases h with ⟨rfl, x, rfl, _⟩ | ⟨rfl, a, rfl, hq⟩ | ⟨rfl, a, rfl, hq⟩
  · obtain ⟨t, rfl⟩ := r
    exact ⟨.txt x t, _, _, ⟨rfl, rfl⟩, begins_text x t, trivial, fun h' it e => ⟨_, e, rfl, rfl⟩, fun b hb => nomatch hb⟩
  · cases r
    obtain ⟨its, rv, p, _⟩ := I.tuple hq
    have p' : s.heap.IsTuple a its.toArray := p
    obtain ⟨o, ho, _⟩ := id p'
    refine ⟨.tup a, _, _, ⟨rfl, rfl⟩, begins_tuple a its.toArray, p', fun h' it e => ⟨_, e, rfl, rfl⟩, fun b hb => ?_⟩
    obtain rfl : b = a := List.mem_singleton.mp hb
    exact Heap.lt_size ho
  · cases r
    obtain ⟨its, rv, p, _⟩ := I.list hq
    obtain ⟨o, ho, _⟩ := id p.isList
    refine ⟨.lst a, _, _, ⟨rfl, rfl⟩, begins_list a its.toArray, p.isList, fun h' it e => ⟨_, e, rfl, rfl⟩, fun b hb => ?_⟩
    obtain rfl : b = a := List.mem_singleton.mp hb
    exact Heap.lt_size ho
def iEnumC (K : PySem.W.Frag) (k : Int) (ta : TA) : TI := fun σ H R => ta σ H fun vs H1 => ∃ v xs kd, vs = [v] ∧ CeV K H1 v xs kd ∧ ∀ c, CeIs v kd c → R (Je K k c) H1
section
variable {X : Cx} {e e2 : Expr} {ta tk : TA} {p pos tpos kp : Pos} {elts : List Expr} {kk : Nat}
theorem enum_apart {n : Nat} {c : Ce} (lt1 : ∀ b ∈ c.base, b < n) : n + 1 ≠ n ∧ n + 1 ∉ n :: c.base ∧ n ∉ c.base := by
  refine ⟨Nat.succ_ne_self _, fun m => ?_, fun m => absurd (lt1 _ m) (Nat.lt_irrefl _)⟩
  rcases List.mem_cons.mp m with z | z
  · exact absurd z (Nat.succ_ne_self _)
  · exact absurd (lt1 _ z) (Nat.not_lt_of_le (Nat.le_succ _))
/-- enumerate(e, k) -/
def iEnumP (K : PySem.W.Frag) (t : TA) : TI := fun σ H R => t σ H fun vs H1 => ∃ v k xs kd, vs = [v, .int k] ∧ -(2 ^ 62) ≤ k ∧ k < 2 ^ 62 ∧ CeV K H1 v xs kd ∧ ∀ c, CeIs v kd c → R (Je K k c) H1
theorem pi_enumP (hg : Gl X "enumerate") (hm : X.mg "enumerate" = none) (ha : PA X [e, e2] ta)
    (hs : starEach [e, e2] X.env = (false, eval e X.env) :: starEach [e2] X.env) (hpl : (backTo pos (starEach [e2] X.env)).any (·.1) = false) :
    PI X (.Tuple elts kk tpos) (.Call (.Name "enumerate" p) [e, e2] [] pos) (iEnumP X.K ta) := by
  refine ⟨fun pins s σ H R I h => Call_ (ld_blt I hg hm boot_enumerate (PyProof.Rows.callWith_type1 (thn (ha.run pos pins s σ H _ I h) fun us s1 ⟨vs, H1, I1, r1, q1⟩ => ?_) hs hpl))⟩
  obtain ⟨v, k, xs, kd, rfl, k0, k1, cv, q⟩ := q1
  obtain ⟨u1, u2, rfl, ru1, ru2⟩ := vals2 r1
  obtain ⟨t, rfl⟩ := ru2
  obtain ⟨c, o, B, e1, b1, h1, st1, lt1⟩ := cv.begins I1 ru1
  obtain ⟨n1, n2, n3⟩ := enum_apart lt1
  refine enum_begins b1 h1 (by omega) (by omega) fun h' he g1 hsz hk => wpAny_pyIter_enum he ?_
  have I2 : Inv X pins σ H1 { s1 with heap := h' } := I1.kept (t' := s1.toks) hk
  have he' : IsEnum h' (s1.heap.objs.size + 1) s1.heap.objs.size (k + ((0 : Nat) : Int)) .none := by simpa using he
  refine ⟨_, [s1.heap.objs.size + 1, s1.heap.objs.size], _, _, H1, rfl, I2, turn_enumC (k := k) n1 n2 n3, ⟨⟨_, he'⟩, st1 _ _ g1⟩, fun b hb => ?_, q c e1⟩
  have hle : s1.heap.objs.size ≤ b := by
    have : b = s1.heap.objs.size + 1 ∨ b = s1.heap.objs.size := by simpa using hb
    rcases this with z | z <;> rw [z] <;> first | exact Nat.le_refl _ | exact Nat.le_add_right _ _
  exact I1.fpOk hle (I1.hok.fresh hle)
/-- a class of the language called with keywords -/
theorem call_tyKw {M : Model} {A : Around} {E : Value → Shared → Prop} {s : Shared} {env : Env} {T : String} {e : Expr} {kws : List Keyword} {Q : Value → Shared → Prop}
    (h : wpAny M A (spliced (backTo pos (starEach [e] env))) (fun vs s1 => wpAny M A (evalAll ((backToKw pos (keywordEach kws env)).map (·.2))) (fun ws s2 => wpAny M A (call (.type T) vs (((backToKw pos (keywordEach kws env)).filterMap (·.1)).zip ws)) Q E s2) E s1) E s)
    (he : backTo pos (starEach [e] env) = [(false, eval e env)]) (ha : (backToKw pos (keywordEach kws env)).all (·.1.isSome) = true) (hn : (backToKw pos (keywordEach kws env)).any (·.1.isNone) = false) :
    wpAny M A (callWith pos (.type T) [] (backTo pos (starEach [e] env)) (backToKw pos (keywordEach kws env))) Q E s := by
  have got : wpAny M A (evalArgs (.type T) true (backTo pos (starEach [e] env)) (backToKw pos (keywordEach kws env))) (fun a s1 => wpAny M A (call (.type T) ([] ++ a.pos) a.kw) Q E s1) E s := by
    rw [he] at h ⊢
    exact PyProof.Rows.evalArgs_kwB ha h
  have plain : (backTo pos (starEach [e] env)).any (·.1) = false := by rw [he]; rfl
  unfold callWith
  refine wpAny_bind (wpAny_holding (wpAny_mono got (fun a s1 g1 => ?_) fun _ _ x => x))
  refine wpAny_bind (wpAny_standAt ?_)
  rw [plain, hn, Bool.or_false]
  refine wpAny_bind (wpAny_pure (wpAny_bind (wpAny_mono g1 (fun r s2 g2 => ?_) fun _ _ x => x)))
  exact wpAny_bind (wpAny_holding (wpAny_point (wpAny_pure g2)))
/-- enumerate(e, start=k) -/
def iEnumK (K : PySem.W.Frag) (t tk : TA) : TI := fun σ H R => t σ H fun vs H1 => tk σ H1 fun zs H2 => ∃ v k xs kd, vs = [v] ∧ zs = [.int k] ∧ -(2 ^ 62) ≤ k ∧ k < 2 ^ 62 ∧ CeV K H2 v xs kd ∧ ∀ c, CeIs v kd c → R (Je K k c) H2
theorem pi_enumK (hg : Gl X "enumerate") (hm : X.mg "enumerate" = none) (ha : PA X [e] ta) (hk : PK X [⟨some "start", e2, kp⟩] tk) (hs : starEach [e] X.env = [(false, eval e X.env)]) :
    PI X (.Tuple elts kk tpos) (.Call (.Name "enumerate" p) [e] [⟨some "start", e2, kp⟩] pos) (iEnumK X.K ta tk) := by
  refine ⟨fun pins s σ H R I h => wpAny_Call_Name_kw (ld_blt I hg hm boot_enumerate (call_tyKw (thn (ha.run pos pins s σ H _ I h) fun us s1 ⟨vs, H1, I1, r1, q1⟩ => thn (hk.run pos pins s1 σ H1 _ I1 q1) fun ws s2 ⟨zs, H2, I2, r2, q2⟩ => ?_) (by rw [hs]; rfl) rfl rfl))⟩
  obtain ⟨v, k, xs, kd, rfl, rfl, k0, k1, cv, q⟩ := q2
  obtain ⟨u1, rfl, ru1⟩ := vals1 r1
  obtain ⟨u2, rfl, ru2⟩ := vals1 r2
  obtain ⟨t, rfl⟩ := ru2
  obtain ⟨c, o, B, e1, b1, h1, st1, lt1⟩ := cv.begins I2 ru1
  obtain ⟨n1, n2, n3⟩ := enum_apart lt1
  refine enum_begins_start b1 h1 (by omega) (by omega) fun h' he g1 hsz hk => wpAny_pyIter_enum he ?_
  have I3 : Inv X pins σ H2 { s2 with heap := h' } := I2.kept (t' := s2.toks) hk
  have he' : IsEnum h' (s2.heap.objs.size + 1) s2.heap.objs.size (k + ((0 : Nat) : Int)) .none := by simpa using he
  refine ⟨_, [s2.heap.objs.size + 1, s2.heap.objs.size], _, _, H2, rfl, I3, turn_enumC (k := k) n1 n2 n3, ⟨⟨_, he'⟩, st1 _ _ g1⟩, fun b hb => ?_, q c e1⟩
  have hle : s2.heap.objs.size ≤ b := by
    have : b = s2.heap.objs.size + 1 ∨ b = s2.heap.objs.size := by simpa using hb
    rcases this with z | z <;> rw [z] <;> first | exact Nat.le_refl _ | exact Nat.le_add_right _ _
  exact I2.fpOk hle (I2.hok.fresh hle)
end
/-! ### by data -/
def compE (d : D) : Option (List D) := match d.seqL with
  | some xs => some xs
  | none => compD d
theorem Rp.compE {g : Gx} {F : Hp} {v : V} {d : D} {ds : List D} (h : Rp g F v d) (e : compE d = some ds) : ∃ xs kd, (∀ H, Fit F H → CeV g.K H v xs kd) ∧ RpA g F xs ds := by
  unfold Ev.compE at e
  cases d with
  | str x =>
    cases e; cases h
    refine ⟨x.cps.toList.map fun c => V.str ⟨#[c]⟩, 0, fun H _ => .inl ⟨rfl, x, rfl, rfl⟩, ?_⟩
    unfold signsD
    generalize x.cps.toList = l
    induction l with
    | nil => exact .nil
    | cons a r ih => exact .cons (.str _) ih
  | tup ys => cases e; cases h with | tup q r => exact ⟨_, 1, fun H fh => .inr (.inl ⟨rfl, _, rfl, fit_tup fh q⟩), r⟩
  | lst ys => cases e; cases h with | lst q r => exact ⟨_, 2, fun H fh => .inr (.inr ⟨rfl, _, rfl, fit_seq fh (.inl (.inl q))⟩), r⟩
  | scr ys => cases e; cases h with | scr q r => exact ⟨_, 2, fun H fh => .inr (.inr ⟨rfl, _, rfl, fit_seq fh q⟩), r⟩
  | _ => cases e
def enumFD (k : Int) (ds : List D) : List D := (List.range ds.length).map fun (i : Nat) => D.tup [.int (k + (i : Int)), ds.getD i .non]
theorem wk_enumC {g : Gx} {F : Hp} {c : Ce} {k : Int} {xs : List V} {ds : List D} (h : ∀ H, Fit F H → c.ok g.K H xs) (r : RpA g F xs ds) : Wk g (Je g.K k c) F (enumFD k ds) where
  go := fun i F1 H s1 s2 hi => ⟨xs, h H (Fit.dn s1 s2), by rw [r.length]; simpa [enumFD] using hi⟩
  yl := fun i F1 H x H' d s1 s2 hd hy => by
    obtain ⟨T, y, rfl, hT, rfl, hy⟩ := hy
    simp only [enumFD, List.getElem?_map, Option.map_eq_some_iff] at hd
    obtain ⟨j, hj, rfl⟩ := hd
    rw [List.getElem?_eq_some_iff] at hj
    obtain ⟨hj1, hj2⟩ := hj
    simp only [List.getElem_range] at hj2
    subst hj2
    have hl : i < ds.length := by simpa using hj1
    obtain ⟨v, hv, rv⟩ := r.get (i := i) (d := ds.getD i .non) (by rw [List.getD_eq_getElem?_getD]; simp [List.getElem?_eq_getElem hl])
    have := hy xs (h H (Fit.dn s1 s2))
    rw [hv] at this; cases this
    exact ⟨_, grow_tup s2 hT, new_tup (H := H) s2 hT (.cons (.int _) (.cons (Rp.mono s1 _ _ rv) .nil))⟩
  st := fun i F1 H s1 s2 hi => ⟨xs, h H (Fit.dn s1 s2), by rw [r.length, hi]; simp [enumFD]⟩
def enumOf (d e : D) : Option (List D) := match d, e with
  | d, .int k => if -(2 ^ 62) ≤ k ∧ k < 2 ^ 62 then (compE d).map (enumFD k) else none
  | _, _ => none
theorem enumOf_is {d e : D} {xs : List D} (h : enumOf d e = some xs) : ∃ k ds, e = .int k ∧ -(2 ^ 62) ≤ k ∧ k < 2 ^ 62 ∧ compE d = some ds ∧ xs = enumFD k ds := by
  unfold enumOf at h
  split at h
  · split at h
    · rename_i k hk
      rw [Option.map_eq_some_iff] at h
      obtain ⟨ds, e1, rfl⟩ := h
      exact ⟨_, ds, rfl, hk.1, hk.2, e1, rfl⟩
    · cases h
  · cases h
def enumLs : List D → Option (List D)
  | [d, e] => enumOf d e
  | _ => none
def enumL2 : List D → List D → Option (List D)
  | [d], [e] => enumOf d e
  | _, _ => none
/-- enumerate(a, b) -/
def enumPM (a b : M R) : M (List D) := bindM (argsM [a, b]) fun ds => optM (enumLs ds)
/-- enumerate(a, start=b) -/
def enumKM (a b : M R) : M (List D) := bindM (argsM [a]) fun ds => bindM (argsM [b]) fun es => optM (enumL2 ds es)
theorem len_two {ds : List D} {xs : List D} (h : enumLs ds = some xs) : ∃ d e, ds = [d, e] ∧ enumOf d e = some xs := by
  unfold enumLs at h
  split at h
  · exact ⟨_, _, rfl, h⟩
  · cases h
theorem len_oo {ds es : List D} {xs : List D} (h : enumL2 ds es = some xs) : ∃ d e, ds = [d] ∧ es = [e] ∧ enumOf d e = some xs := by
  unfold enumL2 at h
  split at h
  · exact ⟨_, _, rfl, rfl, h⟩
  · cases h
section
variable {X : Cx} {E : WS} {e e2 : Expr} {a b : M R} {p pos tpos kp : Pos} {elts : List Expr} {kk : Nat}
theorem pi_enumPM (hg : Gl X "enumerate") (hm : X.mg "enumerate" = none) (ha : PE X e (tR (gx X) E a)) (hb : PE X e2 (tR (gx X) E b))
    (hs : starEach [e, e2] X.env = (false, eval e X.env) :: starEach [e2] X.env) (hs2 : starEach [e2] X.env = [(false, eval e2 X.env)]) (hpl : (backTo pos (starEach [e2] X.env)).any (·.1) = false) :
    PI X (.Tuple elts kk tpos) (.Call (.Name "enumerate" p) [e, e2] [] pos) (tI (gx X) E (enumPM a b)) := by
  refine (pi_enumP hg hm (pa_args ha (pa_args hb pa_args_nil hs2) hs) hs hpl).imp fun σ H R ⟨O, F, δ, M, w⟩ => ⟨O, F, δ, M, wp_mono (wp_bind w) fun F1 H1 δ1 ds s1 M1 w1 vs hv => ?_⟩
  cases ex : enumLs ds with
  | none => rw [ex] at w1; exact w1.elim
  | some xs =>
    rw [ex] at w1
    obtain ⟨d1, d2, rfl, e1⟩ := len_two ex
    obtain ⟨k, ds, rfl, k0, k1, c1, rfl⟩ := enumOf_is e1
    obtain ⟨v, v', rfl, r, r'⟩ := hv.two
    cases r'
    obtain ⟨us, kd, cv, ra⟩ := r.compE c1
    exact ⟨v, k, us, kd, rfl, k0, k1, cv _ M1.fh, fun c z => w1 F1 H1 (Same.refl _) M1 _ (wk_enumC (fun H fh => (cv H fh).ok z) ra)⟩
theorem pi_enumKM (hg : Gl X "enumerate") (hm : X.mg "enumerate" = none) (ha : PE X e (tR (gx X) E a)) (hb : PE X e2 (tR (gx X) E b)) (hs : starEach [e] X.env = [(false, eval e X.env)]) :
    PI X (.Tuple elts kk tpos) (.Call (.Name "enumerate" p) [e] [⟨some "start", e2, kp⟩] pos) (tI (gx X) E (enumKM a b)) := by
  refine (pi_enumK hg hm (pa_args ha pa_args_nil hs) (pk_cons' hb pk_nil') hs).imp fun σ H R ⟨O, F, δ, M, w⟩ => ⟨O, F, δ, M, wp_mono (wp_bind w) fun F1 H1 δ1 ds s1 M1 w1 vs hv => ?_⟩
  refine ⟨O, F1, δ1, M1, wp_mono (wp_bind w1) fun F2 H2 δ2 es s2 M2 w2 zs hz => ?_⟩
  cases ex : enumL2 ds es with
  | none => rw [ex] at w2; exact w2.elim
  | some xs =>
    rw [ex] at w2
    obtain ⟨d1, d2, rfl, rfl, e1⟩ := len_oo ex
    obtain ⟨k, ds, rfl, k0, k1, c1, rfl⟩ := enumOf_is e1
    obtain ⟨v, rfl, r⟩ := hv.one
    obtain ⟨v', rfl, r'⟩ := hz.one
    cases r'
    obtain ⟨us, kd, cv, ra⟩ := (Rp.mono s2 _ _ r).compE c1
    exact ⟨v, k, us, kd, rfl, rfl, k0, k1, cv _ M2.fh, fun c z => w2 F2 H2 (Same.refl _) M2 _ (wk_enumC (fun H fh => (cv H fh).ok z) ra)⟩
end
end Ev

set_option Elab.async false
set_option linter.all false
set_option maxRecDepth 100000
namespace Ev
open PySem PySem.Spec PyProof.Rows L2

/-! ### x, y = a, b, new lists kept as they are -/
theorem Ms.hold {g : Gx} {O F H : Hp} {σ : L2.St} {δ : Dl} {a : Addr} {o : HO} (M : Ms g O F H σ δ) (ha : H a = some o) (fa : F a = none) (ap : Apart σ δ (.ref a)) : Ms g (upd O a o) F H σ δ := by
  refine ⟨M.fh, fun b x e => ?_, fun b => ?_, fun i s h hm => ?_, M.ap, fun i cs h => ?_, M.m1⟩
  · by_cases hb : b = a
    · subst hb; rw [upd_same] at e; cases e; exact ha
    · rw [upd_ne hb] at e; exact M.oh _ _ e
  · by_cases hb : b = a
    · subst hb; exact .inl fa
    · rw [upd_ne hb]; exact M.dj b
  · obtain ⟨v, ev, r⟩ := M.sl i s h hm
    have key : s.isOwn = true → OwnedS g O F H v s → OwnedS g (upd O a o) F H v s := fun hs q => by
      obtain ⟨b, u, rfl, e1, e2, e3, e4⟩ := q
      have : b ≠ a := fun z => by subst z; exact ap i s h hs ev
      exact ⟨b, u, rfl, e1, e2, e3, by rw [upd_ne this]; exact e4⟩
    refine ⟨v, ev, ?_⟩
    cases s with
    | d x => exact r
    | own xs => exact key rfl r
    | od ks xs => exact key rfl r
    | mem cs => cases hm
  · have c := M.mm i cs h
    refine ⟨fun b n q => ?_, c.all, c.one⟩
    obtain ⟨xs, vs, h1, h2, h3, h4⟩ := c.at_ b n q
    exact ⟨xs, vs, h1, h2, h3, by rw [upd_ne (fun z => by subst z; rw [fa] at q; cases q)]; exact h4⟩
def keepM (m : M R) : M S := fun δ => match m δ with
  | some (.ok (.own xs) δ') => some (.ok (.own xs) δ')
  | _ => bindM (datM m) (fun x => retM (S.d x)) δ
def partsM : List (M R) → M (List S)
  | [] => retM []
  | m :: ms => bindM (keepM m) fun s => bindM (partsM ms) fun ss => retM (s :: ss)
/-- the parts: data, or lists held by nobody else, all apart -/
def PartsR (g : Gx) (O F H : Hp) (σ : L2.St) (δ : Dl) : List V → List S → Prop
  | [], [] => True
  | v :: vs, s :: ss => (RpT g O F H σ δ v s ∧ (s.isOwn = true → ∀ (j : Nat) w t, vs[j]? = some w → ss[j]? = some t → t.isOwn = true → w ≠ v)) ∧ PartsR g O F H σ δ vs ss
  | _, _ => False
theorem RpT.unO {g : Gx} {O F H : Hp} {σ : L2.St} {δ : Dl} {v : V} {s : S} {a : Addr} {o : HO} (r : RpT g (upd O a o) F H σ δ v s) (oa : O a = none) : RpT g O F H σ δ v s ∧ (s.isOwn = true → v ≠ .ref a) := by
  have key (t : S) (q : OwnedS g (upd O a o) F H v t) : OwnedS g O F H v t ∧ v ≠ .ref a := by
    obtain ⟨b, u, rfl, e1, e2, e3, e4⟩ := q
    have : b ≠ a := fun z => by subst z; rw [upd_same] at e4; cases e4
    exact ⟨⟨b, u, rfl, e1, e2, e3, by rw [upd_ne this] at e4; exact e4⟩, fun z => this (V.ref.inj z)⟩
  cases s with
  | d x => exact ⟨r, fun z => by cases z⟩
  | own xs => exact ⟨⟨(key _ r.1).1, r.2⟩, fun _ => (key _ r.1).2⟩
  | od ks xs => exact ⟨⟨(key _ r.1).1, r.2⟩, fun _ => (key _ r.1).2⟩
  | mem cs => exact ⟨⟨(key _ r.1).1, r.2⟩, fun _ => (key _ r.1).2⟩
theorem PartsR.unO {g : Gx} {O F H : Hp} {σ : L2.St} {δ : Dl} {a : Addr} {o : HO} (oa : O a = none) : ∀ {vs : List V} {ss : List S}, PartsR g (upd O a o) F H σ δ vs ss → PartsR g O F H σ δ vs ss ∧ ∀ (j : Nat) w t, vs[j]? = some w → ss[j]? = some t → t.isOwn = true → w ≠ .ref a
  | [], [], _ => ⟨trivial, fun j w t h => by simp at h⟩
  | v :: vs, s :: ss, h => by
    obtain ⟨⟨h1, h2⟩, h3⟩ := h
    obtain ⟨k1, k2⟩ := h1.unO oa
    obtain ⟨k3, k4⟩ := PartsR.unO oa h3
    refine ⟨⟨⟨k1, h2⟩, k3⟩, fun j w t hw ht ho => ?_⟩
    cases j with
    | zero => cases hw; cases ht; exact k2 ho
    | succ j => exact k4 j w t (by simpa using hw) (by simpa using ht) ho
  | [], _ :: _, h => h.elim
  | _ :: _, [], h => h.elim
def tPs (g : Gx) (E : WS) (m : M (List S)) : TA := fun σ H Q => ∃ O F δ, Ms g O F H σ δ ∧ wp g O F σ δ m (fun F' H' δ' ss => ∀ vs, PartsR g O F' H' σ δ' vs ss → Q vs H') (eE g (E σ))
section
variable {X : Cx} {E : WS} {e : Expr} {es : List Expr}
theorem pe_or {t t' : TE} (h : PE X e t) (h' : PE X e t') : PE X e (fun σ H Q => t σ H Q ∨ t' σ H Q) := ⟨fun pins s σ H Q I hw => hw.elim (h.run pins s σ H Q I) (h'.run pins s σ H Q I)⟩
theorem pa_impI {t t' : TA} (h : PA X es t) (k : ∀ σ H Q, t' σ H Q → t σ H Q) : PA X es t' := ⟨fun pos pins s σ H Q I hw => h.run pos pins s σ H Q I (k σ H Q hw)⟩
theorem pp_nil : PA X [] (tPs (gx X) E (partsM [])) := pa_impI pa_nil fun σ H Q ⟨O, F, δ, M, w⟩ => wp_ret M w [] trivial
theorem pp_cons {m : M R} {ms : List (M R)} (h : PE X e (tR (gx X) E m)) (hr : PA X es (tPs (gx X) E (partsM ms))) (hs : starEach (e :: es) X.env = (false, eval e X.env) :: starEach es X.env) : PA X (e :: es) (tPs (gx X) E (partsM (m :: ms))) := by
  refine pa_impI (pa_cons (pe_or h (pr_dat h)) hr hs) fun σ H Q ⟨O, F, δ, M, w⟩ => ?_
  have w' := wp_bind w
  by_cases hown : ∃ xs δ1, m δ = some (.ok (.own xs) δ1)
  · obtain ⟨xs, δ1, em⟩ := hown
    refine .inl ⟨O, F, δ, M, ?_⟩
    unfold wp keepM at w'
    unfold wp
    rw [em] at w' ⊢
    intro F1 H1 s1 M1 v hv
    obtain ⟨⟨a, o, rfl, ha, ⟨vs, rfl, hr'⟩, fa, oa⟩, ap⟩ := hv
    have w2 := wp_bind (w' F1 H1 s1 M1)
    refine ⟨upd O a (.lst vs), F1, δ1, M1.hold ha fa ap, ?_⟩
    unfold wp at w2 ⊢
    cases ep : partsM ms δ1 with
    | none => rw [ep] at w2; exact w2
    | some res =>
      cases res with
      | err x δ2 => rw [ep] at w2; exact fun F2 H2 s2 M2 => w2 F2 H2 s2 (M2.unO oa)
      | ok ss δ2 =>
        rw [ep] at w2
        intro F2 H2 s2 M2 ws hws
        obtain ⟨k1, k2⟩ := PartsR.unO oa hws
        have M3 := M2.unO oa
        have fa2 : F2 a = none := (M2.dj a).resolve_right (by rw [upd_same]; exact fun z => nomatch z)
        have ap2 : Apart σ δ2 (.ref a) := fun i s hi hs2 hz => by
          obtain ⟨u, eu, b, q, rfl, f1, f2, f3, f4⟩ := M2.sw hi hs2
          rw [hz] at eu; cases eu
          rw [upd_same] at f4; cases f4
        exact (w2 F2 H2 s2 M3) F2 H2 (Same.refl _) M3 (.ref a :: ws) ⟨⟨⟨⟨a, .lst vs, rfl, M2.oh _ _ upd_same, ⟨vs, rfl, hr'.mono s2 _ _⟩, fa2, oa⟩, ap2⟩, fun _ => k2⟩, k1⟩
  · refine .inr ⟨O, F, δ, M, ?_⟩
    have ek : keepM m δ = bindM (datM m) (fun x => retM (S.d x)) δ := by
      unfold keepM
      split
      · rename_i xs δ' em; exact absurd ⟨xs, δ', em⟩ hown
      · rfl
    have w3 : wp (gx X) O F σ δ (bindM (datM m) fun x => retM (S.d x)) (fun F' x δ' a => wp (gx X) O F' σ δ' (bindM (partsM ms) fun ss => retM (a :: ss)) (fun F' H' δ' ss => ∀ vs, PartsR (gx X) O F' H' σ δ' vs ss → Q vs H') (eE (gx X) (E σ))) (eE (gx X) (E σ)) := by
      unfold wp at w' ⊢
      rw [ek] at w'; exact w'
    refine wp_mono (wp_bind w3) fun F1 H1 δ1 x s1 M1 w4 v hv => ?_
    have w5 := wp_bind (wp_ret M1 w4)
    exact ⟨O, F1, δ1, M1, wp_mono w5 fun F2 H2 δ2 ss s2 M2 w6 ws hws => wp_ret M2 w6 (v :: ws) ⟨⟨Rp.mono s2 _ _ hv, fun z => by cases z⟩, hws⟩⟩
/-- the slots set, one after another -/
def setAll : List Nat → List S → Dl → Dl
  | i :: is, s :: ss, δ => setAll is ss (δ.set i (some s))
  | _, _, δ => δ
def setV : List Nat → List V → L2.St → L2.St
  | i :: is, v :: vs, σ => setV is vs (σ.set i (some v))
  | _, _, σ => σ
theorem set_parts {g : Gx} {O F H : Hp} : ∀ {is : List Nat} {vs : List V} {ss : List S} {σ : L2.St} {δ : Dl}, (∀ i ∈ is, i < σ.length) → is.Nodup → is.length = ss.length → Ms g O F H σ δ → PartsR g O F H σ δ vs ss → Ms g O F H (setV is vs σ) (setAll is ss δ)
  | [], [], [], _, _, _, _, _, M, _ => M
  | i :: is, v :: vs, s :: ss, σ, δ, hi, nd, hl, M, h => by
    obtain ⟨⟨h1, h2⟩, h3⟩ := h
    have hi0 := hi i (List.mem_cons_self ..)
    have M1 := M.put (s := s) hi0 h1
    show Ms g O F H (setV is vs (σ.set i (some v))) (setAll is ss (δ.set i (some s)))
    refine set_parts (fun j hj => by rw [List.length_set]; exact hi j (List.mem_cons_of_mem _ hj)) (List.nodup_cons.mp nd).2 (by simpa using hl) M1 ?_
    have apart : ∀ {w : V}, Apart σ δ w → (s.isOwn = true → w ≠ v) → Apart (σ.set i (some v)) (δ.set i (some s)) w := fun {w} ap ne k t hk ho => by
      by_cases e : i = k
      · subst e
        rw [List.getElem?_set_self hi0]
        rw [List.getElem?_set] at hk
        simp only [if_true] at hk
        split at hk
        · cases hk
          intro z
          cases z
          exact ne ho rfl
        · cases hk
      · rw [List.getElem?_set_ne e] at hk ⊢
        exact ap k t hk ho
    clear M M1 hl nd hi
    suffices hh : ∀ (vs : List V) (ss : List S), PartsR g O F H σ δ vs ss → (s.isOwn = true → ∀ (j : Nat) w t, vs[j]? = some w → ss[j]? = some t → t.isOwn = true → w ≠ v) → PartsR g O F H (σ.set i (some v)) (δ.set i (some s)) vs ss from hh vs ss h3 h2
    intro vs
    induction vs with
    | nil => intro ss h _; cases ss <;> exact h
    | cons w ws ih =>
      intro ss h h4
      cases ss with
      | nil => exact h
      | cons t ts =>
        obtain ⟨⟨k1, k2⟩, k3⟩ := h
        refine ⟨⟨?_, k2⟩, ih ts k3 fun ho j u q hu hq => h4 ho (j + 1) u q (by simpa using hu) (by simpa using hq)⟩
        have ne : t.isOwn = true → s.isOwn = true → w ≠ v := fun ht ho => h4 ho 0 w t rfl rfl ht
        cases t with
        | d x => exact k1
        | own xs => exact ⟨k1.1, apart k1.2 (ne rfl)⟩
        | od ks xs => exact ⟨k1.1, apart k1.2 (ne rfl)⟩
        | mem cs => obtain ⟨_, _, _, _, z, _⟩ := k1.1; exact z.elim
  | [], _ :: _, [], _, _, _, _, _, _, h => h.elim
  | _ :: _, [], [], _, _, _, _, hl, _, _ => by simp at hl
  | [], _, _ :: _, _, _, _, _, hl, _, _ => by simp at hl
  | _ :: _, _ :: _, [], _, _, _, _, hl, _, _ => by simp at hl
  | _ :: _, [], _ :: _, _, _, _, _, _, _, h => h.elim
theorem setV_len : ∀ {is : List Nat} {vs : List V} {σ : L2.St}, (setV is vs σ).length = σ.length
  | [], _, _ => rfl
  | _ :: _, [], _ => rfl
  | i :: is, v :: vs, σ => by rw [setV, setV_len, List.length_set]
theorem setV_ne : ∀ {is : List Nat} {vs : List V} {σ : L2.St} {n : Nat}, n ∉ is → (setV is vs σ)[n]? = σ[n]?
  | [], _, _, _, _ => rfl
  | _ :: _, [], _, _, _ => rfl
  | i :: is, v :: vs, σ, n, h => by
    rw [setV, setV_ne (fun z => h (List.mem_cons_of_mem _ z)), List.getElem?_set_ne (fun z => h (by rw [z]; exact List.mem_cons_self ..))]
/-- the names at is = the parts -/
def parS (is : List Nat) (ms : List (M R)) : M Fl := bindM (partsM ms) fun ss => fun δ => if ss.length = is.length then some (.ok .next (setAll is ss δ)) else none
theorem parts_len {g : Gx} {O F H : Hp} {σ : L2.St} {δ : Dl} : ∀ {vs : List V} {ss : List S}, PartsR g O F H σ δ vs ss → vs.length = ss.length
  | [], [], _ => rfl
  | _ :: _, _ :: _, h => by rw [List.length_cons, List.length_cons, parts_len h.2]
  | [], _ :: _, h => h.elim
  | _ :: _, [], h => h.elim
theorem par_end {L : List Nat} {is : List Nat} {O F H : Hp} {σ : L2.St} {δ : Dl} {D : Ends} {ss : List S} {vs : List V} (hi : ∀ i ∈ is, i < σ.length) (nd : is.Nodup) (hL : ∀ i ∈ is, i ∉ L) (M : Ms (gx X) O F H σ δ) (h : PartsR (gx X) O F H σ δ vs ss)
    (w : wps (gx X) E O F L σ δ (fun δ => if ss.length = is.length then some (.ok .next (setAll is ss δ)) else none) D) : ss.length = is.length ∧ ∀ H', Ms (gx X) O F H' (setV is vs σ) (setAll is ss δ) → D.nx (setV is vs σ) H' := by
  unfold wps at w
  by_cases hl : ss.length = is.length
  · simp only [hl, if_true] at w
    exact ⟨hl, fun H' M' => w F H' _ (Same.refl _) ⟨setV_len, fun n hn => setV_ne fun z => hL n z hn⟩ M'⟩
  · simp only [hl, if_false] at w
theorem ps_parS {L : List Nat} {pos : Pos} {i j : Nat} {x y : Str} {a b : Expr} {ma mb : M R} {px py pt : Pos} {kt k2 pt2} (hc : X.calm = true) (hN : X.N.Nodup) (hi : X.N[i]? = some x) (hj : X.N[j]? = some y) (hij : i ≠ j) (hLi : i ∉ L) (hLj : j ∉ L)
    (hx : X.env.scope.names.lookup x = some .local) (hy : X.env.scope.names.lookup y = some .local) (ha : PA X [a, b] (tPs (gx X) E (partsM [ma, mb])))
    (hw : swappedStores [.Tuple [.Name x px, .Name y py] kt pt] (.Tuple [a, b] k2 pt2) X.env = pure (some [x, y]))
    (hs : swapsWithSole [.Tuple [.Name x px, .Name y py] kt pt] (.Tuple [a, b] k2 pt2) pos.line X.env = pure false) :
    PS X (.Assign [.Tuple [.Name x px, .Name y py] kt pt] (.Tuple [a, b] k2 pt2) pos) (tS (gx X) E L (parS [i, j] [ma, mb])) := by
  refine ⟨fun pins s σ H D I w => (ps_par hc hN hi hj hij hx hy ha hw hs).run pins s σ H D I ?_⟩
  obtain ⟨O, F, δ, M, w⟩ := w
  have hi' : i < σ.length := by rw [I.len]; exact (List.getElem?_eq_some_iff.mp hi).1
  have hj' : j < σ.length := by rw [I.len]; exact (List.getElem?_eq_some_iff.mp hj).1
  refine ⟨O, F, δ, M, wp_mono (wps_bind w) fun F1 H1 δ1 ss s1 M1 w1 vs hv => ?_⟩
  have his : ∀ k ∈ [i, j], k < σ.length := fun k hk => by simp only [List.mem_cons, List.not_mem_nil, or_false] at hk; rcases hk with rfl | rfl <;> assumption
  have hnd : [i, j].Nodup := by simp [hij]
  obtain ⟨hl, q⟩ := par_end his hnd (fun k hk => by simp only [List.mem_cons, List.not_mem_nil, or_false] at hk; rcases hk with rfl | rfl <;> assumption) M1 hv w1
  have M2 := set_parts his hnd hl.symm M1 hv
  have lv := (parts_len hv).trans hl
  match vs, lv with
  | [v1, v2], _ => exact ⟨v1, v2, rfl, q H1 M2⟩
theorem ps_parS3 {L : List Nat} {pos : Pos} {i j l : Nat} {x y z : Str} {a b c : Expr} {ma mb mc : M R} {px py pz pt : Pos} {kt k2 pt2} (hc : X.calm = true) (hN : X.N.Nodup) (hi : X.N[i]? = some x) (hj : X.N[j]? = some y) (hl : X.N[l]? = some z) (hij : i ≠ j) (hil : i ≠ l) (hjl : j ≠ l) (hLi : i ∉ L) (hLj : j ∉ L) (hLl : l ∉ L)
    (hx : X.env.scope.names.lookup x = some .local) (hy : X.env.scope.names.lookup y = some .local) (hz : X.env.scope.names.lookup z = some .local) (ha : PA X [a, b, c] (tPs (gx X) E (partsM [ma, mb, mc])))
    (hw : swappedStores [.Tuple [.Name x px, .Name y py, .Name z pz] kt pt] (.Tuple [a, b, c] k2 pt2) X.env = pure (some [x, y, z]))
    (hs : swapsWithSole [.Tuple [.Name x px, .Name y py, .Name z pz] kt pt] (.Tuple [a, b, c] k2 pt2) pos.line X.env = pure false) :
    PS X (.Assign [.Tuple [.Name x px, .Name y py, .Name z pz] kt pt] (.Tuple [a, b, c] k2 pt2) pos) (tS (gx X) E L (parS [i, j, l] [ma, mb, mc])) := by
  refine ⟨fun pins s σ H D I w => (ps_par3 hc hN hi hj hl hij hil hjl hx hy hz ha hw hs).run pins s σ H D I ?_⟩
  obtain ⟨O, F, δ, M, w⟩ := w
  have hi' : i < σ.length := by rw [I.len]; exact (List.getElem?_eq_some_iff.mp hi).1
  have hj' : j < σ.length := by rw [I.len]; exact (List.getElem?_eq_some_iff.mp hj).1
  have hl' : l < σ.length := by rw [I.len]; exact (List.getElem?_eq_some_iff.mp hl).1
  refine ⟨O, F, δ, M, wp_mono (wps_bind w) fun F1 H1 δ1 ss s1 M1 w1 vs hv => ?_⟩
  have his : ∀ k ∈ [i, j, l], k < σ.length := fun k hk => by simp only [List.mem_cons, List.not_mem_nil, or_false] at hk; rcases hk with rfl | rfl | rfl <;> assumption
  have hnd : [i, j, l].Nodup := by simp [hij, hil, hjl]
  obtain ⟨hln, q⟩ := par_end his hnd (fun k hk => by simp only [List.mem_cons, List.not_mem_nil, or_false] at hk; rcases hk with rfl | rfl | rfl <;> assumption) M1 hv w1
  have M2 := set_parts his hnd hln.symm M1 hv
  have lv := (parts_len hv).trans hln
  match vs, lv with
  | [v1, v2, v3], _ => exact ⟨v1, v2, v3, rfl, q H1 M2⟩
/-- names, one after another -/
def tNm (is : List Nat) : TGs := fun vs σ H Q => vs.length = is.length ∧ Q (setV is vs σ) H
theorem pgs_nm_nil : PGs X [] (tNm []) := pgs_nil.imp fun vs σ H Q ⟨h, q⟩ => by
  cases vs with
  | nil => exact ⟨rfl, q⟩
  | cons _ _ => simp at h
theorem pgs_nm_cons {is : List Nat} {i : Nat} {x : Str} {px : Pos} (hN : X.N.Nodup) (hi : X.N[i]? = some x) (hx : Loc X.env.scope x) (hf : X.fn x = true ∨ X.env.scope.names.lookup x = some .local) (h : PGs X es (tNm is)) : PGs X (.Name x px :: es) (tNm (i :: is)) :=
  (pgs_cons (pg_name hN hi hx hf) h rfl).imp fun vs σ H Q ⟨hl, q⟩ => by
    cases vs with
    | nil => simp at hl
    | cons v r => exact ⟨v, r, rfl, by simpa using hl, q⟩
theorem ps_unpS {L : List Nat} {pos : Pos} {is : List Nat} {ts vs : List Expr} {ms : List (M R)} {kt k2 : Nat} {pt pt2 : Pos} (hc : X.calm = true) (hts : PGs X ts (tNm is)) (nd : is.Nodup) (hL : ∀ i ∈ is, i ∉ L) (hin : ∀ i ∈ is, i < X.N.length) (hlen : (assignEach ts X.env).length = is.length) (hst : (assignEach ts X.env).findIdx? (·.1) = none)
    (ha : PA X vs (tPs (gx X) E (partsM ms))) (hm : is.length ≤ 1000) (hs : swapsWithSole [.Tuple ts kt pt] (.Tuple vs k2 pt2) pos.line X.env = pure false) (hw : swappedStores [.Tuple ts kt pt] (.Tuple vs k2 pt2) X.env = pure none) :
    PS X (.Assign [.Tuple ts kt pt] (.Tuple vs k2 pt2) pos) (tS (gx X) E L (parS is ms)) := by
  refine ⟨fun pins s σ H D I w => (ps_asg (pe_tup ha) (pg_tup hc hts hlen hst) hs hw rfl).run pins s σ H D I ?_⟩
  obtain ⟨O, F, δ, M, w⟩ := w
  have his : ∀ i ∈ is, i < σ.length := fun i hi => by rw [I.len]; exact hin i hi
  refine ⟨O, F, δ, M, wp_mono (wps_bind w) fun F1 H1 δ1 ss s1 M1 w1 us hv => ?_⟩
  obtain ⟨hl, q⟩ := par_end his nd hL M1 hv w1
  have M2 := set_parts his nd hl.symm M1 hv
  have lv := (parts_len hv).trans hl
  refine ⟨Nat.le_trans (by rw [lv]; exact hm) (by decide), fun p hp => ⟨p, us, rfl, .inl (.inl upd_same), lv, lv, ?_⟩⟩
  exact q _ ((M2.out hp _ rfl).unO (M2.oh.free hp))
end
end Ev

set_option Elab.async false
set_option linter.all false
set_option maxRecDepth 100000
namespace Ev
open PySem PySem.Spec PyProof.Rows L2
/-! ### sets of texts -/
def tKey (e : Int × Value) : Str := match e.2 with
  | .str z _ => z
  | _ => Str.empty
def TGood (w : World) (e : Int × Value) : Prop := ∃ z tk, e.2 = Value.str z tk ∧ e.1 = hashStr w z
/-- the set of texts at a: Z tells its members, m their number; its table rises and can be walked -/
def TSet (w : World) (h : Heap) (a : Addr) (Z : Str → Bool) (m : Nat) : Prop :=
  ∃ o es ep t, (h.get? a = some o ∧ o.ExactSet ∧ o.data = .set es ep t) ∧ (∀ e ∈ es.toList, TGood w e) ∧ (es.toList.map tKey).Nodup ∧ (∀ z, Z z = true ↔ z ∈ es.toList.map tKey) ∧
    (es.size < scanBound ∧ t.fits es.size = true ∧ es.size = m) ∧ Ris t.place.toList ∧ (w.params.followText "set-order" = true ∨ t.led = true)
section
variable {P : Program} {w : World} {h h' : Heap} {a : Addr} {Z : Str → Bool} {m : Nat}
theorem TSet.at (R : TSet w h a Z m) (k : ∀ o, h.get? a = some o → h'.get? a = some o) : TSet w h' a Z m := by
  obtain ⟨o, es, ep, t, ⟨ho, x⟩, r⟩ := R
  exact ⟨o, es, ep, t, ⟨k o ho, x⟩, r⟩
theorem TSet.to {Y : Str → Bool} (R : TSet w h a Z m) (e : ∀ z, Y z = Z z) : TSet w h a Y m := by
  rw [show Y = Z from funext e]; exact R
theorem t_elems {l : List (Int × Value)} (g : ∀ e ∈ l, TGood w e) : ElemsOf (strKind P w) l := by
  intro e he
  obtain ⟨z, tk, h1, h2⟩ := g e he
  refine ⟨⟨z, ?_, h2⟩, ?_⟩
  · rw [h1]; exact strKind_is P w z tk
  · rw [h1]; rfl
theorem t_is {e : Int × Value} (g : TGood w e) (z : Str) : (strKind P w).is z e.2 = true ↔ tKey e = z := by
  obtain ⟨n, u⟩ := e
  obtain ⟨y, tk, h1, _⟩ := g
  have h2 : u = Value.str y tk := h1
  subst h2
  show ((y == z) = true) ↔ y = z
  exact beq_iff_eq
theorem t_mem {l : List (Int × Value)} (g : ∀ e ∈ l, TGood w e) (z : Str) : z ∈ l.map tKey ↔ ∃ e ∈ l, (strKind P w).is z e.2 = true := by
  rw [List.mem_map]
  exact ⟨fun ⟨e, he, q⟩ => ⟨e, he, (t_is (g e he) z).2 q⟩, fun ⟨e, he, q⟩ => ⟨e, he, (t_is (g e he) z).1 q⟩⟩
end
end Ev

set_option Elab.async false
set_option linter.all false
set_option maxRecDepth 100000
namespace Ev
open PySem PySem.Spec PyProof.Rows L2
section
variable {P : Program} {w : World} {A : Around} {E : Value → Shared → Prop} {s : Shared} {a : Addr} {Z : Str → Bool} {m : Nat}
theorem t_tail {f : Bool → Sem Unit} (hf0 : ∀ (b : Bool) (s1 : Shared) (K : Unit → Shared → Prop), K () s1 → wpAny (model P w) A (f b) K E s1) {o : Obj} {es : Array (Int × Value)} {ep : Nat} {t : SetTable}
    (ho : s.heap.get? a = some o) (hx : o.ExactSet) (hd : o.data = .set es ep t) {xs : Array (Int × Value)} {t2 : SetTable} {Y : Str → Bool}
    (g : ∀ e ∈ xs.toList, TGood w e) (nd : (xs.toList.map tKey).Nodup) (hm : ∀ z, Y z = true ↔ z ∈ xs.toList.map tKey) (hb : xs.size < scanBound) (hft : t2.fits xs.size = true) (hr : Ris t2.place.toList)
    (hl : w.params.followText "set-order" = true ∨ t2.led = true) {wd : Bool} {R : Option Bool → Shared → Prop} (q : ∀ k, Heap.SameBut a s.heap k → TSet w k a Y xs.size → R (some true) { s with heap := k }) :
    wpAny (model P w) A (do
      storeSet a xs t2
      if (!wd && t2.tooFull) = true then do
        f (relayAll t2 xs (SetTable.grown xs.size)).2.2; storeSet a (relayAll t2 xs (SetTable.grown xs.size)).1 (relayAll t2 xs (SetTable.grown xs.size)).2.1; pure (some true)
      else pure (some true)) R E s := by
  refine wpAny_bind (wpAny_storeSet_of ho hd ?_ (fits_of_scanBound hb))
  have h1 := store_at (es' := xs) (t' := t2) ho hd
  have b1 := Heap.SameBut.update s.heap a (Obj.putSet xs t2)
  split
  · have pm := relayAll_perm t2 xs (SetTable.grown xs.size)
    have ft := relayAll_fits t2 xs (SetTable.grown xs.size)
    have rs := relayAll_ris t2 xs (SetTable.grown xs.size)
    have ld := relayAll_led t2 xs (SetTable.grown xs.size)
    generalize relayAll t2 xs (SetTable.grown xs.size) = r at pm ft rs ld ⊢
    obtain ⟨ys, t3, gv⟩ := r
    dsimp only at pm ft rs ld ⊢
    have sz : ys.size = xs.size := by rw [← Array.length_toList, pm.length_eq, Array.length_toList]
    refine wpAny_bind (hf0 _ _ _ (wpAny_bind (wpAny_storeSet_of h1 rfl (wpAny_pure ?_) (fits_of_scanBound (by rw [sz]; exact hb)))))
    refine q _ (b1.trans (Heap.SameBut.update _ a _)) ⟨_, ys, _, t3, ⟨store_at (es' := ys) (t' := t3) h1 rfl, hx, rfl⟩, fun e he => g e (pm.mem_iff.mp he), (pm.map tKey).nodup_iff.mpr nd, fun z => (hm z).trans (pm.map tKey).mem_iff.symm, ⟨by rw [sz]; exact hb, ft, sz⟩, rs, ?_⟩
    exact hl.imp id fun c => by rw [ld]; exact c
  · exact wpAny_pure (q _ b1 ⟨_, xs, _, t2, ⟨h1, hx, rfl⟩, g, nd, hm, ⟨hb, hft, rfl⟩, hr, hl⟩)
theorem t_add {z : Str} {tk : Tok} {Q : Bool → Shared → Prop} (R : TSet w s.heap a Z m) (room : m + 1 < scanBound)
    (q : ∀ k, Heap.SameBut a s.heap k → TSet w k a (fun y => Z y || decide (y = z)) (if Z z = true then m else m + 1) → Q (!Z z) { s with heap := k }) :
    wpAny (model P w) A (setAddHashed a (.str z tk) ((strKind P w).hash z)) Q E s := by
  obtain ⟨o, es, ep, t, ⟨ho, hx, hd⟩, g, nd, hm, ⟨hb, hf, hn⟩, hr, hl⟩ := R
  have key : (strKind P w).is z (.str z tk) = true := strKind_is P w z tk
  have scn : (Value.str z tk).scannable = true := rfl
  have el : ElemsOf (strKind P w) es.toList := t_elems g
  unfold setAddHashed setAddHashedIn
  refine wpAny_holding (wpAny_bind (wpAny_setState_of ho hd hf ?_))
  dsimp only
  rw [byScan_of scn hb el]
  simp only [↓reduceIte]
  unfold setAddByScan
  refine wpAny_bind (wpAny_bind (wpAny_rule (wpAny_bind (wpAny_setScan_of key ho hd hf el ?_))))
  cases ff : List.findIdx? (fun e => (strKind P w).is z e.2) es.toList with
  | some j =>
    dsimp only
    obtain ⟨hj, pj, _⟩ := List.findIdx?_eq_some_iff_getElem.mp ff
    have yes : Z z = true := (hm z).2 ((t_mem (P := P) g z).2 ⟨es.toList[j], List.getElem_mem hj, pj⟩)
    have qq := q s.heap (Heap.SameBut.refl a s.heap) ⟨o, es, ep, t, ⟨ho, hx, hd⟩, g, nd, fun y => ?_, ⟨hb, hf, by rw [if_pos yes]; exact hn⟩, hr, hl⟩
    · rw [yes] at qq
      exact wpAny_pure (wpAny_pure qq)
    · rw [Bool.or_eq_true, decide_eq_true_eq, ← hm y]
      exact ⟨fun c => c.elim id (fun e => e ▸ yes), .inl⟩
  | none =>
    dsimp only
    have out : z ∉ es.toList.map tKey := fun c => by
      obtain ⟨e, he, y⟩ := (t_mem (P := P) g z).1 c
      have := List.findIdx?_eq_none_iff.mp ff e he
      rw [y] at this
      cases this
    have no : Z z = false := by
      cases c : Z z with
      | false => rfl
      | true => exact absurd ((hm z).1 c) out
    have gw : ∀ (b : Bool) {s1 : Shared} {K : Unit → Shared → Prop}, K () s1 → wpAny (model P w) A (match b with | true => rule "set.scan.the-table-gave-way" | false => pure ()) K E s1 := by
      intro b s1 K k
      cases b <;> first | exact wpAny_pure k | exact wpAny_rule k
    have pm := layNew_perm t es ((strKind P w).hash z) (.str z tk)
    have f1 := layNew_fits t es ((strKind P w).hash z) (.str z tk)
    have r1 := layNew_ris t es ((strKind P w).hash z) (.str z tk) hr
    have l1 := layNew_led t es ((strKind P w).hash z) (.str z tk)
    generalize layNew t es ((strKind P w).hash z) (.str z tk) = y at pm f1 r1 l1 ⊢
    obtain ⟨xs, t1, wd, gave⟩ := y
    dsimp only at pm f1 r1 l1 ⊢
    rw [Array.toList_push] at pm
    have pc : xs.toList.Perm (((strKind P w).hash z, Value.str z tk) :: es.toList) := pm.trans (List.perm_append_singleton _ _)
    have pk : (xs.toList.map tKey).Perm (z :: es.toList.map tKey) := pc.map tKey
    have g1 : ∀ e ∈ xs.toList, TGood w e := fun e he => (List.mem_cons.mp (pc.mem_iff.mp he)).elim (fun c => by rw [c]; exact ⟨z, tk, rfl, rfl⟩) (g e)
    have n1 : (xs.toList.map tKey).Nodup := pk.nodup_iff.mpr (List.nodup_cons.mpr ⟨out, nd⟩)
    have m1 : ∀ y, (Z y || decide (y = z)) = true ↔ y ∈ xs.toList.map tKey := fun y => by
      rw [Bool.or_eq_true, decide_eq_true_eq, hm y, pk.mem_iff, List.mem_cons]
      exact Or.comm
    have sz : xs.size = m + 1 := by rw [← Array.length_toList, pc.length_eq, List.length_cons, Array.length_toList, hn]
    have b1 : xs.size < scanBound := by rw [sz]; exact room
    have ld : w.params.followText "set-order" = true ∨ t1.led = true := hl.imp id fun c => by rw [l1]; exact c
    have fin : ∀ k, Heap.SameBut a s.heap k → TSet w k a (fun y => Z y || decide (y = z)) xs.size → Q true { s with heap := k } := fun k sb r => by
      have qq := q k sb
      rw [no] at qq
      rw [sz] at r
      exact qq r
    refine wpAny_bind (gw _ ?_)
    have g2 : ∀ (b : Bool) (s1 : Shared) (K : Unit → Shared → Prop), K () s1 → wpAny (model P w) A (match b with | true => rule "set.scan.the-table-gave-way" | false => pure ()) K E s1 := fun b s1 K k => gw b k
    split
    · refine wpAny_bind ?_
      rw [hashByValue_scannable 8 scn]
      refine wpAny_pure (t_tail ?_ ho hx hd g1 n1 m1 b1 ?_ ?_ ?_ ?_)
      · intro b s1 K k; cases b <;> first | exact wpAny_pure k | exact wpAny_rule k
      · first | (split <;> first | exact f1 | exact SetTable.fits_plain_off f1) | exact f1
      · first | (split <;> exact r1) | exact r1
      · first | (split <;> exact ld) | exact ld
      · exact fun k sb r => wpAny_pure (fin k sb r)
    · refine wpAny_bind (wpAny_pure ?_)
      simp only [↓reduceIte]
      refine t_tail ?_ ho hx hd g1 n1 m1 b1 f1 r1 ld fun k sb r => wpAny_pure (fin k sb r)
      intro b s1 K k; cases b <;> first | exact wpAny_pure k | exact wpAny_rule k
end
end Ev

set_option Elab.async false
set_option linter.all false
set_option maxRecDepth 100000
namespace Ev
open PySem PySem.Spec PyProof.Rows L2
def setO0 (w : World) : Obj := { cls := .type "set", dict := none, data := .set #[] 0 (.fresh 0 0 (!w.params.followText "set-order")) }
theorem tset_new {w : World} {h : Heap} {a : Addr} (ho : h.get? a = some (setO0 w)) : TSet w h a (fun _ => false) 0 := by
  refine ⟨_, #[], 0, _, ⟨ho, ⟨rfl, rfl, rfl⟩, rfl⟩, (fun e he => by simp at he), (by simp), (fun z => by simp), ⟨by decide, by rfl, rfl⟩, List.Pairwise.nil, ?_⟩
  show _ ∨ (!w.params.followText "set-order") = true
  cases w.params.followText "set-order" <;> simp
section
variable {P : Program} {w : World} {A : Around} {E : Value → Shared → Prop} {s : Shared}
theorem t_update {I : Addr} {fp wr : List Addr} {G : Array GenState → Array GenState → Prop} {n : Nat} {Pv : Nat → Value → Prop} {St : Nat → Shared → Prop} {R : Result → Shared → Prop}
    (W : WalksS P w A.in1 I fp wr G n Pv St) (S : Addr) (nf : S ∉ fp) (zs : List Str) (hn : n = zs.length) (hb : zs.length + 1 < scanBound) (val : ∀ i v, Pv i v → ∃ z t, zs[i]? = some z ∧ v = .str z t) :
    ∀ (k i : Nat) (s : Shared), n - i = k → i ≤ n → St i s → (∃ c, c ≤ i ∧ TSet w s.heap S (fun y => decide (y ∈ zs.take i)) c) →
      (∀ s' c, Moved (S :: wr) G s s' → c ≤ n → TSet w s'.heap S (fun y => decide (y ∈ zs)) c → R (.ok (.ret .none)) s') → codeAny (model P w) A (.builtin "set.update.loop" ⟨[.ref S, .ref I], []⟩) R s := by
  have nw : S ∉ wr := fun c => nf (W.sub _ c)
  have up : ∀ b ∈ wr, b ∈ S :: wr := fun b c => List.mem_cons_of_mem _ c
  intro k
  induction k with
  | zero =>
    rintro i s ek hi st ⟨c, hc, T⟩ q
    have ei : i = n := by omega
    subst ei
    refine codeAny_builtin F.entry_set_update_loop ?_
    rw [Around.under_plainId F.plain_set_update_loop _]
    show wpAny _ A.in1 (pyNext (.ref I) >>= _) _ _ s
    refine wpAny_bind (W.done s _ _ st fun s' mv => ?_)
    show wpAny _ A.in1 (ret Value.none) _ _ s'
    rw [List.take_of_length_le (show zs.length ≤ i by omega)] at T
    exact wpAny_pure (q s' c (mv.mono up) hc (T.at fun o e => mv.heap S o nw e))
  | succ k ih =>
    rintro i s ek hi st ⟨c, hc, T⟩ q
    have lt : i < n := by omega
    refine codeAny_builtin F.entry_set_update_loop ?_
    rw [Around.under_plainId F.plain_set_update_loop _]
    show wpAny _ A.in1 (pyNext (.ref I) >>= _) _ _ s
    refine wpAny_bind (W.item i s _ _ lt st fun v s' pv st' mv => ?_)
    obtain ⟨z, t, hz, rfl⟩ := val i v pv
    have T' : TSet w s'.heap S (fun y => decide (y ∈ zs.take i)) c := T.at fun o e => mv.heap S o nw e
    show wpAny _ A.in1 (holding [Value.str z t] (setAdd S (.str z t)) >>= _) _ _ s'
    refine wpAny_bind (wpAny_holding ?_)
    unfold setAdd
    refine wpAny_holding (wpAny_bind ((strKind P w).pyHash (k := z) (strKind_is _ _ _ _) ?_))
    refine t_add (s := { s' with toks := s'.toks + 1 }) T' (by omega) fun h' sb T2 => ?_
    have T3 : TSet w h' S (fun y => decide (y ∈ zs.take (i + 1))) (if decide (z ∈ zs.take i) = true then c else c + 1) := T2.to fun y => by
      rw [List.take_add_one, hz]
      simp [List.mem_append]
    have c3 : (if decide (z ∈ zs.take i) = true then c else c + 1) ≤ i + 1 := by split <;> omega
    refine wpAny_pure ⟨plainId_quiet F.plain_set_update_loop _, ih (i + 1) _ (by omega) lt (W.frame _ s' _ _ st' (Nat.le_succ _) fun b c o e => ?_) ⟨_, c3, T3⟩ fun s2 c2 mv2 hc2 T4 => ?_⟩
    · rw [sb.2 b (fun x : b = S => nf (by rw [← x]; exact c))]; exact e
    · refine q s2 c2 (Moved.trans W.gtrans ((mv.mono up).then_heap (Nat.le_succ _) fun b o c e => ?_) mv2) hc2 T4
      rw [sb.2 b (fun x : b = S => c (by rw [x]; exact List.mem_cons_self))]; exact e
end
end Ev

set_option Elab.async false
set_option linter.all false
set_option maxRecDepth 100000
namespace Ev
open PySem PySem.Spec PyProof.Rows L2
section
variable {P : Program} {w : World} {A : Around} {E : Value → Shared → Prop} {s : Shared}

set_option maxRecDepth 100000 in
set_option maxHeartbeats 3200000 in
theorem t_call_list {l : Addr} {its : Array Value} (zs : List Str) {Q : Value → Shared → Prop} (hh : A.handled = none) (hl : s.heap.IsList l its) (hi : StrsAre its.toList zs) (hb : zs.length + 1 < scanBound)
    (h : ∀ (k : Heap) (tk c : Nat), TSet w k s.heap.objs.size (fun y => decide (y ∈ zs)) c → c ≤ zs.length → (∀ b o, s.heap.get? b = some o → k.get? b = some o) → Q (.ref s.heap.objs.size) { s with heap := k, toks := tk }) :
    wpAny (model P w) A (call (.type "set") [.ref l]) Q E s := by
  have sz : its.size = zs.length := by
    have q := StrsAre.len_eq hi
    rw [Array.length_toList] at q; exact q
  obtain ⟨c, tl, hmro⟩ := F.called_set.mro
  have x1 := F.called_set.made
  have x2 := F.called_set.sub
  refine wpAny_call (codeAny_of_tree ?_)
  show wpAny _ _ (callAny (.type "set") _) _ _ _
  refine wpAny_pure ⟨Code.quiet_builtin _ (by decide +kernel), codeAny_builtin F.entry_type_call ?_⟩; rw [Around.under_plain (weight_type_call_type "set" [.ref l] []) rfl]
  have x3 := F.called_set.notType; have x4 := F.called_set.canCreate; have x5 := F.typeCall_set_1 (.ref l)
  (repeat (any_goals (first | assumption | wp_step)))
  refine codeAny_mono (code_set_led1 (.ref l) (E := E) (Q₁ := fun obj s1 => obj = .ref s.heap.objs.size ∧ s1 = { s with heap := s.heap.push (setO0 w) }) ⟨rfl, rfl⟩) fun r s1 hr => ?_
  cases r with
  | error e => exact hr
  | ok fl =>
    cases fl with
    | ret obj =>
      obtain ⟨rfl, rfl⟩ := hr
      have oS : (s.heap.push (setO0 w)).get? s.heap.objs.size = some (setO0 w) := Heap.get?_push_size _ rfl
      have tS : Shared.TypeIs { s with heap := s.heap.push (setO0 w) } (.ref s.heap.objs.size) "set" := ⟨_, oS, rfl⟩
      have x6 := F.called_set.init.lookup; have x7 := F.called_set.init.bind (.ref s.heap.objs.size)
      (repeat (any_goals (first | assumption | wp_step)))
      refine codeAny_mono (codeAny_call_builtin (R := wants (fun r s2 => r = .none ∧ ∃ k tk c, s2 = { s with heap := k, toks := tk } ∧ TSet w k s.heap.objs.size (fun y => decide (y ∈ zs)) c ∧ c ≤ zs.length ∧ (∀ b o, s.heap.get? b = some o → k.get? b = some o)) E) F.called_set.init.plain F.entry_set_init (check_set_init_1 tS ?_)) fun r2 s2 hr2 => ?_
      · obtain ⟨ol, hol, hcl, nl, hdl⟩ := hl
        obtain ⟨oc, od, ob, os⟩ := ol
        simp only at hcl hdl
        subst hcl; subst hdl
        have ol1 : (s.heap.push (setO0 w)).get? l = some { cls := .type "list", dict := od, data := .seq its nl, slots := os } := Heap.get?_push_of_some _ hol
        have x8 := F.sub_list_set; have x9 := F.sub_list_frozenset; have x10 : (Value.type "list" == Value.type "dict") = false := by decide
        have hl1 : (s.heap.push (setO0 w)).IsList l its := ⟨_, ol1, rfl, nl, rfl⟩
        unfold Builtin.«set.__init__» noKeywords Builtin.Frozenset.updateFrom; generalize hPI : pyIter = PI
        wp_walk
        subst hPI
        refine wpAny_pyIter_list hl1 (wpAny_bind (wpAny_runValue ?_))
        have lS : l < s.heap.objs.size := Heap.lt_size hol
        have h3 : A.in1.in1.in1.handled = none := by simp [hh]
        have sp : (s.heap.push (setO0 w)).objs.size = s.heap.objs.size + 1 := Heap.size_push ..
        have nI : l ≠ (s.heap.push (setO0 w)).objs.size := by rw [sp]; exact Nat.ne_of_lt (Nat.lt_succ_of_lt lS)
        have nS : s.heap.objs.size ∉ [(s.heap.push (setO0 w)).objs.size, l] := by
          rw [sp]; simp only [List.mem_cons, List.not_mem_nil, or_false, not_or]
          exact ⟨Nat.ne_of_lt (Nat.lt_succ_self _), Nat.ne_of_gt lS⟩
        have vl : ∀ (i : Nat) (v : Value), its[i]? = some v → ∃ z t, zs[i]? = some z ∧ v = .str z t := fun i v hv => by
          have il : i < zs.length := by rw [← sz]; exact (Array.getElem?_eq_some_iff.mp hv).1
          obtain ⟨t, e⟩ := SS.strs_at hi i v (by rw [Array.getElem?_toList]; exact hv)
          refine ⟨zs[i], t, List.getElem?_eq_getElem il, ?_⟩
          rw [e, List.getD_eq_getElem?_getD, List.getElem?_eq_getElem il] <;> rfl
        refine t_update ((Walks.list h3 _ l nI its).toS) s.heap.objs.size nS zs sz hb vl (its.size - 0) 0 _ (by omega) (Nat.zero_le _) ⟨⟨_, Heap.get?_push_size _ rfl, rfl, rfl⟩, (hl1.push _)⟩ ?n0 ?nR
        case n0 => exact ⟨0, Nat.le_refl 0, (tset_new (Heap.get?_push_of_some _ oS)).to fun y => by simp⟩
        case nR =>
          rintro ⟨k, g2, d2, tk, os2⟩ c2 mv hc2 T2
          have eg : g2 = s.gens := mv.gens
          have ed : d2 = s.drawn := mv.drawn
          have eo : os2 = s.os := mv.os
          subst eg; subst ed; subst eo
          show wpAny _ _ _ _ _ _
          refine wpAny_pure ?_
          show wpAny _ _ (ret Value.none) _ _ _
          rw [sz] at hc2
          refine wpAny_pure ⟨rfl, k, tk, c2, rfl, T2, hc2, fun b o e => ?_⟩
          have b0 : b < s.heap.objs.size := Heap.lt_size e
          refine mv.heap b o ?_ (Heap.get?_push_of_some _ (Heap.get?_push_of_some _ e))
          simp only [List.mem_cons, List.mem_singleton, List.not_mem_nil, or_false, not_or]
          exact ⟨Nat.ne_of_lt b0, by rw [sp]; exact Nat.ne_of_lt (Nat.lt_succ_of_lt b0)⟩
      · cases r2 with
        | error e => exact hr2
        | ok f2 =>
          cases f2 with
          | ret r =>
            obtain ⟨rfl, k, tk, c2, rfl, T2, hc2, kp⟩ := hr2
            (repeat (any_goals (first | assumption | wp_step)))
            exact h _ _ _ T2 hc2 kp
          | _ => exact hr2.elim
    | _ => exact hr.elim

set_option maxRecDepth 100000 in
set_option maxHeartbeats 3200000 in
theorem t_call_tuple {l : Addr} {its : Array Value} (zs : List Str) {Q : Value → Shared → Prop} (hh : A.handled = none) (hl : s.heap.IsTuple l its) (hi : StrsAre its.toList zs) (hb : zs.length + 1 < scanBound)
    (h : ∀ (k : Heap) (tk c : Nat), TSet w k s.heap.objs.size (fun y => decide (y ∈ zs)) c → c ≤ zs.length → (∀ b o, s.heap.get? b = some o → k.get? b = some o) → Q (.ref s.heap.objs.size) { s with heap := k, toks := tk }) :
    wpAny (model P w) A (call (.type "set") [.ref l]) Q E s := by
  have sz : its.size = zs.length := by
    have q := StrsAre.len_eq hi
    rw [Array.length_toList] at q; exact q
  obtain ⟨c, tl, hmro⟩ := F.called_set.mro
  have x1 := F.called_set.made
  have x2 := F.called_set.sub
  refine wpAny_call (codeAny_of_tree ?_)
  show wpAny _ _ (callAny (.type "set") _) _ _ _
  refine wpAny_pure ⟨Code.quiet_builtin _ (by decide +kernel), codeAny_builtin F.entry_type_call ?_⟩; rw [Around.under_plain (weight_type_call_type "set" [.ref l] []) rfl]
  have x3 := F.called_set.notType; have x4 := F.called_set.canCreate; have x5 := F.typeCall_set_1 (.ref l)
  (repeat (any_goals (first | assumption | wp_step)))
  refine codeAny_mono (code_set_led1 (.ref l) (E := E) (Q₁ := fun obj s1 => obj = .ref s.heap.objs.size ∧ s1 = { s with heap := s.heap.push (setO0 w) }) ⟨rfl, rfl⟩) fun r s1 hr => ?_
  cases r with
  | error e => exact hr
  | ok fl =>
    cases fl with
    | ret obj =>
      obtain ⟨rfl, rfl⟩ := hr
      have oS : (s.heap.push (setO0 w)).get? s.heap.objs.size = some (setO0 w) := Heap.get?_push_size _ rfl
      have tS : Shared.TypeIs { s with heap := s.heap.push (setO0 w) } (.ref s.heap.objs.size) "set" := ⟨_, oS, rfl⟩
      have x6 := F.called_set.init.lookup; have x7 := F.called_set.init.bind (.ref s.heap.objs.size)
      (repeat (any_goals (first | assumption | wp_step)))
      refine codeAny_mono (codeAny_call_builtin (R := wants (fun r s2 => r = .none ∧ ∃ k tk c, s2 = { s with heap := k, toks := tk } ∧ TSet w k s.heap.objs.size (fun y => decide (y ∈ zs)) c ∧ c ≤ zs.length ∧ (∀ b o, s.heap.get? b = some o → k.get? b = some o)) E) F.called_set.init.plain F.entry_set_init (check_set_init_1 tS ?_)) fun r2 s2 hr2 => ?_
      · obtain ⟨ol, hol, hcl, nl, hdl⟩ := hl
        obtain ⟨oc, od, ob, os⟩ := ol
        simp only at hcl hdl
        subst hcl; subst hdl
        have ol1 : (s.heap.push (setO0 w)).get? l = some { cls := .type "tuple", dict := od, data := .seq its nl, slots := os } := Heap.get?_push_of_some _ hol
        have x8 := F.sub_tuple_set; have x9 := F.sub_tuple_frozenset; have x10 : (Value.type "tuple" == Value.type "dict") = false := by decide
        have hl1 : (s.heap.push (setO0 w)).IsTuple l its := ⟨_, ol1, rfl, nl, rfl⟩
        unfold Builtin.«set.__init__» noKeywords Builtin.Frozenset.updateFrom; generalize hPI : pyIter = PI
        wp_walk
        subst hPI
        refine wpAny_pyIter_tuple hl1 (wpAny_bind (wpAny_runValue ?_))
        have lS : l < s.heap.objs.size := Heap.lt_size hol
        have h3 : A.in1.in1.in1.handled = none := by simp [hh]
        have sp : (s.heap.push (setO0 w)).objs.size = s.heap.objs.size + 1 := Heap.size_push ..
        have nI : l ≠ (s.heap.push (setO0 w)).objs.size := by rw [sp]; exact Nat.ne_of_lt (Nat.lt_succ_of_lt lS)
        have nS : s.heap.objs.size ∉ [(s.heap.push (setO0 w)).objs.size, l] := by
          rw [sp]; simp only [List.mem_cons, List.not_mem_nil, or_false, not_or]
          exact ⟨Nat.ne_of_lt (Nat.lt_succ_self _), Nat.ne_of_gt lS⟩
        have vl : ∀ (i : Nat) (v : Value), its[i]? = some v → ∃ z t, zs[i]? = some z ∧ v = .str z t := fun i v hv => by
          have il : i < zs.length := by rw [← sz]; exact (Array.getElem?_eq_some_iff.mp hv).1
          obtain ⟨t, e⟩ := SS.strs_at hi i v (by rw [Array.getElem?_toList]; exact hv)
          refine ⟨zs[i], t, List.getElem?_eq_getElem il, ?_⟩
          rw [e, List.getD_eq_getElem?_getD, List.getElem?_eq_getElem il] <;> rfl
        refine t_update ((Walks.tuple h3 _ l nI its).toS) s.heap.objs.size nS zs sz hb vl (its.size - 0) 0 _ (by omega) (Nat.zero_le _) ⟨⟨_, Heap.get?_push_size _ rfl, rfl, rfl⟩, (hl1.push _)⟩ ?n0 ?nR
        case n0 => exact ⟨0, Nat.le_refl 0, (tset_new (Heap.get?_push_of_some _ oS)).to fun y => by simp⟩
        case nR =>
          rintro ⟨k, g2, d2, tk, os2⟩ c2 mv hc2 T2
          have eg : g2 = s.gens := mv.gens
          have ed : d2 = s.drawn := mv.drawn
          have eo : os2 = s.os := mv.os
          subst eg; subst ed; subst eo
          show wpAny _ _ _ _ _ _
          refine wpAny_pure ?_
          show wpAny _ _ (ret Value.none) _ _ _
          rw [sz] at hc2
          refine wpAny_pure ⟨rfl, k, tk, c2, rfl, T2, hc2, fun b o e => ?_⟩
          have b0 : b < s.heap.objs.size := Heap.lt_size e
          refine mv.heap b o ?_ (Heap.get?_push_of_some _ (Heap.get?_push_of_some _ e))
          simp only [List.mem_cons, List.mem_singleton, List.not_mem_nil, or_false, not_or]
          exact ⟨Nat.ne_of_lt b0, by rw [sp]; exact Nat.ne_of_lt (Nat.lt_succ_of_lt b0)⟩
      · cases r2 with
        | error e => exact hr2
        | ok f2 =>
          cases f2 with
          | ret r =>
            obtain ⟨rfl, k, tk, c2, rfl, T2, hc2, kp⟩ := hr2
            (repeat (any_goals (first | assumption | wp_step)))
            exact h _ _ _ T2 hc2 kp
          | _ => exact hr2.elim
    | _ => exact hr.elim
end
end Ev

set_option Elab.async false
set_option linter.all false
set_option maxRecDepth 100000
namespace Ev
open PySem PySem.Spec PyProof.Rows L2
/-! ### texts, each once; in order -/
def dd : List Str → List Str
  | [] => []
  | z :: r => if z ∈ r then dd r else z :: dd r
theorem dd_mem (y : Str) : ∀ l : List Str, y ∈ dd l ↔ y ∈ l
  | [] => Iff.rfl
  | z :: r => by
    unfold dd
    have ih := dd_mem y r
    by_cases h : z ∈ r
    · rw [if_pos h, ih, List.mem_cons]
      exact ⟨.inr, fun c => c.elim (fun e => e ▸ h) id⟩
    · rw [if_neg h, List.mem_cons, List.mem_cons, ih]
theorem dd_nodup : ∀ l : List Str, (dd l).Nodup
  | [] => List.nodup_nil
  | z :: r => by
    unfold dd
    by_cases h : z ∈ r
    · rw [if_pos h]; exact dd_nodup r
    · rw [if_neg h]; exact List.nodup_cons.mpr ⟨fun c => h ((dd_mem z r).1 c), dd_nodup r⟩
theorem dd_len : ∀ l : List Str, (dd l).length ≤ l.length
  | [] => Nat.le_refl _
  | z :: r => by
    unfold dd
    have := dd_len r
    by_cases h : z ∈ r
    · rw [if_pos h, List.length_cons]; omega
    · rw [if_neg h, List.length_cons, List.length_cons]; omega
theorem dd_id : ∀ {l : List Str}, l.Nodup → dd l = l
  | [], _ => rfl
  | z :: r, h => by
    obtain ⟨h1, h2⟩ := List.nodup_cons.mp h
    unfold dd
    rw [if_neg h1, dd_id h2]
theorem dd_less : ∀ {l : List Str}, ¬ l.Nodup → (dd l).length < l.length
  | [], h => absurd List.nodup_nil h
  | z :: r, h => by
    have := dd_len r
    unfold dd
    by_cases c : z ∈ r
    · rw [if_pos c, List.length_cons]; omega
    · have := dd_less (l := r) fun d => h (List.nodup_cons.mpr ⟨c, d⟩)
      rw [if_neg c, List.length_cons, List.length_cons]; omega
theorem sub_le : ∀ (l k : List Str), l.Nodup → (∀ x ∈ l, x ∈ k) → l.length ≤ k.length
  | [], _, _, _ => Nat.zero_le _
  | a :: r, k, nd, h => by
    obtain ⟨n1, n2⟩ := List.nodup_cons.mp nd
    have ha := h a (List.mem_cons_self ..)
    have := sub_le r (k.erase a) n2 fun x hx => (List.mem_erase_of_ne (fun z => n1 (by rw [← z]; exact hx))).mpr (h x (List.mem_cons_of_mem _ hx))
    rw [List.length_erase_of_mem ha] at this
    have hp : 0 < k.length := List.length_pos_of_mem ha
    rw [List.length_cons]; omega
theorem same_len {l k : List Str} (h1 : l.Nodup) (h2 : k.Nodup) (h : ∀ z, z ∈ l ↔ z ∈ k) : l.length = k.length :=
  Nat.le_antisymm (sub_le l k h1 fun x c => (h x).1 c) (sub_le k l h2 fun x c => (h x).2 c)
def leT (a b : Str) : Bool := !ltCps b.cps.toList a.cps.toList
/-! ### the set, tracked -/
def TSO (w : World) (a : Addr) (zs : List Str) : HO := .ext fun h => ∃ m, TSet w h a (fun y => decide (y ∈ zs)) m
theorem tso_new {w : World} {P : Program} {H : Hp} {h : Heap} {a : Addr} {zs : List Str} {m : Nat} (R : TSet w h a (fun y => decide (y ∈ zs)) m) : ObjOk P w H h a (TSO w a zs) := by
  have ⟨o, _, _, _, ⟨ho, _⟩, _⟩ := R
  exact ⟨⟨m, R⟩, ⟨o, ho⟩, fun h1 h2 ⟨k, p⟩ q => ⟨k, TSet.at p q⟩⟩
section
variable {X : Cx}
theorem tso_get {pins : List (Addr × Obj)} {σ : L2.St} {H : Hp} {s : Shared} {a : Addr} {zs : List Str} (I : Inv X pins σ H s) (ha : H a = some (TSO X.w a zs)) : ∃ m, TSet X.w s.heap a (fun y => decide (y ∈ zs)) m := (I.hok a _ ha).1
def rTSet (K : PySem.W.Frag) (w : World) : List V → Hp → VK → Prop := fun vs H Q => ∃ (l : Addr) (zs : List Str), vs = [.ref l] ∧ (SqL K H l (zs.map V.str) ∨ SqT K H l (zs.map V.str)) ∧ zs.length + 1 < scanBound ∧ ∀ p, H p = none → Q (.ref p) (upd H p (TSO w p zs))
theorem cr_tset (hc : X.calm = true) : CallR X (.type "set") (rTSet X.K X.w) := by
  intro pins s σ H vs us Q I r h
  obtain ⟨l, zs, rfl, hq, hb, q⟩ := h
  rw [Vals.ref1 r]
  have fin : ∀ (k : Heap) (tk c : Nat), TSet X.w k s.heap.objs.size (fun y => decide (y ∈ zs)) c → c ≤ zs.length → (∀ b o, s.heap.get? b = some o → k.get? b = some o) → EP X pins σ Q (.ref s.heap.objs.size) { s with heap := k, toks := tk } := fun k tk c T _ kp =>
    ⟨.ref _, upd H s.heap.objs.size (TSO X.w s.heap.objs.size zs), I.laid (t' := tk) (fun b u e => kp b u e) (Nat.le_refl _) (tso_new T), rfl, q _ (I.hok.fresh (Nat.le_refl _))⟩
  rcases hq with hq | hq
  · obtain ⟨its, rv, pl, _⟩ := I.list hq
    exact t_call_list zs (I.ok.hd hc) pl.isList (by simpa using rv.strs) hb fin
  · obtain ⟨its, rv, pl, _⟩ := I.tuple hq
    exact t_call_tuple zs (I.ok.hd hc) pl (by simpa using rv.strs) hb fin
def rTLen (w : World) : List V → Hp → VK → Prop := fun vs H Q => ∃ (a : Addr) (zs : List Str), vs = [.ref a] ∧ H a = some (TSO w a zs) ∧ Q (.int (dd zs).length) H
theorem cr_tlen : CallR X (.builtin "len") (rTLen X.w) := by
  intro pins s σ H vs us Q I r h
  obtain ⟨a, zs, rfl, ha, q⟩ := h
  rw [Vals.ref1 r]
  obtain ⟨m, o, es, ep, t, ⟨ho, hx, hd⟩, g, nd, hm, ⟨hb, hf, hn⟩, _⟩ := tso_get I ha
  have e : es.size = (dd zs).length := by
    have := same_len nd (dd_nodup zs) fun z => by rw [← hm z, decide_eq_true_eq, dd_mem]
    rw [List.length_map, Array.length_toList] at this
    exact this
  refine call_len_set ho hx hd hf ?_ ⟨.int (dd zs).length, H, I.tok _, ⟨_, by rw [e]⟩, q⟩
  have : scanBound < 2 ^ 62 := by decide
  omega
end
end Ev

set_option Elab.async false
set_option linter.all false
set_option maxRecDepth 100000
namespace Ev
open PySem PySem.Spec PyProof.Rows L2
section
variable {P : Program} {w : World} {A : Around} {E : Value → Shared → Prop} {s : Shared} {a : Addr} {zs : List Str} {m : Nat}
theorem t_sorted {Q : Value → Shared → Prop} (R : TSet w s.heap a (fun y => decide (y ∈ zs)) m) (hh : A.handled = none) (h64 : (dd zs).length < 64)
    (q : ∀ s' p (out : Array Value) (c : Nat) (ys : List Str), (∀ b o, s.heap.get? b = some o → s'.heap.get? b = some o) → s'.gens = s.gens ∧ s'.os = s.os → s.heap.objs.size ≤ p →
      s'.heap.get? p = some (seqObj "list" out c) → StrsAre out.toList ys → ys.Perm (dd zs) → sortedS ys = true → Q (.ref p) s') : wpAny (model P w) A (call (.builtin "sorted") [.ref a]) Q E s := by
  obtain ⟨o, es, ep, t, ⟨ho, hx, hd⟩, g, nd, hm, ⟨hb, hf, hn⟩, hr, hl⟩ := R
  have hlen : es.toList.length = (dd zs).length := by
    have := same_len nd (dd_nodup zs) fun z => by rw [← hm z, decide_eq_true_eq, dd_mem]
    rw [List.length_map] at this
    exact this
  refine Calls.call_function_entry kind_sorted plain_sorted entry_sorted (args_sorted1 _) ?_
  unfold Builtin.«sorted»; refine wpAny_bind (m := checkCount "sorted" 1 1 _) (wpAny_pure (wpAny_bind (collect_set (A := A.in1) hh ⟨o, ho, hx.1, hd⟩ hf hb hr hl fun s1 vs k1 hz g1 o1 pm => ?_)))
  have vl : vs.length = (dd zs).length := by rw [pm.length_eq, List.length_map]; exact hlen
  have sa : StrsAre vs (vs.map strOf) := strsAre_map vs fun v hv => by
    obtain ⟨e, he, y⟩ := List.mem_map.mp (pm.mem_iff.mp hv)
    obtain ⟨z, tk, h1, _⟩ := g e he
    exact ⟨z, tk, by rw [← y]; exact h1⟩
  have pk : (vs.map strOf).Perm (es.toList.map tKey) := by
    have y := pm.map strOf
    rw [List.map_map] at y
    exact y
  refine wpAny_bind (wpAny_newList ?_ (by rw [vl, sizeLine_eq]; omega))
  have oL : (s1.heap.push (seqObj "list" vs.toArray 0)).get? s1.heap.objs.size = some (seqObj "list" vs.toArray 0) := Heap.get?_push_size _ rfl
  refine wpAny_bind (wpAny_holding (wpAny_call_entry slot_list_sort ⟨_, oL, rfl⟩ entry_list_sort (list_sort_treeK strKind_oneLt oL sa.keysOf (fun u v r e => keyKind_strs (by rw [← e]; exact sa)) (by rw [vl]; exact h64) fun st hp hs => ⟨_, rfl, ?_⟩) (args_list_sort _)))
  obtain ⟨ys, b1, b2, b3⟩ := sorted_out_str sa hp hs
  generalize (arrOf st).map (·.2) = out at b1 ⊢
  obtain ⟨c, hc⟩ := sortedHeap_at (vs := vs) (out := out) oL
  have pn : ys.Perm (es.toList.map tKey) := b2.trans pk
  have pd : (es.toList.map tKey).Perm (dd zs) := by
    rw [List.perm_ext_iff_of_nodup nd (dd_nodup zs)]
    intro z
    rw [← hm z, decide_eq_true_eq, dd_mem]
  refine wpAny_pure ⟨_, rfl, q _ s1.heap.objs.size out c ys (fun b u e => ?_) ⟨g1, o1⟩ hz hc b1 (pn.trans pd) b3⟩
  have y := k1 b u e
  have lt := Heap.lt_size y
  show (sortedHeap (s1.heap.push (seqObj "list" vs.toArray 0)) s1.heap.objs.size vs out).get? b = some u
  rw [sortedHeap_old (Nat.ne_of_lt lt) (by rw [size_push']; exact Nat.lt_succ_of_lt lt)]
  exact Heap.get?_push_of_some _ y
end
section
variable {X : Cx}
def rTSort (w : World) : List V → Hp → VK → Prop := fun vs H Q => ∃ (a : Addr) (zs : List Str), vs = [.ref a] ∧ H a = some (TSO w a zs) ∧ (dd zs).length < 64 ∧
  ∀ (ys : List Str) (p : Addr), ys.Perm (dd zs) → sortedS ys = true → H p = none → Q (.ref p) (upd H p (.lst (ys.map V.str)))
theorem cr_tsort (hc : X.calm = true) : CallR X (.builtin "sorted") (rTSort X.w) := by
  intro pins s σ H vs us Q I r h
  obtain ⟨a, zs, rfl, ha, h64, q⟩ := h
  rw [Vals.ref1 r]
  obtain ⟨m, T⟩ := tso_get I ha
  refine t_sorted T (I.ok.hd hc) h64 fun s' p out c ys k g hp hg hi pm hs => ?_
  have hlen : (ys.map V.str).length ≤ sizeLine := by rw [List.length_map, pm.length_eq, sizeLine_eq]; omega
  have hn : H p = none := I.hok.fresh hp
  have J : Inv X pins σ (upd H p (.lst (ys.map V.str))) { s with heap := s'.heap, gens := s'.gens, drawn := s'.drawn, toks := s'.toks } :=
    I.call (ch := []) (Un.laid k hp hn) (I.hok.laid k hp ⟨hlen, out.toList, c, vals_of_strs hi, hg⟩) (by rw [g.1]; exact I.bare) (fun _ z => nomatch z)
  have st2 : s' = { s with heap := s'.heap, gens := s'.gens, drawn := s'.drawn, toks := s'.toks } := by
    obtain ⟨h1, g1, d1, t1, o1⟩ := s'
    have := g.2
    subst this
    rfl
  rw [st2]
  exact ⟨.ref p, _, J, rfl, q ys p pm hs hn⟩
end
end Ev

set_option Elab.async false
set_option linter.all false
set_option maxRecDepth 100000
namespace Ev
open PySem PySem.Spec PyProof.Rows L2
theorem leT_iff (a b : Str) : leT a b = true ↔ a.cps.toList ≤ b.cps.toList := by
  unfold leT
  rw [ltCps_eq, Bool.not_eq_true', decide_eq_false_iff_not]
  exact List.not_lt
theorem leT_trans (a b c : Str) (h : leT a b = true) (k : leT b c = true) : leT a c = true := by
  rw [leT_iff] at *; exact List.le_trans h k
theorem leT_total (a b : Str) : (leT a b || leT b a) = true := by
  rw [Bool.or_eq_true, leT_iff, leT_iff]; exact List.le_total _ _
theorem leT_anti (a b : Str) (h : leT a b = true) (k : leT b a = true) : a = b := by
  rw [leT_iff] at *
  have := List.le_antisymm h k
  cases a; cases b
  simp only [Str.mk.injEq] at *
  exact Array.toList_inj.mp this
theorem rising_pw : ∀ (p : Str) (l : List Str), risingS p l = true → (p :: l).Pairwise fun a b => leT a b = true
  | p, [], _ => by simp
  | p, x :: r, h => by
    have h' : (!ltCps x.cps.toList p.cps.toList && risingS x r) = true := h
    rw [Bool.and_eq_true] at h'
    have ih := rising_pw x r h'.2
    refine List.pairwise_cons.mpr ⟨fun y hy => ?_, ih⟩
    have h1 : leT p x = true := h'.1
    rcases List.mem_cons.mp hy with rfl | hy
    · exact h1
    · exact leT_trans _ _ _ h1 ((List.pairwise_cons.mp ih).1 y hy)
theorem sortedS_pw : ∀ {l : List Str}, sortedS l = true → l.Pairwise fun a b => leT a b = true
  | [], _ => List.Pairwise.nil
  | x :: r, h => rising_pw x r h
def srt (l : List Str) : List Str := l.mergeSort leT
theorem srt_mem (y : Str) (l : List Str) : y ∈ srt l ↔ y ∈ l := (List.mergeSort_perm l leT).mem_iff
theorem srt_len (l : List Str) : (srt l).length = l.length := (List.mergeSort_perm l leT).length_eq
theorem srt_uniq {ys l : List Str} (h : ys.Perm l) (s : sortedS ys = true) : ys = srt l :=
  List.Perm.eq_of_pairwise (fun a b _ _ => leT_anti a b) (sortedS_pw s) (List.pairwise_mergeSort leT_trans leT_total l) (h.trans (List.mergeSort_perm l leT).symm)
theorem strsOf_rp {g : Gx} {F : Hp} {vs : List V} {xs : List D} {ys : List Str} (r : RpA g F vs xs) (e : strsOf xs = some ys) : vs = ys.map V.str := r.strs e
def strsIn : List D → Option (List Str)
  | [d] => d.seqT.bind strsOf
  | _ => none
def lenSetD (ds : List D) : Option S := (strsIn ds).bind fun ys => if ys.length + 1 < scanBound then some (.d (.int ((dd ys).length : Nat))) else none
def sortSetD (ds : List D) : Option S := (strsIn ds).bind fun ys => if ys.length < 64 then some (.own ((srt (dd ys)).map D.str)) else none
theorem strsIn_at {g : Gx} {O F H : Hp} {vs : List V} {ds : List D} {ys : List Str} (fh : Fit F H) (b : BwA g O F H vs ds) (e : strsIn ds = some ys) : ∃ l, vs = [.ref l] ∧ (SqL g.K H l (ys.map V.str) ∨ SqT g.K H l (ys.map V.str)) := by
  unfold strsIn at e
  split at e
  · rw [Option.bind_eq_some_iff] at e
    obtain ⟨xs, ex, e⟩ := e
    obtain ⟨v, rfl, b1⟩ := b.one
    obtain ⟨a, us, rfl, h1, r⟩ := b1.seqT ex fh
    have := strsOf_rp r e
    subst this
    exact ⟨a, rfl, h1⟩
  · cases e
theorem on_lenSet {g : Gx} : ON g (fun vs H Q => rTSet g.K g.w vs H fun x H2 => rTLen g.w [x] H2 Q) lenSetD := by
  intro O F H vs ds s Q fh b ef q
  unfold lenSetD at ef
  rw [Option.bind_eq_some_iff] at ef
  obtain ⟨ys, ey, ef⟩ := ef
  split at ef
  · rename_i hl
    cases ef
    obtain ⟨l, rfl, h1⟩ := strsIn_at fh b ey
    exact ⟨l, ys, rfl, h1, hl, fun p hp => ⟨p, ys, rfl, upd_same, q F _ _ (grow_obj fh hp) (.int _)⟩⟩
  · cases ef
theorem rpa_strs {g : Gx} {F : Hp} : ∀ ys : List Str, RpA g F (ys.map V.str) (ys.map D.str)
  | [] => .nil
  | y :: ys => .cons (.str y) (rpa_strs ys)
theorem on_sortSet {g : Gx} : ON g (fun vs H Q => rTSet g.K g.w vs H fun x H2 => rTSort g.w [x] H2 Q) sortSetD := by
  intro O F H vs ds s Q fh b ef q
  unfold sortSetD at ef
  rw [Option.bind_eq_some_iff] at ef
  obtain ⟨ys, ey, ef⟩ := ef
  split at ef
  · rename_i hl
    cases ef
    obtain ⟨l, rfl, h1⟩ := strsIn_at fh b ey
    have hb : ys.length + 1 < scanBound := Nat.lt_of_le_of_lt (show _ ≤ 64 by omega) (by decide)
    refine ⟨l, ys, rfl, h1, hb, fun p hp => ⟨p, ys, rfl, upd_same, Nat.lt_of_le_of_lt (dd_len ys) hl, fun zs p2 pm st hp2 => ?_⟩⟩
    have := srt_uniq pm st
    subst this
    have g1 := grow_obj (o := TSO g.w p ys) fh hp
    have g2 := grow_lst (vs := (srt (dd ys)).map V.str) g1.fh hp2
    obtain ⟨a, o, e1, e2, e3, e4, e5⟩ := new_own g1.fh hp2 (rpa_strs (g := g) (srt (dd ys)))
    refine q F _ _ (g1.trans g2) ⟨a, o, e1, ?_, e3, e4, e5⟩
    cases e1
    by_cases c : p2 = p
    · subst c; rw [upd_same] at hp2; cases hp2
    · rw [upd_ne c] at hp2; exact hp2
  · cases ef
section
variable {X : Cx} {E : WS} {a : Expr} {ms : List (M R)} {p p2 q pos : Pos}
theorem pe_lenSetT (hc : X.calm = true) (hg : Gl X "len") (hm : X.mg "len" = none) (hg2 : Gl X "set") (hm2 : X.mg "set" = none) (ha : PA X [a] (tOs (gx X) E (opsM ms))) (na : starEach [a] X.env = [(false, eval a X.env)]) :
    PE X (.Call (.Name "len" p) [.Call (.Name "set" p2) [a] [] q] [] pos) (tR (gx X) E (opN lenSetD ms)) := by
  refine (pe_callB cr_tlen hg hm (show bootBuiltins "len" = some (.builtin "len") from rfl) (pa_cons (pe_callTy (cr_tset hc) hg2 hm2 (show bootBuiltins "set" = some (.type "set") from rfl) ha (by decide) (by decide) na) pa_nil)).imp fun σ H Q w => ?_
  have k := t_opN on_lenSet w
  exact k
theorem pe_sortSetT (hc : X.calm = true) (hg : Gl X "sorted") (hm : X.mg "sorted" = none) (hg2 : Gl X "set") (hm2 : X.mg "set" = none) (ha : PA X [a] (tOs (gx X) E (opsM ms))) (na : starEach [a] X.env = [(false, eval a X.env)]) :
    PE X (.Call (.Name "sorted" p) [.Call (.Name "set" p2) [a] [] q] [] pos) (tR (gx X) E (opN sortSetD ms)) := by
  refine (pe_callB (cr_tsort hc) hg hm (show bootBuiltins "sorted" = some (.builtin "sorted") from rfl) (pa_cons (pe_callTy (cr_tset hc) hg2 hm2 (show bootBuiltins "set" = some (.type "set") from rfl) ha (by decide) (by decide) na) pa_nil)).imp fun σ H Q w => ?_
  have k := t_opN on_sortSet w
  exact k
end
end Ev

set_option Elab.async false
set_option linter.all false
set_option maxRecDepth 100000
namespace Ev
open PySem PySem.Spec PyProof.Rows L2
/-! ### comprehensions with two for -/
def compGo2 (vs vs1 : List Nat) (T : Tg) (tt : M Bool) (src1 : M (List D)) (T1 : Tg) (tt1 : M Bool) (te : M D) : List D → List D → M (List D)
  | [], acc => retM acc
  | d :: ds, acc => fun δ => match asgT T d δ with
    | none => none
    | some δ1 => bindM tt (fun b => if b then bindM src1 (fun es => bindM (fun δ2 => compGo vs1 T1 tt1 te es acc (wipeD δ2 vs1)) (fun acc2 => fun δ3 => compGo2 vs vs1 T tt src1 T1 tt1 te ds acc2 (wipeD δ3 vs)))
      else fun δ2 => compGo2 vs vs1 T tt src1 T1 tt1 te ds acc (wipeD δ2 vs)) δ1
def compM2 (vs vs1 : List Nat) (T : Tg) (src : M (List D)) (tt : M Bool) (src1 : M (List D)) (T1 : Tg) (tt1 : M Bool) (te : M D) : M R := bindM src fun ds => fun δ => if noOwn δ vs then match compGo2 vs vs1 T tt src1 T1 tt1 te ds [] (wipeD δ vs) with
    | some (.ok out δe) => some (.ok (.own out) (backD δ δe vs))
    | _ => none
  else none
section
variable {X : Cx} {E : WS} {tg iter tg1 iter1 elt : Expr} {ifs ifs1 : List Expr} {T T1 : Tg} {src src1 : M (List D)} {tt tt1 : M Bool} {te : M D} {vs vs1 : List Nat}
theorem wipe_same {σ σ4 : L2.St} {n : Nat} {vs : List Nat} (hn : σ.length = n) (kp : Keep (outer n vs) (wipe σ vs) σ4) : wipe σ4 vs = wipe σ vs := by
  have h1 : wipe σ4 vs = wipe (wipe σ vs) vs := wipe_eq kp.1 fun j hj => by
    by_cases hb : j < n
    · exact kp.2 j (List.mem_filter.mpr ⟨List.mem_range.mpr hb, by simp [hj]⟩)
    · rw [List.getElem?_eq_none (by rw [kp.1, wipe_len, hn]; omega), List.getElem?_eq_none (by rw [wipe_len, hn]; omega)]
  rw [h1]
  exact wipe_eq (wipe_len) fun j hj => wipe_ne hj
theorem wipe_in {σ : L2.St} (hv : ∀ i ∈ vs1, i ∈ vs) : wipe (wipe σ vs1) vs = wipe σ vs :=
  wipe_eq wipe_len fun j hj => wipe_ne fun h => hj (hv j h)
theorem drop_at {ds : List D} {i : Nat} {d : D} (hd : ds[i]? = some d) : ds.drop i = d :: ds.drop (i + 1) := by
  obtain ⟨h1, h2⟩ := List.getElem?_eq_some_iff.mp hd
  rw [← h2]; exact List.drop_eq_getElem_cons h1
theorem lc2_core' {σ : L2.St} {H : Hp} {Q : VK} {n : Nat} (hn : σ.length = n) (hv : ∀ i ∈ vs1, i ∈ vs) (w : tR (gx X) E (compM2 vs vs1 T src tt src1 T1 tt1 te) σ H Q) :
    tLc2 (tI (gx X) E src) (tG (gx X) (outer n vs) T) (tT (gx X) (fun _ => E0) tt) (tI (gx X) (fun _ => E0) src1) (tG (gx X) (outer n vs1) T1) (tT (gx X) (fun _ => E0) tt1) (tD (gx X) (fun _ => E0) te) vs vs1 σ H Q := by
  obtain ⟨O, F, δ, M, w⟩ := w
  refine ⟨O, F, δ, M, wp_mono (wp_bind w) fun F1 H1 δ1 ds s1 M1 w1 J wk P hP => ?_⟩
  unfold wp at w1
  simp only at w1
  split at w1
  · exact w1.elim
  · rename_i r δ3 e1
    split at e1
    · rename_i hno
      split at e1
      · rename_i out δe eg
        cases e1
        have hO : O P = none := M1.oh.free hP
        refine ⟨fun i m H' => m = ds.length - i ∧ i ≤ ds.length ∧ ∃ F' δ' acc accD, Same F1 F' ∧ Ms (gx X) (upd O P (.lst acc)) F' H' (wipe σ vs) δ' ∧ RpA (gx X) F' acc accD ∧ compGo2 vs vs1 T tt src1 T1 tt1 te (ds.drop i) accD δ' = some (.ok out δe),
          ⟨_, rfl, Nat.zero_le _, F1, _, [], [], Same.refl _, M1.wiped.out hP _ rfl, .nil, eg⟩, ?_⟩
        rintro i m H2 ⟨rfl, hi, F2, δ2, acc, accD, s2, M2, racc, eg2⟩
        by_cases hlt : i < ds.length
        · obtain ⟨d, hd⟩ := idx hlt
          rw [drop_at hd] at eg2
          refine .inr ⟨wk.go i F2 H2 s2 M2.fh hlt, fun H' => ∃ F' δ' acc accD, Same F1 F' ∧ Ms (gx X) (upd O P (.lst acc)) F' H' (wipe σ vs) δ' ∧ RpA (gx X) F' acc accD ∧ compGo2 vs vs1 T tt src1 T1 tt1 te (ds.drop (i + 1)) accD δ' = some (.ok out δe),
            fun H' q => ⟨ds.length - (i + 1), by omega, rfl, by omega, q⟩, fun x H3 hy => ?_⟩
          obtain ⟨F3, k3, r3⟩ := wk.yl i F2 H2 x H3 d s2 M2.fh hd hy
          simp only [compGo2] at eg2
          cases ea : asgT T d δ2 with
          | none => rw [ea] at eg2; cases eg2
          | some δ4 =>
            rw [ea] at eg2
            refine ⟨upd O P (.lst acc), F3, δ2, d, δ4, M2.grow k3, r3, ea, fun σ4 kp M4 => ?_⟩
            have we : wipe σ4 vs = wipe σ vs := wipe_same hn kp
            have hn4 : σ4.length = n := by rw [kp.1, wipe_len, hn]
            refine ⟨we, ?_⟩
            obtain ⟨b, δ5, eb, eg3⟩ := bind_ok eg2
            refine ⟨upd O P (.lst acc), F3, δ4, M4, wp_of_ok eb fun F5 H5 s5 M5 => ?_⟩
            have s15 : Same F1 F5 := s2.trans (k3.ff.trans s5)
            have racc5 := racc.mono (k3.ff.trans s5) _ _
            cases b with
            | false =>
              rw [if_neg Bool.false_ne_true] at eg3
              exact iteF ⟨F5, _, acc, accD, s15, M5.wiped2 we, racc5, eg3⟩
            | true =>
              rw [if_pos rfl] at eg3
              obtain ⟨es, δ6, ey, eg4⟩ := bind_ok eg3
              obtain ⟨acc2, δ7, ec, eg5⟩ := bind_ok eg4
              refine iteT ⟨upd O P (.lst acc), F5, δ5, M5, wp_of_ok ey fun F6 H6 s6 M6 J1 wk1 => ?_⟩
              refine ⟨fun j k H' => k = es.length - j ∧ j ≤ es.length ∧ ∃ F' δ' ac aD, Same F6 F' ∧ Ms (gx X) (upd O P (.lst ac)) F' H' (wipe σ4 vs1) δ' ∧ RpA (gx X) F' ac aD ∧ compGo vs1 T1 tt1 te (es.drop j) aD δ' = some (.ok acc2 δ7),
                ⟨_, rfl, Nat.zero_le _, F6, _, acc, accD, Same.refl _, M6.wiped, racc5.mono s6 _ _, ec⟩, ?_⟩
              rintro j k H7 ⟨rfl, hj, F7, δ8, ac, aD, s7, M7, ra, ec2⟩
              by_cases hlj : j < es.length
              · obtain ⟨d2, hd2⟩ := idx hlj
                rw [drop_at hd2] at ec2
                refine .inr ⟨wk1.go j F7 H7 s7 M7.fh hlj, fun H' => ∃ F' δ' ac aD, Same F6 F' ∧ Ms (gx X) (upd O P (.lst ac)) F' H' (wipe σ4 vs1) δ' ∧ RpA (gx X) F' ac aD ∧ compGo vs1 T1 tt1 te (es.drop (j + 1)) aD δ' = some (.ok acc2 δ7),
                  fun H' q => ⟨es.length - (j + 1), by omega, rfl, by omega, q⟩, fun x2 H8 hy2 => ?_⟩
                obtain ⟨F8, k8, r8⟩ := wk1.yl j F7 H7 x2 H8 d2 s7 M7.fh hd2 hy2
                simp only [compGo] at ec2
                cases ea2 : asgT T1 d2 δ8 with
                | none => rw [ea2] at ec2; cases ec2
                | some δ9 =>
                  rw [ea2] at ec2
                  refine ⟨upd O P (.lst ac), F8, δ8, d2, δ9, M7.grow k8, r8, ea2, fun σ9 kp9 M9 => ?_⟩
                  have we9 : wipe σ9 vs1 = wipe σ4 vs1 := wipe_same hn4 kp9
                  refine ⟨we9, ?_⟩
                  obtain ⟨b2, δ10, eb2, ec3⟩ := bind_ok ec2
                  refine ⟨upd O P (.lst ac), F8, δ9, M9, wp_of_ok eb2 fun F10 H10 s10 M10 => ?_⟩
                  have s610 : Same F6 F10 := s7.trans (k8.ff.trans s10)
                  have ra10 := ra.mono (k8.ff.trans s10) _ _
                  cases b2 with
                  | false =>
                    rw [if_neg Bool.false_ne_true] at ec3
                    exact iteF ⟨F10, _, ac, aD, s610, M10.wiped2 we9, ra10, ec3⟩
                  | true =>
                    rw [if_pos rfl] at ec3
                    obtain ⟨y, δ11, ey2, ec4⟩ := bind_ok ec3
                    refine iteT ⟨upd O P (.lst ac), F10, δ10, M10, wp_of_ok ey2 fun F11 H11 s11 M11 v hv2 => ?_⟩
                    try simp only at ec4
                    split at ec4
                    · rename_i hz
                      refine ⟨ac, M11.oh _ _ upd_same, by rw [ra10.length]; exact hz, F11, _, ac ++ [v], aD ++ [y], s610.trans s11, ?_, (ra10.mono s11 _ _).append (.cons hv2 .nil), ec4⟩
                      exact (M11.reout hO).wiped2 we9
                    · cases ec4
              · have ej : j = es.length := by omega
                subst ej
                rw [List.drop_length] at ec2
                simp only [compGo, retM, Option.some.injEq, Rs.ok.injEq] at ec2
                obtain ⟨rfl, rfl⟩ := ec2
                refine .inl ⟨wk1.st _ F7 H7 s7 M7.fh rfl, F7, _, ac, aD, s15.trans (s6.trans s7), ?_, ra, eg5⟩
                have := M7.wiped (vs := vs)
                rw [wipe_in hv, we] at this
                exact this
        · have ei : i = ds.length := by omega
          subst ei
          rw [List.drop_length] at eg2
          simp only [compGo2, retM, Option.some.injEq, Rs.ok.injEq] at eg2
          obtain ⟨rfl, rfl⟩ := eg2
          have Mb := M1.back s2 hno M2 hO
          refine .inl ⟨wk.st _ F2 H2 s2 M2.fh rfl, w1 F2 H2 s2 Mb _ ⟨⟨P, _, rfl, M2.oh _ _ upd_same, ⟨acc, rfl, racc⟩, (M2.dj P).resolve_right (by rw [upd_same]; exact fun z => nomatch z), hO⟩, fun j t hj ht hs => ?_⟩⟩
          rcases backD_some hj with ⟨a, b⟩ | ⟨a, b⟩
          · obtain ⟨x, rfl⟩ := noOwn_at hno a b; cases ht
          · obtain ⟨u, eu, q, us, rfl, f1, f2, f3, f4⟩ := M2.sw b ht
            rw [wipe_ne a, hs] at eu; cases eu
            rw [upd_same] at f4; cases f4
      · cases e1
    · cases e1
  · rename_i e1
    split at e1
    · split at e1
      · cases e1
      · cases e1
    · cases e1
theorem pr_lc2 {scope : Scope} {own : List (Str × Nat)} {pos : Pos} (hc : X.calm = true) (hN : X.N.Nodup) (hi : PI X tg iter (tI (gx X) E src)) (ok : BlkOk X.N X.env.scope scope own) (hv : ∀ i ∈ vs1, i ∈ own.map (·.2))
    (hg : ∀ (s : Shared) (H : Hp) (C : Addr) (cl : List (Str × Addr)) (fp : List Addr), PG (X.blk s H scope (compEnvC scope cl C X.env) fp) tg (tG (gx X) (outer X.N.length (own.map (·.2))) T))
    (ht : ∀ (s : Shared) (H : Hp) (C : Addr) (cl : List (Str × Addr)) (fp : List Addr), PTs (X.blk s H scope (compEnvC scope cl C X.env) fp) ifs (tT (gx X) (fun _ => E0) tt))
    (hi1 : ∀ (s : Shared) (H : Hp) (C : Addr) (cl : List (Str × Addr)) (fp : List Addr), PI (X.blk s H scope (compEnvC scope cl C X.env) fp) tg1 iter1 (tI (gx X) (fun _ => E0) src1))
    (hg1 : ∀ (s : Shared) (H : Hp) (C : Addr) (cl : List (Str × Addr)) (fp : List Addr), PG (X.blk s H scope (compEnvC scope cl C X.env) fp) tg1 (tG (gx X) (outer X.N.length vs1) T1))
    (ht1 : ∀ (s : Shared) (H : Hp) (C : Addr) (cl : List (Str × Addr)) (fp : List Addr), PTs (X.blk s H scope (compEnvC scope cl C X.env) fp) ifs1 (tT (gx X) (fun _ => E0) tt1))
    (he : ∀ (s : Shared) (H : Hp) (C : Addr) (cl : List (Str × Addr)) (fp : List Addr), PE (X.blk s H scope (compEnvC scope cl C X.env) fp) elt (tD (gx X) (fun _ => E0) te)) (hs : ∀ x, foldedSetIterable iter X.env x = pure x) (hs1 : ∀ env x, foldedSetIterable iter1 env x = pure x) :
    PE X (.ListComp elt [⟨tg, iter, ifs, 0⟩, ⟨tg1, iter1, ifs1, 0⟩] scope pos) (tR (gx X) E (compM2 (own.map (·.2)) vs1 T src tt src1 T1 tt1 te)) :=
  ⟨fun pins s σ H Q I w => (pe_lc2 hc hN hi ok hv hg ht hi1 hg1 ht1 he hs hs1).run pins s σ H Q I (lc2_core' I.len hv w)⟩
theorem pr_setLc2 {L : List Nat} {i : Nat} {y : Str} {py : Pos} {scope : Scope} {own : List (Str × Nat)} {pos spos : Pos} (hc : X.calm = true) (hN : X.N.Nodup) (hy : X.N[i]? = some y) (hyl : X.env.scope.names.lookup y = some .local) (hL : i ∉ L)
    (hsw : swapsWith (.ListComp elt [⟨tg, iter, ifs, 0⟩, ⟨tg1, iter1, ifs1, 0⟩] scope pos) (some (.Name y py)) spos.line X.env = pure true) (hi : PI X tg iter (tI (gx X) E src)) (ok : BlkOk X.N X.env.scope scope own) (hv : ∀ i ∈ vs1, i ∈ own.map (·.2))
    (hg : ∀ (s : Shared) (H : Hp) (C : Addr) (cl : List (Str × Addr)) (fp : List Addr), PG (X.blk s H scope (compEnvC scope cl C X.env) fp) tg (tG (gx X) (outer X.N.length (own.map (·.2))) T))
    (ht : ∀ (s : Shared) (H : Hp) (C : Addr) (cl : List (Str × Addr)) (fp : List Addr), PTs (X.blk s H scope (compEnvC scope cl C X.env) fp) ifs (tT (gx X) (fun _ => E0) tt))
    (hi1 : ∀ (s : Shared) (H : Hp) (C : Addr) (cl : List (Str × Addr)) (fp : List Addr), PI (X.blk s H scope (compEnvC scope cl C X.env) fp) tg1 iter1 (tI (gx X) (fun _ => E0) src1))
    (hg1 : ∀ (s : Shared) (H : Hp) (C : Addr) (cl : List (Str × Addr)) (fp : List Addr), PG (X.blk s H scope (compEnvC scope cl C X.env) fp) tg1 (tG (gx X) (outer X.N.length vs1) T1))
    (ht1 : ∀ (s : Shared) (H : Hp) (C : Addr) (cl : List (Str × Addr)) (fp : List Addr), PTs (X.blk s H scope (compEnvC scope cl C X.env) fp) ifs1 (tT (gx X) (fun _ => E0) tt1))
    (he : ∀ (s : Shared) (H : Hp) (C : Addr) (cl : List (Str × Addr)) (fp : List Addr), PE (X.blk s H scope (compEnvC scope cl C X.env) fp) elt (tD (gx X) (fun _ => E0) te)) (hs : ∀ x, foldedSetIterable iter X.env x = pure x) (hs1 : ∀ env x, foldedSetIterable iter1 env x = pure x) :
    PS X (.Assign [.Name y py] (.ListComp elt [⟨tg, iter, ifs, 0⟩, ⟨tg1, iter1, ifs1, 0⟩] scope pos) spos) (tS (gx X) E L (setS i (compM2 (own.map (·.2)) vs1 T src tt src1 T1 tt1 te))) := by
  refine ⟨fun pins s σ H D I w => (ps_setLc2 hc hN hy hyl hsw hi ok hv hg ht hi1 hg1 ht1 he hs hs1).run pins s σ H D I ?_⟩
  obtain ⟨O, F, δ, M, w⟩ := w
  refine lc2_core' (Q := fun v H1 => D.nx (σ.set i (some v)) H1) I.len hv ⟨O, F, δ, M, wp_mono (wps_bind w) fun F1 H1 δ1 r s1 M1 w1 v hv => wps_put M1 ?_ hL hv w1⟩
  rw [I.len]; exact (List.getElem?_eq_some_iff.mp hy).1
end
end Ev

set_option Elab.async false
set_option linter.all false
set_option maxRecDepth 100000
namespace Ev
open PySem PySem.Spec PyProof.Rows L2
/-! ### sum(lists, list) -/
abbrev Row3 := Addr × Array Value × Nat
def catR (rows : List Row3) : Array Value := (rows.map (·.2.1)).foldl (· ++ ·) #[]
theorem catR_cons (r : Row3) (rs : List Row3) : catR (r :: rs) = r.2.1 ++ catR rs := by
  have key : ∀ (l : List (Array Value)) (a b : Array Value), l.foldl (· ++ ·) (a ++ b) = a ++ l.foldl (· ++ ·) b := by
    intro l
    induction l with
    | nil => intro a b; rfl
    | cons x l ih => intro a b; rw [List.foldl_cons, List.foldl_cons, Array.append_assoc, ih]
  unfold catR
  rw [List.map_cons, List.foldl_cons]
  have := key (rs.map (·.2.1)) r.2.1 #[]
  rw [Array.append_empty] at this
  rw [Array.empty_append]
  exact this
section
variable {P : Program} {w : World} {A : Around} {E : Value → Shared → Prop} {s : Shared}
theorem s_loop {I l : Addr} {items : Array Value} {R : Result → Shared → Prop} (W : Walks P w A.in1 I [I, l] [I] items.size (fun i v => items[i]? = some v) (fun i h => h.IsListIter I l i ∧ h.IsList l items)) (rows : List Row3) (hn : items.size = rows.length)
    (vl : ∀ (i : Nat) v, items[i]? = some v → ∃ r, rows[i]? = some r ∧ v = .ref r.1) (S : Addr) (SI : S ≠ I) (Sl : S ≠ l) (rI : ∀ r ∈ rows, r.1 ≠ I ∧ r.1 ≠ S) :
    ∀ (k i : Nat) (s : Shared) (T : Addr) (acc : Array Value) (m c : Nat), items.size - i = k → i ≤ items.size → (s.heap.IsListIter I l i ∧ s.heap.IsList l items) → IsL s.heap S #[.ref T] c → IsL s.heap T acc m → T ≠ I → T ≠ S → (∀ r ∈ rows, IsL s.heap r.1 r.2.1 r.2.2) →
      acc.size + (catR (rows.drop i)).size ≤ sizeLine →
      (∀ (k' : Heap) (tk : Nat) (T' : Addr) (m' : Nat), (∀ b o, b ≠ I → b ≠ S → s.heap.get? b = some o → k'.get? b = some o) → IsL k' T' (acc ++ catR (rows.drop i)) m' → (T' = T ∧ i = items.size) ∨ S < T' → R (.ok (.ret (.ref T'))) { s with heap := k', toks := tk }) →
      codeAny (model P w) A (.builtin "sum.loop" ⟨[.ref I, .ref S, rawInt 2, rawInt 0], []⟩) R s := by
  have Sw : S ∉ [I] := by simpa using SI
  intro k
  induction k with
  | zero =>
    intro i s T acc m c ek hi st hS hT tI tS hr hz q
    have ei : i = items.size := by omega
    subst ei
    refine codeAny_builtin F.entry_sum_loop ?_
    rw [Around.under_plainId F.plain_sum_loop _]
    show wpAny _ A.in1 (seqItems? (.ref S) >>= _) _ _ s
    refine wpAny_bind (wpAny_seqItems hS rfl ?_)
    show wpAny _ A.in1 (tryCatch (pyNext (.ref I)) _ >>= _) _ _ s
    refine wpAny_bind (wpAny_tryCatch (W.done s _ _ st fun k' tk kp => ?_))
    have e : rows.drop items.size = [] := by rw [hn, List.drop_length]
    rw [e] at q
    refine wpAny_pure (q k' tk T m (fun b o b1 _ e => kp b o (by simpa using b1) e) ?_ (.inl ⟨rfl, rfl⟩))
    rw [show acc ++ catR [] = acc by simp [catR]]
    exact kp T _ (by simpa using tI) hT
  | succ k ih =>
    intro i s T acc m c ek hi st hS hT tI tS hr hz q
    have lt : i < items.size := by omega
    refine codeAny_builtin F.entry_sum_loop ?_
    rw [Around.under_plainId F.plain_sum_loop _]
    show wpAny _ A.in1 (seqItems? (.ref S) >>= _) _ _ s
    refine wpAny_bind (wpAny_seqItems hS rfl ?_)
    show wpAny _ A.in1 (tryCatch (pyNext (.ref I)) _ >>= _) _ _ s
    refine wpAny_bind (wpAny_tryCatch (W.item i s _ _ lt st fun v h1 tk hv st1 kp => ?_))
    obtain ⟨r, hri, rfl⟩ := vl i v hv
    have hS1 := kp S _ Sw hS
    have hT1 : IsL h1 T acc m := kp T _ (by simpa using tI) hT
    have rm : r ∈ rows := List.mem_of_getElem? hri
    have hr1 : ∀ x ∈ rows, IsL h1 x.1 x.2.1 x.2.2 := fun x hx => kp x.1 _ (by simpa using (rI x hx).1) (hr x hx)
    have ed : rows.drop i = r :: rows.drop (i + 1) := by
      obtain ⟨g1, g2⟩ := List.getElem?_eq_some_iff.mp hri
      rw [← g2]; exact List.drop_eq_getElem_cons g1
    rw [ed, catR_cons] at hz q
    rw [Array.size_append] at hz
    show wpAny _ A.in1 ((holding [Value.ref r.1] (binaryOp .Add (.ref T) (.ref r.1))).attempt >>= _) _ _ _
    refine wpAny_bind (wpAny_attempt (wpAny_holding (PySem.P.add_list (s := { s with heap := h1, toks := tk }) hT1 (hr1 r rm) ?_ (by omega))))
    have sS : S < h1.objs.size := Heap.lt_size hS1
    have sI : I < h1.objs.size := by obtain ⟨o, e, _⟩ := st1.1; exact Heap.lt_size e
    have hS2 := Heap.get?_push_of_some { cls := .type "list", data := .seq (acc ++ r.2.1) } hS1
    show wpAny _ A.in1 (updateSeq S (fun _ => #[.ref h1.objs.size]) >>= _) _ _ _
    refine wpAny_bind (wpAny_updateSeq hS2 rfl ?_)
    have hS3 := Heap.get?_update_self (Obj.mapSeq fun _ => #[Value.ref h1.objs.size]) hS2 rfl
    refine wpAny_bind (wpAny_letGo (wpAny_bind (wpAny_updateSeq hS3 rfl ?_)))
    have hS4 := Heap.get?_update_self (Obj.mapSeq fun _ => #[Value.ref h1.objs.size]) hS3 rfl
    have kp3 : ∀ b o, b ≠ S → h1.get? b = some o → (((h1.push { cls := .type "list", data := .seq (acc ++ r.2.1) }).update S (Obj.mapSeq fun _ => #[Value.ref h1.objs.size])).update S (Obj.mapSeq fun _ => #[Value.ref h1.objs.size])).get? b = some o := fun b o hb e =>
      (Heap.get?_update_other _ _ (Ne.symm hb)).trans ((Heap.get?_update_other _ _ (Ne.symm hb)).trans (Heap.get?_push_of_some _ e))
    refine wpAny_pure ⟨plainId_quiet F.plain_sum_loop _, ih (i + 1) _ h1.objs.size (acc ++ r.2.1) 0 _ (by omega) lt (W.frame (i + 1) h1 _ st1 fun b hb o e => kp3 b o (fun z => ?_) e) hS4 ?_ (Ne.symm (Nat.ne_of_lt sI)) (Ne.symm (Nat.ne_of_lt sS)) (fun x hx => kp3 x.1 _ (rI x hx).2 (hr1 x hx)) (by rw [Array.size_append]; omega) fun k' tk' T' m' kq hq hT' => ?_⟩
    · subst z
      simp only [List.mem_cons, List.not_mem_nil, or_false] at hb
      exact hb.elim SI Sl
    · exact (Heap.get?_update_other _ _ (Nat.ne_of_lt sS)).trans ((Heap.get?_update_other _ _ (Nat.ne_of_lt sS)).trans (Heap.get?_push_size _ rfl))
    · refine q k' tk' T' m' (fun b o b1 b2 e => kq b o b1 b2 (kp3 b o b2 (kp b o (by simpa using b1) e))) (by rw [← Array.append_assoc]; exact hq) (.inr ?_)
      rcases hT' with ⟨rfl, _⟩ | hT'
      · exact sS
      · exact hT'
theorem args_sum2 (a b : Value) : argsOk "sum" ⟨[a, b], []⟩ := by unfold argsOk; kernel_rfl
theorem s_call {l T : Addr} {items acc : Array Value} {m : Nat} {Q : Value → Shared → Prop} (rows : List Row3) (hh : A.handled = none) (hl : s.heap.IsList l items) (hT : IsL s.heap T acc m) (hn : items.size = rows.length)
    (vl : ∀ (i : Nat) v, items[i]? = some v → ∃ r, rows[i]? = some r ∧ v = .ref r.1) (hr : ∀ r ∈ rows, IsL s.heap r.1 r.2.1 r.2.2) (hz : acc.size + (catR rows).size ≤ sizeLine)
    (q : ∀ (k : Heap) (tk : Nat) (T' : Addr) (m' : Nat), (∀ b o, s.heap.get? b = some o → k.get? b = some o) → IsL k T' (acc ++ catR rows) m' → (T' = T ∧ rows = []) ∨ s.heap.objs.size ≤ T' → Q (.ref T') { s with heap := k, toks := tk }) :
    wpAny (model P w) A (call (.builtin "sum") [.ref l, .ref T]) Q E s := by
  refine call_function_tree F.kind_sum F.plain_sum F.entry_sum (args_sum2 _ _) ?_
  unfold Builtin.«sum»
  simp only [List.length_cons, List.length_nil]
  rw [if_neg (by decide)]
  refine wpAny_bind (wpAny_of_eq (show Builtin.Builtins.bindParams "sum" ["start"] 0 ⟨[.ref T], []⟩ = pure [some (.ref T)] from rfl) ?_)
  have lt : l < s.heap.objs.size := by obtain ⟨_, e, _⟩ := hl; exact Heap.lt_size e
  have tT : T < s.heap.objs.size := Heap.lt_size hT
  refine wpAny_bind (wpAny_pyIter_list hl ?_)
  refine wpAny_bind (wpAny_pure ?_)
  have hT1 : IsL (s.heap.push { cls := .type "list_iterator", data := .fields #[.ref l, .int 0 0] }) T acc m := Heap.get?_push_of_some _ hT
  have ty : Shared.TypeIs { s with heap := s.heap.push { cls := .type "list_iterator", data := .fields #[.ref l, .int 0 0] } } (.ref T) "list" := ⟨_, hT1, rfl⟩
  simp only [List.forIn_cons, List.forIn_nil]
  refine wpAny_bind (wpAny_bind (wpAny_bind (wpAny_isInstance (T := "list") (b := false) ty F.sub_list_str ?_)))
  simp only [Bool.false_eq_true, if_false]
  refine wpAny_pure (wpAny_bind (wpAny_bind (wpAny_isInstance (T := "list") (b := false) ty F.sub_list_bytes ?_)))
  simp only [Bool.false_eq_true, if_false]
  refine wpAny_pure (wpAny_bind (wpAny_bind (wpAny_isInstance (T := "list") (b := false) ty F.sub_list_bytearray ?_)))
  simp only [Bool.false_eq_true, if_false]
  refine wpAny_pure (wpAny_pure (wpAny_bind (wpAny_newObj_type ?_)))
  have sz : (s.heap.push { cls := .type "list_iterator", data := .fields #[.ref l, .int 0 0] }).objs.size = s.heap.objs.size + 1 := Heap.size_push ..
  have W := Walks.list (prog := P) (w := w) (A := A.in1) (by simp [hh]) s.heap.objs.size l (Nat.ne_of_lt lt) items
  have kp : ∀ b o, s.heap.get? b = some o → ((s.heap.push { cls := .type "list_iterator", data := .fields #[.ref l, .int 0 0] }).push { cls := .type "list", data := .seq #[.ref T] }).get? b = some o := fun b o e => Heap.get?_push_of_some _ (Heap.get?_push_of_some _ e)
  refine wpAny_pure ⟨plainId_quiet F.plain_sum_loop _, s_loop W rows hn vl (s.heap.push { cls := .type "list_iterator", data := .fields #[.ref l, .int 0 0] }).objs.size (by rw [sz]; exact Nat.succ_ne_self _) (by rw [sz]; exact Ne.symm (Nat.ne_of_lt (Nat.lt_succ_of_lt lt))) (fun r h => ?_) (items.size - 0) 0 _ T acc m 0 rfl (Nat.zero_le _) ⟨⟨_, Heap.get?_push_of_some _ (Heap.get?_push_size _ rfl), rfl, rfl⟩, (hl.push _).push _⟩ (Heap.get?_push_size _ rfl) (kp T _ hT) (Nat.ne_of_lt tT) (by rw [sz]; exact Nat.ne_of_lt (Nat.lt_succ_of_lt tT)) (fun r h => kp r.1 _ (hr r h)) (by rw [List.drop_zero]; exact hz) fun k tk T' m' kq hq hT' => ?_⟩
  · have := Heap.lt_size (hr r h)
    rw [sz]
    exact ⟨Nat.ne_of_lt this, Nat.ne_of_lt (Nat.lt_succ_of_lt this)⟩
  · rw [List.drop_zero] at hq
    refine q k tk T' m' (fun b o e => ?_) hq ?_
    · have hb := Heap.lt_size e
      exact kq b o (Nat.ne_of_lt hb) (by rw [sz]; exact Nat.ne_of_lt (Nat.lt_succ_of_lt hb)) (kp b o e)
    · rcases hT' with ⟨e, z⟩ | hT'
      · exact .inl ⟨e, List.eq_nil_of_length_eq_zero (by omega)⟩
      · have h2 : s.heap.objs.size + 1 < T' := by rw [← sz]; exact hT'
        exact .inr (Nat.le_of_lt (Nat.lt_of_succ_lt h2))
end
end Ev

set_option Elab.async false
set_option linter.all false
set_option maxRecDepth 100000
namespace Ev
open PySem PySem.Spec PyProof.Rows L2
/-- us stand for lists yss -/
inductive Lsts (H : Hp) : List V → List (List V) → Prop
  | nil : Lsts H [] []
  | cons {c : Addr} {ys : List V} {us : List V} {yss : List (List V)} : H c = some (.lst ys) → Lsts H us yss → Lsts H (.ref c :: us) (ys :: yss)
def rSumL : List V → Hp → VK → Prop := fun vs H Q => ∃ (a b : Addr) (us zs : List V) (yss : List (List V)), vs = [.ref a, .ref b] ∧ H a = some (.lst us) ∧ H b = some (.lst zs) ∧ Lsts H us yss ∧ zs.length + yss.flatten.length ≤ sizeLine ∧
  (yss = [] → Q (.ref b) H) ∧ ∀ p, H p = none → Q (.ref p) (upd H p (.lst (zs ++ yss.flatten)))
section
variable {X : Cx}
theorem rows_of {pins : List (Addr × Obj)} {σ : L2.St} {H : Hp} {s : Shared} (I : Inv X pins σ H s) : ∀ {us : List V} {yss : List (List V)} {its : List Value}, Lsts H us yss → Vals us its →
    ∃ rows : List Row3, rows.length = its.length ∧ (∀ (i : Nat) v, its[i]? = some v → ∃ r, rows[i]? = some r ∧ v = .ref r.1) ∧ (∀ r ∈ rows, IsL s.heap r.1 r.2.1 r.2.2) ∧ Vals yss.flatten (catR rows).toList ∧ (yss = [] ↔ rows = [])
  | _, _, _, .nil, .nil => ⟨[], rfl, (fun i v h => by simp at h), (fun r h => by cases h), .nil, (by simp)⟩
  | _, _, _, .cons (c := c) (ys := ys) hc t, .cons rv ht => by
    obtain ⟨rows, h1, h2, h3, h4, h5⟩ := rows_of I t ht
    obtain ⟨z, is, n, r, hl, e⟩ := I.lstM hc
    refine ⟨(c, is.toArray, n) :: rows, by rw [List.length_cons, List.length_cons, h1], fun i v h => ?_, fun x hx => ?_, ?_, by simp⟩
    · cases i with
      | zero =>
        simp at h
        subst h
        cases rv
        exact ⟨_, rfl, rfl⟩
      | succ i => exact h2 i v (by simpa using h)
    · rcases List.mem_cons.mp hx with rfl | hx
      · exact e
      · exact h3 x hx
    · rw [catR_cons, List.flatten_cons, Array.toList_append]
      exact r.append h4
theorem cr_sumL (hc : X.calm = true) : CallR X (.builtin "sum") rSumL := by
  intro pins s σ H vs us Q I r h
  obtain ⟨a, b, us0, zs, yss, rfl, ha, hb, hL, hz, q0, q1⟩ := h
  obtain ⟨z1, its, n, rv, hl, e⟩ := I.lstM ha
  obtain ⟨z2, js, m, rz, hl2, e2⟩ := I.lstM hb
  obtain ⟨rows, g1, g2, g3, g4, g5⟩ := rows_of I hL rv
  have hus : us = [.ref a, .ref b] := by
    cases r with
    | cons r1 t => cases t with
      | cons r2 t2 => cases t2; cases r1; cases r2; rfl
  subst hus
  have lc : (catR rows).size = yss.flatten.length := by rw [← Array.length_toList]; exact g4.length.symm
  refine s_call rows (I.ok.hd hc) ⟨_, e, rfl, n, rfl⟩ e2 (by rw [List.size_toArray]; exact g1.symm) (fun i v h => g2 i v (by simpa using h)) g3 (by rw [List.size_toArray, lc]; omega) fun k tk T' m' kp hq hT => ?_
  rcases hT with ⟨rfl, hr⟩ | hT
  · exact ⟨.ref T', H, I.kept kp, rfl, q0 (g5.2 hr)⟩
  · have hn : H T' = none := I.hok.fresh hT
    refine ⟨.ref T', upd H T' (.lst (zs ++ yss.flatten)), I.laid (t' := tk) kp hT ⟨by rw [List.length_append]; exact hz, (js.toArray ++ catR rows).toList, m', ?_, hq⟩, rfl, q1 T' hn⟩
    rw [Array.toList_append]
    exact rz.append g4
end
def lsts : List D → Option (List (List D))
  | [] => some []
  | .lst a :: r => (lsts r).map (a :: ·)
  | _ => none
def sumLs : List D → Option D
  | [.lst xs, .lst ys] => (lsts xs).bind fun yss => if ys.length + yss.flatten.length ≤ sizeLine then some (.lst (ys ++ yss.flatten)) else none
  | _ => none
def sumLM (ms : List (M R)) : M R := bindM (argsM ms) fun ds => optM ((sumLs ds).map R.d)
theorem lsts_rp {g : Gx} {F H : Hp} (fh : Fit F H) : ∀ {us : List V} {xs : List D} {yss : List (List D)}, RpA g F us xs → lsts xs = some yss → ∃ vss : List (List V), Lsts H us vss ∧ RpA g F vss.flatten yss.flatten ∧ vss.length = yss.length
  | _, _, _, .nil, e => by cases e; exact ⟨[], .nil, .nil, rfl⟩
  | _, _, _, .cons (d := d) a b, e => by
    cases d with
    | lst ys =>
      simp only [lsts, Option.map_eq_some_iff] at e
      obtain ⟨yss, e1, rfl⟩ := e
      obtain ⟨vss, h1, h2, h3⟩ := lsts_rp fh b e1
      cases a with
      | lst q r =>
        refine ⟨_ :: vss, .cons (fh.of q) h1, ?_, by rw [List.length_cons, List.length_cons, h3]⟩
        rw [List.flatten_cons, List.flatten_cons]
        exact r.append h2
    | _ => cases e
section
variable {X : Cx} {E : WS} {ms : List (M R)}
theorem t_sumL {σ : L2.St} {H : Hp} {Q : VK} (w : tR (gx X) E (sumLM ms) σ H Q) : tCB rSumL (tAs (gx X) E (argsM ms)) σ H Q := by
  obtain ⟨O, F, δ, M, w⟩ := w
  refine ⟨O, F, δ, M, wp_mono (wp_bind w) fun F1 H1 δ1 ds s1 M1 w1 vs hv => ?_⟩
  obtain ⟨r, er, w2⟩ := wp_opt w1
  rw [Option.map_eq_some_iff] at er
  obtain ⟨d, ed, rfl⟩ := er
  unfold sumLs at ed
  split at ed
  · rename_i xs ys
    rw [Option.bind_eq_some_iff] at ed
    obtain ⟨yss, el, ed⟩ := ed
    split at ed
    · rename_i hz
      cases ed
      cases hv with
      | cons r1 t => cases t with
        | cons r2 t2 =>
          cases t2
          cases r1 with
          | lst q1 a1 =>
            cases r2 with
            | @lst b zs _ q2 a2 =>
              obtain ⟨vss, h1, h2, h3⟩ := lsts_rp M1.fh a1 el
              refine ⟨_, _, _, _, vss, rfl, M1.fh.of q1, M1.fh.of q2, h1, by rw [a2.length, h2.length]; exact hz, fun e => ?_, fun p hp => ?_⟩
              · subst e
                have : yss = [] := List.eq_nil_of_length_eq_zero h3.symm
                subst this
                refine w2 F1 H1 (Same.refl _) M1 _ ?_
                rw [List.flatten_nil, List.append_nil]
                exact .lst q2 a2
              · have g := grow_frz (o := .lst (zs ++ vss.flatten)) M1.fh hp rfl
                exact w2 _ _ g.ff (M1.grow g) _ (.lst upd_same ((a2.append h2).mono g.ff _ _))
    · cases ed
  · cases ed
end
end Ev

set_option Elab.async false
set_option linter.all false
set_option maxRecDepth 100000
namespace Ev
open PySem PySem.Spec PyProof.Rows L2
/-! ### enumerate(e), e a list, a tuple or a text -/
set_option maxHeartbeats 1000000 in
theorem meets_enum1 {v : Value} {o : Obj} {H : Heap → Prop} (B : Begins v o H) :
    Meets (Builtin.«enumerate.__new__» ⟨[.type "enumerate", v], []⟩) (fun _ R s => H s.heap ∧ R (.ok (.ret (.ref (s.heap.push o).objs.size))) { s with heap := (s.heap.push o).push { cls := .type "enumerate", data := .fields #[.none, .bool false, .ref s.heap.objs.size, rawInt 0, .none, .none] } }) :=
  .of_wp fun prog w A R s h => by
    obtain ⟨hp, g, d, tk, os⟩ := s; obtain ⟨h1, h⟩ := h
    have sub := sub_enumerate
    have q1 : ∀ {A' : Around} {E : Value → Shared → Prop} {Q : Value → Shared → Prop}, Q (.ref hp.objs.size) ⟨hp.push o, g, d, tk, os⟩ → wpAny (model prog w) A' (pyIter v) Q E ⟨hp, g, d, tk, os⟩ := fun q => B.iter prog w _ _ ⟨hp, g, d, tk, os⟩ _ h1 q
    wp_walk using q1
    refine wpAny_stack_any fun st => wpAny_pure ?_
    split
    · rename_i c _ _ _ _ _
      cases (c == Value.type "enumerate") <;> (wp_walk using q1; exact ⟨_, rfl, h⟩)
    · wp_walk using q1
      exact ⟨_, rfl, h⟩
section
variable {prog : Program} {w : World} {A : Around} {E : Value → Shared → Prop} {s : Shared}
theorem enum_begins1 {v : Value} {o : Obj} {H : Heap → Prop} {Q : Value → Shared → Prop} (B : Begins v o H) (h1 : H s.heap)
    (h : ∀ h', IsEnum h' (s.heap.objs.size + 1) s.heap.objs.size 0 .none → h'.get? s.heap.objs.size = some o → (∀ b o, s.heap.get? b = some o → h'.get? b = some o) → Q (.ref (s.heap.objs.size + 1)) { s with heap := h' }) :
    wpAny (model prog w) A (call (.type "enumerate") [v]) Q E s := by
  refine callType_new F.called_enumerate (by decide) (F.typeCall_enumerate_1 _) (F.newCall_enumerate_1 _) (fun obj => F.args_object_init_2 obj _) F.entry_enumerate_new (meets_enum1 B) ⟨h1, ?_⟩
  have sz : (s.heap.push o).objs.size = s.heap.objs.size + 1 := Heap.size_push ..
  show _ ∧ _
  rw [sz]
  have he : IsEnum ((s.heap.push o).push { cls := .type "enumerate", data := .fields #[.none, .bool false, .ref s.heap.objs.size, rawInt 0, .none, .none] }) (s.heap.objs.size + 1) s.heap.objs.size 0 .none := by
    have q := Heap.get?_push_size (s.heap.push o) (o := { cls := .type "enumerate", data := .fields #[.none, .bool false, .ref s.heap.objs.size, rawInt 0, .none, .none] }) rfl
    rw [sz] at q; exact q
  exact ⟨⟨_, he, rfl⟩, h _ he (Heap.get?_push_of_some _ (Heap.get?_push_size _ B.free)) fun b o x => Heap.get?_push_of_some _ (Heap.get?_push_of_some _ x)⟩
end
section
variable {X : Cx} {E : WS} {e : Expr} {a : M R} {ta : TA} {p pos tpos : Pos} {elts : List Expr} {kk : Nat}
def iEnum1 (K : PySem.W.Frag) (t : TA) : TI := fun σ H R => t σ H fun vs H1 => ∃ v xs kd, vs = [v] ∧ CeV K H1 v xs kd ∧ ∀ c, CeIs v kd c → R (Je K 0 c) H1
theorem pi_enum1 (hg : Gl X "enumerate") (hm : X.mg "enumerate" = none) (ha : PA X [e] ta) (hs : starEach [e] X.env = [(false, eval e X.env)]) : PI X (.Tuple elts kk tpos) (.Call (.Name "enumerate" p) [e] [] pos) (iEnum1 X.K ta) := by
  refine ⟨fun pins s σ H R I h => Call_ (ld_blt I hg hm boot_enumerate (PyProof.Rows.callWith_type1 (thn (ha.run pos pins s σ H _ I h) fun us s1 ⟨vs, H1, I1, r1, q1⟩ => ?_) hs rfl))⟩
  obtain ⟨v, xs, kd, rfl, cv, q⟩ := q1
  obtain ⟨u1, rfl, ru1⟩ := vals1 r1
  obtain ⟨c, o, B, e1, b1, h1, st1, lt1⟩ := cv.begins I1 ru1
  obtain ⟨n1, n2, n3⟩ := enum_apart lt1
  refine enum_begins1 b1 h1 fun h' he g1 hk => wpAny_pyIter_enum he ?_
  have I2 : Inv X pins σ H1 { s1 with heap := h' } := I1.kept (t' := s1.toks) hk
  have he' : IsEnum h' (s1.heap.objs.size + 1) s1.heap.objs.size ((0 : Int) + ((0 : Nat) : Int)) .none := by simpa using he
  refine ⟨_, [s1.heap.objs.size + 1, s1.heap.objs.size], _, _, H1, rfl, I2, turn_enumC (k := 0) n1 n2 n3, ⟨⟨_, he'⟩, st1 _ _ g1⟩, fun b hb => ?_, q c e1⟩
  have le : s1.heap.objs.size ≤ b := by
    have : b = s1.heap.objs.size + 1 ∨ b = s1.heap.objs.size := by simpa using hb
    rcases this with z | z <;> rw [z] <;> first | exact Nat.le_refl _ | exact Nat.le_add_right _ _
  exact I1.fpOk le (I1.hok.fresh le)
def enumL1 : List D → Option (List D)
  | [d] => (compE d).map (enumFD 0)
  | _ => none
def enumTM (a : M R) : M (List D) := bindM (argsM [a]) fun ds => optM (enumL1 ds)
theorem pi_enumTM (hg : Gl X "enumerate") (hm : X.mg "enumerate" = none) (ha : PE X e (tR (gx X) E a)) (hs : starEach [e] X.env = [(false, eval e X.env)]) : PI X (.Tuple elts kk tpos) (.Call (.Name "enumerate" p) [e] [] pos) (tI (gx X) E (enumTM a)) := by
  refine (pi_enum1 hg hm (pa_args ha pa_args_nil hs) hs).imp fun σ H R ⟨O, F, δ, M, w⟩ => ⟨O, F, δ, M, wp_mono (wp_bind w) fun F1 H1 δ1 ds s1 M1 w1 vs hv => ?_⟩
  cases ex : enumL1 ds with
  | none => rw [ex] at w1; exact w1.elim
  | some xs =>
    rw [ex] at w1
    unfold enumL1 at ex
    split at ex
    · rename_i d
      rw [Option.map_eq_some_iff] at ex
      obtain ⟨ds, c1, rfl⟩ := ex
      obtain ⟨v, rfl, r⟩ := hv.one
      obtain ⟨us, kd, cv, ra⟩ := r.compE c1
      exact ⟨v, us, kd, rfl, cv _ M1.fh, fun c z => w1 F1 H1 (Same.refl _) M1 _ (wk_enumC (fun H fh => (cv H fh).ok z) ra)⟩
    · cases ex
end
def isNCall : Expr → Bool
  | .Call (.Name _ _) _ _ _ => true
  | _ => false
end Ev

set_option Elab.async false
set_option linter.all false
set_option maxRecDepth 100000
set_option maxHeartbeats 2000000
namespace PySem
namespace EvX
open PySem.W PySem.Calls PyProof.Rows PySem.HandSPX
/-! ### an exception of an own class made by a call of any arguments, by name too -/
/-- what a class's row of bases must have: the one that makes it, none that takes fields of its own -/
def RowX (bm : List Value) (B : String) : Prop := bm.contains (.type B) = true ∧ bm.contains (.type "AttributeError") = false ∧ bm.contains (.type "NameError") = false
section
variable {P : Program} {W0 : World} {Ar : Around} {Er : Value → Shared → Prop} {Rr : Result → Shared → Prop} {hp : Heap} {gs : Array GenState} {dw : Drawn} {tk : Nat} {oz : OsState}
variable {nm qn : Str} {Ca Na : Addr} {bs bm bz : List Value} {hdct : Bool} {sn : List Str} {sub : List Value} {ab : Bool} {col : Option Bool} {dd : Option Addr} {k0 k1 k2 k3 k5 : Option Value} {Bn nw ni : String}
variable {us : List Value} {kw : List (Str × Value)} {fi : Addr}
theorem kw_check_new {Md : Model} {Qq : Unit → Shared → Prop} (F : ExcBaseFacts Bn nw ni bz) (row : RowX bm Bn)
    (at_ : hp.get? Ca = some (excClassObj nm qn Ca Na bs bm hdct sn sub ab col dd k0 k1 k2 k3 k5 nw)) (go : Qq () ⟨hp, gs, dw, tk, oz⟩) : wpAny Md Ar (checkBuiltinCall nw ⟨.ref Ca :: us, kw⟩) Qq Er ⟨hp, gs, dw, tk, oz⟩ := by
  have in_ : (Value.ref Ca :: bm).contains (.type Bn) = true := by
    rw [List.contains_cons, row.1, Bool.or_true]
  have nostar := F.noStar
  simp only [checkBuiltinCall, F.newKind, F.newSplit, F.newRow]
  repeat (first | refine wpAny_loadPart_at at_ ?_ | (refine wpAny_isSubtype_exc at_ ?_; rw [in_]) | refine wpAny_staticBase_exc at_ ?_ | refine wpAny_madeBy_exc at_ ?_ | simp only [bne_self_eq_false, Bool.false_eq_true, if_false] | wp_step)
  exact go
/-- the new one and its row of arguments, laid -/
abbrev laidX (hp : Heap) (Ca : Addr) (us : List Value) : Heap := (hp.push (PySem.W.kdv_tup us)).push (excO Ca hp.objs.size)
theorem kw_new (F : ExcBaseFacts Bn nw ni bz) (row : RowX bm Bn)
    (at_ : hp.get? Ca = some (excClassObj nm qn Ca Na bs bm hdct sn sub ab col dd k0 k1 k2 k3 k5 nw)) (short : us.length ≤ sizeLine)
    (go : Rr (.ok (.ret (.ref (hp.objs.size + 1)))) ⟨laidX hp Ca us, gs, dw, tk, oz⟩) : codeAny (model P W0) Ar (.builtin nw ⟨.ref Ca :: us, kw⟩) Rr ⟨hp, gs, dw, tk, oz⟩ := by
  have ends_ := F.ends
  have inB : (Value.ref Ca :: bm).contains (.type Bn) = true := by
    rw [List.contains_cons, row.1, Bool.or_true]
  have inA : (Value.ref Ca :: bm).contains (.type "AttributeError") = false := by
    rw [List.contains_cons, row.2.1]; rfl
  have inN : (Value.ref Ca :: bm).contains (.type "NameError") = false := by
    rw [List.contains_cons, row.2.2]; rfl
  refine codeAny_builtinAt F.entry ?_
  unfold Builtin.«BaseException.__new__»
  refine wpAt_bind ?_
  show wpAt _ _ _ (stack >>= _) _ _ _
  refine wpAt_bind (wpAt_stack fun p0 b0 => wpAt_of_wpAny ?_)
  wp_walk
  refine wpAt_of_wpAny ?_
  rw [F.owner]
  repeat (first | with_reducible refine wpAny_madeHere_exc F.canon at_ ?_ | with_reducible refine wpAny_loadPart_at at_ ?_ | (with_reducible refine wpAny_isSubtype_exc at_ ?_; first | rw [inB] | rw [inA] | rw [inN]) | wp_step)
  show Rr _ _
  rw [Heap.size_push]
  exact go
theorem kw_type_call {Qq : Fin → Shared → Prop} (F : ExcBaseFacts Bn nw ni bz) (row : RowX bm Bn)
    (at_ : hp.get? Ca = some (excClassObj nm qn Ca Na bs bm hdct sn sub ab col dd k0 k1 k2 k3 k5 nw)) (hasI : PySem.W.Looks (model P W0) hp (typeLookup (.ref Ca) "__init__") (some (.ref fi)))
    (bnd : ∀ o, PySem.W.Looks (model P W0) hp (bindSpecial (.ref fi) o) (.ref fi, [o])) (short : us.length ≤ sizeLine)
    (go : codeAny (model P W0) Ar (.call (.ref fi) ⟨.ref (hp.objs.size + 1) :: us, kw⟩) (fun r s' => match r with
      | .ok (.ret v) => v = .none ∧ Qq (.done (.ret (.ref (hp.objs.size + 1)))) s'
      | .ok _ => False
      | .error e => Er e s') ⟨laidX hp Ca us, gs, dw, tk, oz⟩) :
    wpAny (model P W0) Ar (Builtin.«type.__call__» ⟨.ref Ca :: us, kw⟩) Qq Er ⟨hp, gs, dw, tk, oz⟩ := by
  repeat (first | with_reducible refine wpAny_loadPart_at at_ ?_ | with_reducible refine wpAny_madeBy_exc at_ ?_ | wp_step)
  refine codeAny_call_builtin_code (Code.quiet_builtin _ F.quiet) (kw_check_new F row at_ ?_)
  refine kw_new F row at_ short ?_
  show wpAny _ _ _ _ _ _
  have keep : ∀ b o, hp.get? b = some o → (laidX hp Ca us).get? b = some o := fun b o e => Heap.get?_push_of_some _ (Heap.get?_push_of_some _ e)
  have at1 := keep _ _ at_
  have new_ : (laidX hp Ca us).get? (hp.objs.size + 1) = some (excO Ca hp.objs.size) := by heap_get
  have self_ : (Value.ref Ca :: bm).contains (.ref Ca) = true := by simp
  have i2 := hasI.keeps keep
  have b2 := (bnd (.ref (hp.objs.size + 1))).keeps keep
  unfold isInstance
  repeat (first | with_reducible refine wpAny_loadPart_at new_ ?_ | (with_reducible refine wpAny_isSubtype_exc at1 ?_; rw [self_]) | wp_step)
  show wpAny _ _ (typeLookup (.ref Ca) _) _ _ _
  refine i2.at ?_
  refine wpAny_holding (wpAny_bind (b2.at ?_))
  refine wpAny_bind (wpAny_call (codeAny_mono go fun r s' z => ?_))
  rcases r with e | (v | _ | _ | _) <;> first | exact z | exact z.elim | skip
  obtain ⟨rfl, z⟩ := z
  first
    | exact wpAny_pure (wpAny_pure z)
    | (wp_walk; exact z)
theorem kw_check_call {Md : Model} {Qq : Unit → Shared → Prop} (at_ : hp.get? Ca = some (excClassObj nm qn Ca Na bs bm hdct sn sub ab col dd k0 k1 k2 k3 k5 nw)) (go : Qq () ⟨hp, gs, dw, tk, oz⟩) :
    wpAny Md Ar (checkBuiltinCall "type.__call__" ⟨.ref Ca :: us, kw⟩) Qq Er ⟨hp, gs, dw, tk, oz⟩ := by
  have s3 := tc_sub
  have ty : (⟨hp, gs, dw, tk, oz⟩ : Shared).TypeIs (.ref Ca) "type" := ⟨_, at_, rfl⟩
  simp only [checkBuiltinCall, tc_kind, tc_split]
  repeat (any_goals (first | assumption | with_reducible refine wpAny_loadPart_at at_ ?_ | with_reducible refine wpAny_onRaise ?_ | with_reducible refine wpAny_map ?_ | wp_step))
/-- C(us, kw): laid, then __init__ of the text -/
theorem kw_call (F : ExcBaseFacts Bn nw ni bz) (row : RowX bm Bn)
    (at_ : hp.get? Ca = some (excClassObj nm qn Ca Na bs bm hdct sn sub ab col dd k0 k1 k2 k3 k5 nw)) (hasI : PySem.W.Looks (model P W0) hp (typeLookup (.ref Ca) "__init__") (some (.ref fi)))
    (bnd : ∀ o, PySem.W.Looks (model P W0) hp (bindSpecial (.ref fi) o) (.ref fi, [o])) (short : us.length ≤ sizeLine)
    (go : codeAny (model P W0) (Ar.under (.builtin "type.__call__" ⟨.ref Ca :: us, kw⟩)) (.call (.ref fi) ⟨.ref (hp.objs.size + 1) :: us, kw⟩) (PySem.W.InitBack (hp.objs.size + 1) Rr) ⟨laidX hp Ca us, gs, dw, tk, oz⟩) :
    codeAny (model P W0) Ar (.call (.ref Ca) ⟨us, kw⟩) Rr ⟨hp, gs, dw, tk, oz⟩ := by
  have s1 := tc_lookup
  have s2 := tc_bind (.ref Ca)
  have ty : (⟨hp, gs, dw, tk, oz⟩ : Shared).TypeIs (.ref Ca) "type" := ⟨_, at_, rfl⟩
  refine codeAny_of_tree ?_
  show wpAny _ _ (callAny (.ref Ca) _) _ _ _
  repeat (any_goals (first | assumption | with_reducible refine wpAny_loadPart_at at_ ?_ | wp_step))
  refine ⟨rfl, ?_⟩
  refine codeAny_call_builtin_at (Code.quiet_builtin _ (by decide +kernel)) entry_typeCall (kw_check_call at_ (kw_type_call F row at_ hasI bnd short ?_))
  refine codeAny_mono go fun r s' z => ?_
  rcases r with e | (v | _ | _ | _) <;> exact z
end
end EvX
end PySem

set_option Elab.async false
set_option linter.all false
set_option maxRecDepth 100000
namespace Ev
open PySem PySem.Spec PyProof.Rows L2
/-! ### own classes of exceptions, over any built-in one, whose __init__ lays fields -/
structure XCls (K : PySem.W.Frag) (C : Addr) : Prop where
  fb : ∃ (B nw ni SB : String) (bz bm : List Value), ExcBaseFacts B nw ni bz ∧ PySem.EvX.RowX bm B ∧ StoreFacts SB bm "object.__setattr__" "object" ∧ PySem.W.excInitIn K C bm nw = true ∧ PySem.W.excOver K C bm = true
  sa : PySem.W.findIn K (.ref C) "__setattr__" = some (some (.builtin "object.__setattr__"))
  ex : PySem.W.subIn K (.ref C) (.type "BaseException") = some true
  ty : PySem.W.typeIn K (.ref C) = some (.type "type")
  kp : PySem.W.keepIn K (.ref C) = true
  dc : PySem.W.hasDictIn K C = true
section
variable {prog : Program} {w : World} {A : Around} {E : Value → Shared → Prop} {hp : Heap} {g : Array GenState} {d : Drawn} {t : Nat} {os : OsState} {K : PySem.W.Frag} {C x t0 : Addr} {name : Str} {v : Value}
theorem xosa {R : Result → Shared → Prop} {tk : Tok} (T : XCls K C) (X : K.In hp) (hx : hp.get? x = some (PySem.W.excObj C t0 none .none)) (ht : PySem.W.takerIn K C name = some none)
    (hq : ∀ h' tk' dx, (∀ z u, z ≠ x → hp.get? z = some u → h'.get? z = some u) → hp.objs.size ≤ dx → dx ≠ x → h'.get? x = some (PySem.W.excObj C t0 (some dx) .none) → h'.Ns1 dx (fun y => if y = name then some v else none) → R (.ok (.ret .none)) ⟨h', g, d, tk', os⟩) :
    codeAny (model prog w) A (.call (.builtin "object.__setattr__") ⟨[.ref x, .str name tk, v], []⟩) R ⟨hp, g, d, t, os⟩ := by
  obtain ⟨B, nw, ni, SB, bz, bm, FB, row, SF, ci, ov⟩ := T.fb
  obtain ⟨cd, hc, hd⟩ := PySem.W.any_some T.dc
  have hlt := Heap.lt_size hx
  refine PySem.W.osa_openX (s := ⟨hp, g, d, t, os⟩) (od := none) SF X ⟨hx, rfl, rfl, trivial⟩ ov ht fun b => ?_
  refine wpAny_bind (wpAny_pure (wpAny_bind (PySem.W.instanceDict_exc hx (PySem.W.looks_clsIn X hc) hd ?_)))
  have m1 := Heap.get?_push_of_some (PySem.W.dictOf [] 0) hx
  refine PySem.HandSPX.store_in_new ?_ fun h' tk' hn hs => ?_
  · exact ⟨_, #[], _, (Heap.get?_update_ne _ _ _ _ (Nat.ne_of_gt hlt)).trans (Heap.get?_push_at rfl rfl), rfl, fun e he => absurd he (by simp), fun _ => rfl⟩
  · refine hq h' tk' hp.objs.size (fun z u hz hu => ?_) (Nat.le_refl _) (Nat.ne_of_gt hlt) ?_ hn
    · rw [hs.2 z (Nat.ne_of_lt (Heap.lt_size hu)), Heap.get?_update_ne _ _ _ _ hz]
      exact Heap.get?_push_of_some _ hu
    · rw [hs.2 x (Nat.ne_of_lt hlt)]
      exact Heap.get?_update_self _ m1 rfl
end
section
variable {X : Cx} {pins : List (Addr × Obj)} {σ : L2.St} {H : Hp} {s : Shared} {a C : Addr} {f : Str} {y : V} {u : Value} {Q : Unit → Shared → Prop} {E : Value → Shared → Prop} {A : Around}
/-- the first field of a new one -/
theorem xst (T : XCls X.K C) (I : Inv X pins σ H s) (e : H a = some (exo a C none)) (ht : PySem.W.takerIn X.K C f = some none) (ry : RelV y u)
    (h : ∀ dx s', H dx = none → dx ≠ a → Inv X pins σ (upd (upd H dx (exd dx [(f, y)])) a (exo a C (some dx))) s' → Q () s') : wpAny (model X.prog X.w) A (setAttr (.ref a) f u) Q E s := by
  obtain ⟨t1, ho⟩ := exo_at I.hok e
  obtain ⟨hp, g, d, t, os⟩ := s
  have ho' : hp.get? a = some (PySem.W.excObj C t1 none .none) := ho
  refine PySem.W.set_plain I.kIn (ox := PySem.W.excObj C t1 none .none) (od := none) ⟨ho', rfl, rfl, trivial⟩ T.sa (xosa T I.kIn ho' ht fun h' tk' dx kk sz ne ha hn => ?_)
  have at_a := Heap.get?_update_self (fun _ => PySem.W.excObj C t1 none .none) ha rfl
  have off {z : Addr} (hz : z ≠ a) : (h'.update a fun _ => PySem.W.excObj C t1 none .none).get? z = h'.get? z := Heap.get?_update_ne _ _ _ _ hz
  have rel : ∀ g, RelO (List.lookup g [(f, y)]) (if g = f then some u else (fun _ => none) g) := fun g => relO_put (fs := []) (mA := fun _ => none) ry (fun _ => True.intro) g
  have J1 := I.laid (a := dx) (o := exd dx [(f, y)]) (h' := h'.update a fun _ => PySem.W.excObj C t1 none .none) (t' := tk') (fun z w hw => by
    by_cases hz : z = a
    · subst hz
      rw [at_a, ← ho', hw]
    · rw [off hz]; exact kk z w hz hw) sz (exd_ok (hn.at fun o q => (off ne).trans q) rel)
  have J2 := J1.write (x := a) (e := a) (o := exo a C (some dx)) (h' := h') (t' := tk') (by rw [upd_ne (Ne.symm ne), e]; exact True.intro) (.inl rfl) (fun z w hz hw => (off hz).symm.trans hw) ⟨_, ha⟩ (exo_ok ha)
  exact h dx _ (I.hok.fresh sz) ne J2
end
end Ev

set_option Elab.async false
set_option linter.all false
set_option maxRecDepth 100000
namespace Ev
open PySem PySem.Spec PyProof.Rows L2
/-! ### such an exception made: its call, by the __init__ of the text -/
/-- self.f = e, the first store -/
def tXst (K : PySem.W.Frag) (f : Str) (to te : TE) : TS := fun D σ H => te σ H fun y H1 => to σ H1 fun x H2 => ∃ a C : Addr, x = .ref a ∧ XCls K C ∧ PySem.W.takerIn K C f = some none ∧ H2 a = some (exo a C none) ∧
  ∀ dx, H2 dx = none → dx ≠ a → D.nx σ (upd (upd H2 dx (exd dx [(f, y)])) a (exo a C (some dx)))
/-- what __init__ promises of one field -/
def spX (K : PySem.W.Frag) (f : Str) : Sp := fun vs H Q _ => ∃ (a C : Addr) (y : V), vs = [.ref a, y] ∧ XCls K C ∧ PySem.W.takerIn K C f = some none ∧ H a = some (exo a C none) ∧
  ∀ dx, H dx = none → dx ≠ a → Q .non (upd (upd H dx (exd dx [(f, y)])) a (exo a C (some dx)))
section
variable {X : Cx} {o e : Expr} {es : List Expr} {to te : TE} {ta : TA} {f x : Str} {p p' pos : Pos} {C fI : Addr} {k : Nat} {fd : FuncData} {ps : List Str} {sp : Sp}
theorem ps_xst (ho : PE X o to) (he : PE X e te) (hs : swapsWith e (some (.Attribute o f p')) pos.line X.env = pure false) : PS X (.Assign [.Attribute o f p'] e pos) (tXst X.K f to te) :=
  ⟨fun pins s σ H D I h => plainObj_wpAny_Assign_Attribute (thn (he.run pins s σ H _ I h) fun v s1 ⟨y, H1, J1, r1, q1⟩ => thn (ho.run pins s1 σ H1 _ J1 q1) fun u s2 ⟨z, H2, J2, r2, a, C, ez, T, tk, ha, q⟩ => by
    subst ez
    cases (show u = Value.ref a from r2)
    exact xst T J2 ha tk r1 fun dx s' fresh ne J => ⟨σ, _, J, q dx fresh ne⟩) hs⟩
/-- the def __init__(self, par): self.f = par -/
theorem init_ok {P : Program} {w : World} {K : PySem.W.Frag} {mg : Str → Option Value} {base : Heap} {CX : CXT} {nm qual par slf : Str} {params : Arguments} {sc : Scope} {p1 p2 p3 p4 : Pos} (F : FunD K nm qual params [.Assign [.Attribute (.Name slf p1) f p2] (.Name par p3) p4] sc [] [] fI fd) (S : FnScope [slf, par] [slf, par] sc)
    (l0 : sc.names.lookup slf = some .local) (l1 : sc.names.lookup par = some .local) (d0 : (slf == ("__debug__" : Str)) = false ∧ (slf == ("__classdict__" : Str)) = false) (d1 : (par == ("__debug__" : Str)) = false ∧ (par == ("__classdict__" : Str)) = false) (k : Nat) :
    FnOk P w K mg base CX (k + 1) fI fd [slf, par] (spX K f) :=
  F.ok S (fun vs H Q E ⟨a, C, y, e, _⟩ => by rw [e]; rfl) fun cdv A outer s H vs Q E room ⟨a, C, y, ev, T, tk, ha, q⟩ => by
    subst ev
    refine ⟨_, pss_one (ps_xst (pe_var (i := 0) rfl (.inl l0) d0.1 d0.2) (pe_var (i := 1) rfl (.inl l1) d1.1 d1.2) rfl), ?_⟩
    exact ⟨y, rfl, .ref a, rfl, a, C, rfl, T, tk, ha, q⟩
/-- C(e) -/
theorem pmk_x {CX : CXT} (T : XCls X.K C) (iC : PySem.W.findIn X.K (.ref C) "__init__" = some (some (.ref fI))) (tI : PySem.W.typeIn X.K (.ref fI) = some (.type "function")) (F1 : FnOk X.prog X.w X.K X.mg X.base CX k fI fd ps sp) (hr : Room (k + 1) X.A) (hb : ∀ (s : Shared) (us : List Value), X.K.In s.heap → us.length = ps.length → BindsTo s fd ⟨us, []⟩ (ps.zip us))
    (hx : L2.Passes CX X (fun _ _ _ => False)) (hg : Gl X x) (hm : X.mg x = some (.ref C)) (ha : PA X (e :: es) ta) (hdb : (x == ("__debug__" : Str)) = false) (he : starEach (e :: es) X.env = (false, eval e X.env) :: starEach es X.env) (hpl : (backTo pos (starEach es X.env)).any (·.1) = false) :
    PMk X (.Call (.Name x p) (e :: es) [] pos) (tMkO C sp [] ta) := by
  intro pins s σ H Q I h
  obtain ⟨B, nw, ni, _, bz, bm0, FB, row0, _, ci, _⟩ := T.fb
  refine wpAny_Call_Name_kw (ld_glob I hg hm (PySem.W.callWith_K (h₀ := X.base) I.ok.mod.kin T.kp (thn (ha.run pos pins s σ H _ I h) fun us s1 ⟨vs, H1, J1, rel, len, wish⟩ => ⟨J1.kIn, ?_⟩) he hpl) hdb)
  show wpAny (model X.prog X.w) _ (call (.ref C) us) _ _ s1
  obtain ⟨hp, g, dr, tk, os⟩ := s1
  obtain ⟨nm, N, qn, bs, bm', hd, sn, sub, ab, col, dd, k0, k1, k2, k3, k5, hC, hT⟩ := PySem.W.excInit_of J1.kIn ci
  have row : PySem.EvX.RowX bm' B := ⟨(hT B).trans row0.1, (hT _).trans row0.2.1, (hT _).trans row0.2.2⟩
  have sz : hp.objs.size ≤ hp.objs.size + 1 := Nat.le_succ _
  have fresh : H1 (hp.objs.size + 1) = none := J1.hok.fresh sz
  have wish1 := wish (hp.objs.size + 1) fresh
  rw [List.append_nil] at wish1
  have kept : ∀ z w, hp.get? z = some w → ((hp.push (PySem.W.kdv_tup us)).push (PySem.HandSPX.excO C hp.objs.size)).get? z = some w := fun z w q => Heap.get?_push_of_some _ (Heap.get?_push_of_some _ q)
  have there : ((hp.push (PySem.W.kdv_tup us)).push (PySem.HandSPX.excO C hp.objs.size)).get? (hp.objs.size + 1) = some (PySem.HandSPX.excO C hp.objs.size) := by heap_get
  have J2 := J1.laid (t' := tk) kept sz (exo_ok there)
  have rel2 : Vals (V.ref (hp.objs.size + 1) :: vs) (Value.ref (hp.objs.size + 1) :: us) := .cons rfl rel
  have len2 : (Value.ref (hp.objs.size + 1) :: us).length = ps.length := rel2.length.symm.trans (F1.len _ _ _ _ wish1)
  have len3 : us.length ≤ sizeLine := by
    have := rel.length
    rw [sizeLine_eq]; omega
  refine wpAny_call (PySem.EvX.kw_call FB row hC (PySem.W.looks_findIn J1.kIn iC) (fun self => PySem.W.bind_fn J1.kIn self tI) len3
    (codeAny_mono (F1.run _ X.stack _ _ ⟨Value.ref (hp.objs.size + 1) :: us, []⟩ (Value.ref (hp.objs.size + 1) :: us) _ _ (fun _ _ _ => False) (hr.make C us []) (J2.env0.make C us []) (hb _ (Value.ref (hp.objs.size + 1) :: us) J2.kIn len2) rel2 wish1) fun r s' end_ => ?_))
  match r, end_ with
  | .error er, z => exact hx pins σ _ _ er s' J2 z
  | .ok (.ret u), ⟨v, H2, os2, bare2, un2, hok2, rv, ev, d, fs, ea, ed, hd1, wish2⟩ =>
    subst ev
    obtain ⟨h2, g2, d2, t2, os'⟩ := s'
    exact ⟨rv, mk_end (raises_own T.ex T.ty) J1 sz kept un2 hok2 os2 bare2 ea ed hd1 wish2⟩
  | .ok .next, z => exact z.elim
  | .ok .brk, z => exact z.elim
  | .ok .cont, z => exact z.elim
end
end Ev

set_option Elab.async false
set_option linter.all false
set_option maxRecDepth 100000
namespace Ev
open PySem PySem.Spec PyProof.Rows L2
/-! ### raise C(e) -/
/-- an own class of exceptions: its name, its field -/
structure XcI where
  x : Str
  f : Str
  /-- the parameter's name -/
  p : Str
  /-- no own __init__ -/
  z : Bool
/-- of a class without an own __init__ -/
structure HasX0 (X : Cx) (x : Str) : Prop where
  ex : ∃ (C : Addr) (bz : List Value) (B nw ni : String), ExcBaseFacts B nw ni bz ∧ PySem.W.excIn X.K C bz nw = true ∧ X.mg x = some (.ref C) ∧ PySem.W.keepIn X.K (.ref C) = true
structure HasX (X : Cx) (c : XcI) : Prop where
  e0 : c.z = true → HasX0 X c.x
  ex : c.z = false → ∃ (C fI : Addr) (fd : FuncData) (ps : List Str) (k : Nat), XCls X.K C ∧ PySem.W.takerIn X.K C c.f = some none ∧ PySem.W.findIn X.K (.ref C) "__init__" = some (some (.ref fI)) ∧ PySem.W.typeIn X.K (.ref fI) = some (.type "function") ∧
    FnOk X.prog X.w X.K X.mg X.base (L2.CX X.prog X.w) k fI fd ps (spX X.K c.f) ∧ Room (k + 1) X.A ∧ (∀ (s : Shared) (us : List Value), X.K.In s.heap → us.length = ps.length → BindsTo s fd ⟨us, []⟩ (ps.zip us)) ∧ X.mg c.x = some (.ref C) ∧ ∀ (s : Shared) (a b : Value), X.K.In s.heap → BindsTo s fd ⟨[a], [(c.p, b)]⟩ (ps.zip [a, b])
def raisM (c : XcI) (m : M R) : M Fl := bindM (datM m) fun d => raiseM ⟨c.x, [c.f], [d]⟩
def WE' (E : WS) : WX := fun c d σ H => E σ c d H
section
variable {X : Cx} {E : WS} {L : List Nat} {e : Expr} {p pos pos2 : Pos} {m : M R} {c : XcI}
theorem ps_raisM (hz : c.z = false) (hc : X.calm = true) (tk : Takes X (WE' E)) (hx : HasX X c) (hg : Gl X c.x) (he : PE X e (tR (gx X) E m)) (hdb : (c.x == ("__debug__" : Str)) = false) (hst : starEach [e] X.env = (false, eval e X.env) :: starEach [] X.env) :
    PS X (.Raise (some (.Call (.Name c.x p) [e] [] pos2)) none pos) (tS (gx X) E L (raisM c m)) := by
  obtain ⟨C, fI, fd, ps, k, T, tk1, iC, tI, F1, hr, hb, hm, _⟩ := hx.ex hz
  have pass : L2.Passes (L2.CX X.prog X.w) X (fun _ _ _ => False) := fun pins σ H s er s' I cx => tk er s' (XE.of_call I (fun _ _ _ z => z.elim) cx)
  have ha : PA X [e] (tCons (tD (gx X) E (datM m)) tNil) := pa_cons (pr_dat he) pa_nil hst
  refine (ps_raise hc tk (pmk_x T iC tI F1 hr hb pass hg hm ha hdb hst rfl)).imp fun D σ H ⟨O, F, δ, M, w⟩ => ?_
  refine ⟨O, F, δ, M, wp_mono (wps_bind w) fun F1 H1 δ1 d s1 M1 w1 v rv => ?_⟩
  refine ⟨show 1 ≤ 1000 by decide, fun a ha => ⟨a, C, v, rfl, T, tk1, upd_same, fun dx hdx ne => ⟨rfl, dx, [(c.f, v)], upd_same, ?_, ?_, ?_⟩⟩⟩
  · rw [upd_ne ne, upd_same]
  · rw [upd_ne ne] at hdx; exact hdx
  · rw [upd_ne ne] at hdx
    have same : upd (del (upd (upd (upd H1 a (exo a C none)) dx (exd dx [(c.f, v)])) a (exo a C (some dx))) a) dx (.xd [(c.f, v)]) = upd H1 dx (.xd [(c.f, v)]) := by
      funext b
      by_cases h1 : b = dx
      · subst h1; rw [upd_same, upd_same]
      · rw [upd_ne h1, upd_ne h1]
        by_cases h2 : b = a
        · subst h2; rw [del_same, ha]
        · rw [del_ne h2, upd_ne h2, upd_ne h1, upd_ne h2]
    rw [same]
    have k := grow_obj (o := .xd [(c.f, v)]) M1.fh hdx
    exact w1 F1 _ σ (.ref C) (some dx) (Same.refl _) Keep.refl (M1.grow k) ⟨hm, dx, [v], rfl, upd_same, .cons (Rp.mono k.ff _ _ rv) .nil, rfl⟩
end
end Ev

set_option Elab.async false
set_option linter.all false
set_option maxRecDepth 100000
namespace Ev
open PySem PySem.Spec PyProof.Rows L2
/-! ### what an except suite reads of the exception it holds -/
structure XSui (K : PySem.W.Frag) (C : Addr) : Prop where
  xf : XfC K C
  cl : (PySem.W.clsIn K C).isSome = true
  ha : PySem.W.findIn K (.ref C) "__class__" = some (some (.builtin "object.__class__"))
  hn : PySem.W.specialIn K (.builtin "object.__class__") "__get__" = some (some (.builtin "getset_descriptor.__get__"))
  ht : PySem.W.takesIn K (.builtin "object.__class__") = some true
  hm : PySem.W.mroIn K C (.type "object") = some true
abbrev SE := Ex → Dl → Option D
abbrev ST := Ex → Dl → Option Bool
/-- slot i holds the exception a: class cls, dict d, as e tells -/
def SuiS (g : Gx) (a : Addr) (cls : Value) (d : Option Addr) (i : Nat) (O F H : Hp) (σ : L2.St) (δ : Dl) (e : Ex) : Prop := Ms g O F H σ δ ∧ σ[i]? = some (some (.ref a)) ∧ RpE g F H e cls d
def tX (g : Gx) (a : Addr) (cls : Value) (d : Option Addr) (i : Nat) (m : SE) : TE := fun σ H Q => ∃ O F δ e x, SuiS g a cls d i O F H σ δ e ∧ m e δ = some x ∧ ∀ v, Rp g F v x → Q v H
def tXT (g : Gx) (a : Addr) (cls : Value) (d : Option Addr) (i : Nat) (m : ST) : TT := fun σ H Q => ∃ O F δ e b, SuiS g a cls d i O F H σ δ e ∧ m e δ = some b ∧ Q b H
def dAt (δ : Dl) (j : Nat) : Option D := match δ[j]? with
  | some (some (.d x)) => some x
  | _ => none
theorem dAt_of {δ : Dl} {j : Nat} {x : D} (h : dAt δ j = some x) : δ[j]? = some (some (.d x)) := by
  unfold dAt at h
  split at h
  · rename_i y e; cases h; exact e
  · cases h
theorem zip_at {g : Gx} {F : Hp} {f : Str} {x : D} : ∀ {fn : List Str} {vs : List V} {fv : List D}, RpA g F vs fv → (fn.zip fv).lookup f = some x → ∃ v, (fn.zip vs).lookup f = some v ∧ Rp g F v x
  | [], _, _, _, h => by cases h
  | _ :: _, _, _, .nil, h => by cases h
  | n :: fn, _, _, .cons (v := v) (d := d) r1 r2, h => by
    rw [List.zip_cons_cons, List.lookup_cons] at h ⊢
    cases hq : f == n with
    | true => rw [hq] at h; cases h; exact ⟨_, rfl, r1⟩
    | false => rw [hq] at h; exact zip_at r2 h

section
variable {X : Cx} {a : Addr} {oe : Obj} {cls : Value} {d : Option Addr} {pn : List (Addr × Obj)} {i : Nat} {n : Str} {p p1 pos : Pos} {b c e : Expr} {m m2 : SE} {t t2 : ST}
theorem px_name {j : Nat} {x : Str} (hN : X.N[j]? = some x) (hv : Vis X.env.scope x) (hd : (x == ("__debug__" : Str)) = false) (hcd : (x == ("__classdict__" : Str)) = false) : PE (X.suite a ((a, oe) :: pn)) (.Name x pos) (tX (gx X) a cls d i fun _ δ => dAt δ j) := by
  refine (pe_var (X := X.suite a ((a, oe) :: pn)) hN hv hd hcd).imp fun σ H Q ⟨O, F, δ, e, x, ⟨M, _, _⟩, h, q⟩ => ?_
  obtain ⟨v, ev, r⟩ := M.sl j _ (dAt_of h) rfl
  exact ⟨v, ev, q v r⟩
theorem px_c {v : V} {y : D} (h : PE (X.suite a ((a, oe) :: pn)) e (tC v)) (r : ∀ F, Rp (gx X) F v y) : PE (X.suite a ((a, oe) :: pn)) e (tX (gx X) a cls d i fun _ _ => some y) :=
  h.imp fun σ H Q ⟨O, F, δ, e, x, _, h, q⟩ => by cases h; exact q v (r F)
/-- n.f -/
def fldE (x f : Str) : SE := fun e _ => if e.c = x then (e.fn.zip e.fv).lookup f else none
theorem px_field {C : Addr} {x f : Str} (S : XSui X.K C) (hm : X.mg x = some (.ref C)) (hno : PySem.W.findIn X.K (.ref C) f = some none) (hN : X.N[i]? = some n) (hv : Vis X.env.scope n) (hd : (n == ("__debug__" : Str)) = false) (hcd : (n == ("__classdict__" : Str)) = false)
    (hz : Zc cls d oe) (hf : ∃ vs, oe.data = .fields vs) (hb : attributeBase (.Name n p1) f X.env (eval (.Name n p1) X.env) = eval (.Name n p1) X.env) : PE (X.suite a ((a, oe) :: pn)) (.Attribute (.Name n p1) f pos) (tX (gx X) a cls d i (fldE x f)) := by
  refine (pe_xf S.xf hno hz hf (pe_var (X := X.suite a ((a, oe) :: pn)) (i := i) hN hv hd hcd) hb).imp fun σ H Q ⟨O, F, δ, e, y, ⟨M, hi, hc, dd, vs, ed, hx, ra, _⟩, h, q⟩ => ?_
  unfold fldE at h
  split at h
  · rename_i hc'
    obtain ⟨v, hl, r⟩ := zip_at ra h
    rw [hc', show (gx X).mg x = X.mg x from rfl, hm] at hc
    cases hc
    exact ⟨_, hi, rfl, rfl, dd, _, v, ed, hx, hl, q v r⟩
  · cases h
/-- isinstance(n, T) -/
def isiE (tb : List (Str × Bool)) : SE := fun e _ => (tb.lookup e.c).map D.bl
def rIsX (K : PySem.W.Frag) (D a : Addr) (dd : Addr) : List V → Hp → VK → Prop := fun xs H Q => ∃ (c : V) (cv : Value) (b : Bool) (fs : List (Str × V)), xs = [.ref a, c] ∧ (∀ u, RelV c u → u = cv) ∧ PySem.W.kitOne K (.ref D) cv = some b ∧ H dd = some (.xd fs) ∧ Q (.bl b) H
theorem call_isX {D dd : Addr} (C : XSui X.K D) (hz : Zc (.ref D) (some dd) oe) (hf : ∃ vs, oe.data = .fields vs) : CallR (X.suite a ((a, oe) :: pn)) (.builtin "isinstance") (rIsX X.K D a dd) := by
  intro pins s σ H xs us Q I r ⟨c, cv, k, fs, ex, hcv, e, hx, q⟩
  subst ex
  match us, r with
  | [u1, u2], .cons r1 (.cons r2 .nil) =>
    cases (show u1 = Value.ref a from r1)
    cases hcv _ r2
    obtain ⟨hget, _⟩ := I.pin (a, oe) (List.mem_append.mpr (.inl List.mem_cons_self))
    obtain ⟨vs, hv⟩ := hf
    obtain ⟨mA, hns, _⟩ := (show ObjOk X.prog X.w H s.heap dd (.xd fs) from I.hok dd _ hx)
    obtain ⟨od, ho, _⟩ := lookIn_ns hns
    have J : PySem.W.InstAt s.heap a oe D (some od) := ⟨hget, hz.1, by unfold PySem.W.notCls; rw [hv] <;> rfl, by rw [hz.2]; exact ho⟩
    exact PySem.W.kia_one (PySem.W.kitx_exc (od := some od) C.cl C.xf.ga C.xf.gg C.xf.exC C.ha C.hn C.ht C.hm) I.kIn J e (fun z => nomatch z) fun tk => ⟨.bl k, H, I.kept (t' := tk) fun _ _ z => z, rfl, q⟩
def TbOk (X : Cx) (cv : Value) (tb : List (Str × Bool)) : Prop := ∀ x k, tb.lookup x = some k → ∃ D : Addr, X.mg x = some (.ref D) ∧ XSui X.K D ∧ PySem.W.kitOne X.K (.ref D) cv = some k
theorem px_isi {cc : V} {cv : Value} {tb : List (Str × Bool)} (hg : Gl X "isinstance") (hm : X.mg "isinstance" = none) (ht : TbOk X cv tb) (hN : X.N[i]? = some n) (hv : Vis X.env.scope n) (hd : (n == ("__debug__" : Str)) = false) (hcd : (n == ("__classdict__" : Str)) = false)
    (hz : Zc cls d oe) (hf : ∃ vs, oe.data = .fields vs) (hb : PE (X.suite a ((a, oe) :: pn)) b (tC cc)) (hcv : ∀ u, RelV cc u → u = cv)
    (hs : starEach [.Name n p1, b] X.env = (false, eval (.Name n p1) X.env) :: starEach [b] X.env) (hs2 : starEach [b] X.env = [(false, eval b X.env)]) (hpl : (backTo pos (starEach [b] X.env)).any (·.1) = false) :
    PE (X.suite a ((a, oe) :: pn)) (.Call (.Name "isinstance" p) [.Name n p1, b] [] pos) (tX (gx X) a cls d i (isiE tb)) := by
  have hc : CallR (X.suite a ((a, oe) :: pn)) (.builtin "isinstance") (fun xs H Q => ∃ (D dd : Addr), cls = .ref D ∧ d = some dd ∧ XSui X.K D ∧ rIsX X.K D a dd xs H Q) := fun pins s σ H xs us Q I r ⟨D, dd, e1, e2, S, w⟩ => by
    subst e1 e2
    exact call_isX S hz hf pins s σ H xs us Q I r w
  refine (pe_callB (X := X.suite a ((a, oe) :: pn)) hc hg hm rfl (pa_cons (pe_var (X := X.suite a ((a, oe) :: pn)) (i := i) hN hv hd hcd) (pa_cons hb pa_nil hs2) hs) (by decide) (by decide) hs hpl).imp fun σ H Q ⟨O, F, δ, e, y, ⟨M, hi, hmc, dd, vs, ed, hx, ra, _⟩, h, q⟩ => ?_
  unfold isiE at h
  rw [Option.map_eq_some_iff] at h
  obtain ⟨k, hk, rfl⟩ := h
  obtain ⟨D, hD, S, kt⟩ := ht _ _ hk
  rw [show (gx X).mg e.c = X.mg e.c from rfl, hD] at hmc
  cases hmc
  exact ⟨_, hi, D, dd, rfl, ed, S, cc, cv, k, _, rfl, hcv, kt, hx, q _ (.bl k)⟩
theorem px_tru (h : PE (X.suite a ((a, oe) :: pn)) e (tX (gx X) a cls d i m)) (he : ∀ whole, isTrue e X.env whole = (do let v ← whole; standAt e.pos; holding [v] (truthy v))) : PT (X.suite a ((a, oe) :: pn)) e (tXT (gx X) a cls d i fun e δ => (m e δ).bind D.tru) :=
  (pt_truth h he).imp fun σ H Q ⟨O, F, δ, e, k, S, h, q⟩ => by
    rw [Option.bind_eq_some_iff] at h
    obtain ⟨x, hx, hk⟩ := h
    exact ⟨O, F, δ, e, x, S, hx, fun v r => ⟨k, (S.1.bw (op := .d x) r rfl).tru S.1.fh hk, q⟩⟩
theorem px_not (h : PT (X.suite a ((a, oe) :: pn)) e (tXT (gx X) a cls d i t)) : PT (X.suite a ((a, oe) :: pn)) (.UnaryOp .Not e pos) (tXT (gx X) a cls d i fun e δ => (t e δ).map (!·)) :=
  (pt_not h).imp fun σ H Q ⟨O, F, δ, e, k, S, h, q⟩ => by
    rw [Option.map_eq_some_iff] at h
    obtain ⟨k', hk, rfl⟩ := h
    exact ⟨O, F, δ, e, k', S, hk, q⟩
def andE (t t2 : ST) : ST := fun e δ => (t e δ).bind fun k => if k then t2 e δ else some false
def orE' (t t2 : ST) : ST := fun e δ => (t e δ).bind fun k => if k then some true else t2 e δ
theorem px_and1 (h : PT (X.suite a ((a, oe) :: pn)) e (tXT (gx X) a cls d i t)) : PW (X.suite a ((a, oe) :: pn)) (.BoolOp .And [e] pos) (tXT (gx X) a cls d i t) := pw_and1 h
theorem px_or1 (h : PT (X.suite a ((a, oe) :: pn)) e (tXT (gx X) a cls d i t)) : PW (X.suite a ((a, oe) :: pn)) (.BoolOp .Or [e] pos) (tXT (gx X) a cls d i t) := pw_or1 h
theorem px_and {r : List Expr} (h : PT (X.suite a ((a, oe) :: pn)) e (tXT (gx X) a cls d i t)) (h2 : PW (X.suite a ((a, oe) :: pn)) (.BoolOp .And (b :: r) pos) (tXT (gx X) a cls d i t2)) : PW (X.suite a ((a, oe) :: pn)) (.BoolOp .And (e :: b :: r) pos) (tXT (gx X) a cls d i (andE t t2)) :=
  (pw_and h h2).imp fun σ H Q ⟨O, F, δ, e, k, S, h, q⟩ => by
    unfold andE at h
    rw [Option.bind_eq_some_iff] at h
    obtain ⟨k', hk, h⟩ := h
    refine ⟨O, F, δ, e, k', S, hk, ?_⟩
    cases k' with
    | true => exact ⟨O, F, δ, e, k, S, h, q⟩
    | false => cases h; exact q
theorem px_or {r : List Expr} (h : PT (X.suite a ((a, oe) :: pn)) e (tXT (gx X) a cls d i t)) (h2 : PW (X.suite a ((a, oe) :: pn)) (.BoolOp .Or (b :: r) pos) (tXT (gx X) a cls d i t2)) : PW (X.suite a ((a, oe) :: pn)) (.BoolOp .Or (e :: b :: r) pos) (tXT (gx X) a cls d i (orE' t t2)) :=
  (pw_or h h2).imp fun σ H Q ⟨O, F, δ, e, k, S, h, q⟩ => by
    unfold orE' at h
    rw [Option.bind_eq_some_iff] at h
    obtain ⟨k', hk, h⟩ := h
    refine ⟨O, F, δ, e, k', S, hk, ?_⟩
    cases k' with
    | true => cases h; exact q
    | false => exact ⟨O, F, δ, e, k, S, h, q⟩
def ifE (t : ST) (m m2 : SE) : SE := fun e δ => (t e δ).bind fun k => if k then m e δ else m2 e δ
theorem px_if (hc : PT (X.suite a ((a, oe) :: pn)) c (tXT (gx X) a cls d i t)) (ha : PE (X.suite a ((a, oe) :: pn)) e (tX (gx X) a cls d i m)) (hb : PE (X.suite a ((a, oe) :: pn)) b (tX (gx X) a cls d i m2)) : PE (X.suite a ((a, oe) :: pn)) (.IfExp c e b pos) (tX (gx X) a cls d i (ifE t m m2)) :=
  (pe_ifExp hc ha hb).imp fun σ H Q ⟨O, F, δ, e, y, S, h, q⟩ => by
    unfold ifE at h
    rw [Option.bind_eq_some_iff] at h
    obtain ⟨k', hk, h⟩ := h
    refine ⟨O, F, δ, e, k', S, hk, ?_⟩
    cases k' with
    | true => exact ⟨O, F, δ, e, y, S, h, q⟩
    | false => exact ⟨O, F, δ, e, y, S, h, q⟩
/-- truth as a value -/
theorem px_bl (h : PT (X.suite a ((a, oe) :: pn)) e (tXT (gx X) a cls d i t)) : True := True.intro
end
end Ev

set_option Elab.async false
set_option linter.all false
set_option maxRecDepth 100000
namespace Ev
open PySem PySem.Spec PyProof.Rows L2
/-! ### try: .. except C as n: names bound -/
def runX : List (Nat × SE) → Ex → Dl → Option Dl
  | [], _, δ => some δ
  | (j, m) :: r, e, δ => (m e δ).bind fun x => runX r e (δ.set j (some (.d x)))
def tXs (g : Gx) (a : Addr) (cls : Value) (d : Option Addr) (i : Nat) (L : List Nat) (su : List (Nat × SE)) : TS := fun D σ H => ∃ O F δ e δ', SuiS g a cls d i O F H σ δ e ∧ runX su e δ = some δ' ∧ ∀ σ', Keep L σ σ' → Ms g O F H σ' δ' → D.nx σ' H
theorem Ms.blank {g : Gx} {O F H : Hp} {σ : L2.St} {δ : Dl} {i : Nat} {w : Option V} (M : Ms g O F H σ δ) : Ms g O F H (σ.set i w) (δ.set i none) := by
  have N := M.forget (i := i)
  have ne {j : Nat} {s : S} (h : (δ.set i none)[j]? = some (some s)) : i ≠ j := fun q => by
    subst q
    rcases get_set_of h with ⟨_, z⟩ | ⟨z, _⟩
    · cases z
    · exact z rfl
  exact ⟨N.fh, N.oh, N.dj, fun j s h hm => by rw [List.getElem?_set_ne (ne h)]; exact N.sl j s h hm, fun j k s t v h1 h2 o1 o2 h3 h4 => by
    rw [List.getElem?_set_ne (ne h1)] at h3
    rw [List.getElem?_set_ne (ne h2)] at h4
    exact N.ap j k s t v h1 h2 o1 o2 h3 h4, N.mm, N.m1⟩
section
variable {X : Cx} {E : WS} {L : List Nat} {a : Addr} {oe : Obj} {cls : Value} {d : Option Addr} {pn : List (Addr × Obj)} {i : Nat} {su : List (Nat × SE)} {m : SE} {rest : List Stmt}
theorem pxs_nil : PSs (X.suite a ((a, oe) :: pn)) [] (tXs (gx X) a cls d i L []) := pss_nil.imp fun D σ H ⟨O, F, δ, e, δ', S, h, q⟩ => by
  cases h
  exact q σ Keep.refl S.1
theorem pxs_cons {j : Nat} {x : Str} {ee : Expr} {p' pos : Pos} (hN : X.N.Nodup) (hj : X.N[j]? = some x) (hx : Loc X.env.scope x) (hL : j ∉ L) (hne : j ≠ i) (he : PE (X.suite a ((a, oe) :: pn)) ee (tX (gx X) a cls d i m)) (hs : swapsWith ee (some (.Name x p')) pos.line X.env = pure false)
    (hf : X.fn x = true ∨ X.env.scope.names.lookup x = some .local) (hr : PSs (X.suite a ((a, oe) :: pn)) rest (tXs (gx X) a cls d i L su)) : PSs (X.suite a ((a, oe) :: pn)) (.Assign [.Name x p'] ee pos :: rest) (tXs (gx X) a cls d i L ((j, m) :: su)) := by
  refine ⟨fun pins s σ H D I w => (pss_cons (ps_set (X := X.suite a ((a, oe) :: pn)) hN hj hx he hs hf) hr).run pins s σ H D I ?_⟩
  obtain ⟨O, F, δ, e, δ', S, h, q⟩ := w
  unfold runX at h
  rw [Option.bind_eq_some_iff] at h
  obtain ⟨y, hy, h⟩ := h
  have lj : j < σ.length := by rw [I.len]; exact (List.getElem?_eq_some_iff.mp hj).1
  refine ⟨O, F, δ, e, y, S, hy, fun v r => ⟨O, F, _, e, δ', ⟨S.1.put (s := .d y) lj r, ?_, S.2.2⟩, h, fun σ' k M => q σ' (Keep.trans ⟨by rw [List.length_set], fun t ht => ?_⟩ k) M⟩⟩
  · rw [List.getElem?_set_ne hne]; exact S.2.1
  · have hjt : j ≠ t := fun z => hL (z ▸ ht)
    rw [List.getElem?_set_ne hjt]
/-- the classes that may come, and whether the clause's is over them -/
def CbOk (X : Cx) (c : Value) (tb : List (Str × Bool)) : Prop := ∀ x k, tb.lookup x = some k → ∃ D : Addr, X.mg x = some (.ref D) ∧ PySem.W.exmOne X.K (.ref D) c = some k
def tryM (mb : M Fl) (tb : List (Str × Bool)) (i : Nat) (su : List (Nat × SE)) : M Fl := fun δ => match mb δ with
  | some (.err e δ1) => match tb.lookup e.c with
    | some true => (runX su e (δ1.set i none)).map fun δ2 => .ok .next (δ2.set i none)
    | some false => some (.err e δ1)
    | none => none
  | r => r
theorem ps_tryM {x n : Str} {c : Value} {body suite : List Stmt} {b₀ : Stmt} {np pos pos' : Pos} {mb : M Fl} {tb : List (Str × Bool)} (hs : X.stack = X.env :: X.outer) (hf : X.env.frame = some X.env.locals) (hN : X.N.Nodup) (hi : X.N[i]? = some n) (hln : X.env.kindOf n = some .local) (hiL : i ∉ L) (hc : Names X x c) (tk : Takes X (WE' E)) (ht : CbOk X c tb)
    (hb : ∀ (W : WX) (pn : List (Addr × Obj)) (xe : Value → Shared → Prop), Takes (X.tr pn xe) W → PassesOwn (model X.prog X.w) X.A X.env xe → PSs (X.tr pn xe) body (tS (gx X) (fun σ c d H => W c d σ H) L mb))
    (hsu : ∀ (a : Addr) (oe : Obj) (cls : Value) (d : Option Addr) (pn : List (Addr × Obj)), Zc cls d oe → (∃ vs, oe.data = .fields vs) → PSs (X.suite a ((a, oe) :: pn)) (b₀ :: suite) (tXs (gx X) a cls d i L su)) :
    PS X (.Try body [.ExceptHandler (some (.Name x np)) (some n) (b₀ :: suite) pos'] [] [] pos) (tS (gx X) E L (tryM mb tb i su)) := by
  refine ⟨fun pins s σ H D I w => (ps_try_as (ts := fun a cls d => tXs (gx X) a cls d i L su) (Wout := WE' E) hs hf hN hi hln hc tk hb hsu).run pins s σ H D I ?_⟩
  have li : i < X.N.length := (List.getElem?_eq_some_iff.mp hi).1
  obtain ⟨O, F, δ, M, w⟩ := w
  refine ⟨O, F, δ, M, ?_⟩
  unfold wps tryM at w
  unfold wps
  cases e1 : mb δ with
  | none => rw [e1] at w; exact w
  | some r => cases r with
    | ok fl δ' => rw [e1] at w; exact w
    | err e δ1 =>
      rw [e1] at w
      simp only at w ⊢
      intro F' H' σ' c' dd sF kp M' re
      cases e2 : tb.lookup e.c with
      | none => rw [e2] at w; exact w.elim
      | some k =>
        rw [e2] at w
        obtain ⟨Dd, hD, hx⟩ := ht _ _ e2
        have hc' : some c' = some (Value.ref Dd) := re.1.symm.trans hD
        cases hc'
        refine ⟨k, hx, fun hk a ha => ?_, fun hk => ?_⟩
        · subst hk
          simp only at w
          cases e3 : runX su e (δ1.set i none) with
          | none => rw [e3] at w; exact w.elim
          | some δ2 =>
            rw [e3] at w
            have l1 : σ'.length = X.N.length := kp.1.trans I.len
            refine ⟨O, F', δ1.set i none, e, δ2, ⟨M'.blank, by rw [List.getElem?_set_self (by omega)], re⟩, e3, fun σ2 k2 M2 => ?_⟩
            exact w F' H' (σ2.set i none) sF (kp.trans ⟨by rw [List.length_set, k2.1, List.length_set], fun t ht => by
              have hne : i ≠ t := fun z => hiL (z ▸ ht)
              rw [List.getElem?_set_ne hne, k2.2 t ht, List.getElem?_set_ne hne]⟩) M2.blank
        · subst hk
          exact w F' H' σ' _ dd sF kp M' re
end
end Ev

set_option Elab.async false
set_option linter.all false
set_option maxRecDepth 100000
namespace Ev
open PySem PySem.Spec PyProof.Rows L2
/-! ### list(an iterator), the state told with the items so far -/
section
variable {prog : Program} {w : World} {A : Around} {R : Result → Shared → Prop} {I S : Addr} {n : Nat}
abbrev LstAt (h : Heap) (S : Addr) (acc : Array Value) : Prop := ∃ c, h.get? S = some { cls := .type "list", dict := none, data := .seq acc c, slots := #[] }
theorem ext_loopJ (J : Nat → Array Value → Shared → Prop) (Fi : Array Value → Shared → Prop) (hs : ∀ i acc s, J i acc s → LstAt s.heap S acc ∧ acc.size = i)
    (item : ∀ i acc s (Q : Option Value → Shared → Prop) (E : Value → Shared → Prop), i < n → J i acc s → (∀ v s', LstAt s'.heap S acc → J (i + 1) (acc.push v) { s' with heap := s'.heap.update S (Obj.mapSeq (·.push v)) } → Q (some v) s') → wpAny (model prog w) A.in1 (pyNext (.ref I)) Q E s)
    (done : ∀ acc s (Q : Option Value → Shared → Prop) (E : Value → Shared → Prop), J n acc s → (∀ s', Fi acc s' → Q none s') → wpAny (model prog w) A.in1 (pyNext (.ref I)) Q E s) (hn : n ≤ sizeLine) (res : Value) :
    ∀ (k i : Nat) (s : Shared) (acc : Array Value), n - i = k → i ≤ n → J i acc s → (∀ s' acc', Fi acc' s' → R (.ok (.ret res)) s') → codeAny (model prog w) A (.builtin "list.extend.loop" ⟨[.ref S, .ref I, res], []⟩) R s := by
  intro k
  induction k with
  | zero =>
    intro i s acc hk hi j hR
    obtain rfl : i = n := by omega
    refine codeAny_builtin PySem.F.entry_extend_loop ?_
    rw [Around.under_plainId PySem.F.plain_extend_loop _]
    show wpAny _ A.in1 (pyNext (.ref I) >>= _) _ _ s
    exact wpAny_bind (done acc s _ _ j fun s' j' => wpAny_pure (hR s' acc j'))
  | succ k ih =>
    intro i s acc hk hi j hR
    refine codeAny_builtin PySem.F.entry_extend_loop ?_
    rw [Around.under_plainId PySem.F.plain_extend_loop _]
    show wpAny _ A.in1 (pyNext (.ref I) >>= _) _ _ s
    refine wpAny_bind (item i acc s _ _ (by omega) j fun v s' ⟨c, hS⟩ j' => ?_)
    show wpAny _ A.in1 (updateSeq S (·.push v) >>= _) _ _ _
    have sz := (hs i acc s j).2
    exact wpAny_bind (wpAny_updateSeq hS rfl (wpAny_pure ⟨plainId_quiet PySem.F.plain_extend_loop _, ih (i + 1) _ (acc.push v) (by omega) (by omega) j' hR⟩) (by rw [sz]; omega) (by show (acc.push v).size ≤ sizeLine + 1; rw [Array.size_push, sz]; omega))
/-- the way there: list(it), it of a type that tells no length -/
theorem ext_J {T : String} {s : Shared} {c₀ : Nat} (tl : typeLookup (.type T) "__len__" = pure none) (th : typeLookup (.type T) "__length_hint__" = pure none) (t1 : (Value.type T == Value.type "list") = false) (t2 : (Value.type T == Value.type "tuple") = false) (hT : s.TypeIs (.ref I) T)
    (self : ∀ (Q : Value → Shared → Prop) (E : Value → Shared → Prop), Q (.ref I) s → wpAny (model prog w) A.in1 (pyIter (.ref I)) Q E s) (hSI : S ≠ I) (hS : s.heap.get? S = some { cls := .type "list", data := .seq #[] c₀ }) (res : Value)
    (go : ∀ h', (∀ b o, b ≠ S → s.heap.get? b = some o → h'.get? b = some o) → LstAt h' S #[] → h'.objs.size = s.heap.objs.size → codeAny (model prog w) A (.builtin "list.extend.loop" ⟨[.ref S, .ref I, res], []⟩) R { s with heap := h' }) :
    wpAny (model prog w) A.in1 (Builtin.List.listExtendWith (.ref S) (.ref I) res) (fun fin s' => match fin with | .done f => R (.ok f) s' | .again c' => c'.quiet = true ∧ codeAny (model prog w) A c' R s') (fun e s' => R (.error e) s') s := by
  have h1 : Builtin.List.listSameRef (.ref S) (.ref I) = false := by simp [Builtin.List.listSameRef, hSI]
  unfold Builtin.List.listExtendWith
  refine wpAny_bind (wpAny_typeOf hT ?_)
  simp only [h1, t1, t2, Bool.or_false, Bool.false_eq_true, if_false]
  refine wpAny_bind (self _ _ (wpAny_bind (wpAny_holding ?_)))
  unfold Builtin.List.listLengthHint
  refine wpAny_bind (wpAny_specialOf hT tl ?_)
  show wpAny _ A.in1 (specialOf (Value.ref I) (Str.ofString "__length_hint__") >>= _) _ _ _
  refine wpAny_bind (wpAny_specialOf hT th (wpAny_pure ?_))
  show wpAny _ A.in1 (rule "list.extend.makes-room" >>= fun _ => Builtin.List.listTouch (.ref S) >>= fun _ => again (.builtin "list.extend.loop" ⟨[.ref S, .ref I, res], []⟩)) _ _ _
  refine wpAny_bind (wpAny_rule (wpAny_bind ?_))
  show wpAny _ A.in1 (updateSeq S (·.push .none) >>= fun _ => updateSeq S (·.pop)) _ _ _
  have k2 := Heap.get?_update_self (Obj.mapSeq (·.push Value.none)) hS rfl
  have k3 := Heap.get?_update_self (Obj.mapSeq (·.pop)) k2 rfl
  refine wpAny_bind (wpAny_updateSeq hS rfl (wpAny_updateSeq (hz := by seq_fits) k2 rfl (wpAny_pure ⟨plainId_quiet PySem.F.plain_extend_loop _, go _ (fun b o ne e => ?_) ⟨_, k3⟩ ?_⟩)))
  · exact (Heap.get?_update_other _ _ (Ne.symm ne)).trans ((Heap.get?_update_other _ _ (Ne.symm ne)).trans e)
  · simp [Heap.update]
theorem init_J {T : String} {s : Shared} (tl : typeLookup (.type T) "__len__" = pure none) (th : typeLookup (.type T) "__length_hint__" = pure none) (t1 : (Value.type T == Value.type "list") = false) (t2 : (Value.type T == Value.type "tuple") = false) (hT : ∀ h', (∀ b o, b ≠ S → s.heap.get? b = some o → h'.get? b = some o) → Shared.TypeIs { s with heap := h' } (.ref I) T)
    (self : ∀ h', (∀ b o, b ≠ S → s.heap.get? b = some o → h'.get? b = some o) → ∀ (Q : Value → Shared → Prop) (E : Value → Shared → Prop), Q (.ref I) { s with heap := h' } → wpAny (model prog w) A.in1 (pyIter (.ref I)) Q E { s with heap := h' }) (hSI : S ≠ I) (hS : s.heap.get? S = some { cls := .type "list", data := .seq #[] })
    (go : ∀ h', (∀ b o, b ≠ S → s.heap.get? b = some o → h'.get? b = some o) → LstAt h' S #[] → h'.objs.size = s.heap.objs.size → codeAny (model prog w) A (.builtin "list.extend.loop" ⟨[.ref S, .ref I, .none], []⟩) R { s with heap := h' }) :
    wpAny (model prog w) A.in1 (Builtin.«list.__init__» ⟨[.ref S, .ref I], []⟩) (fun fin s' => match fin with | .done f => R (.ok f) s' | .again c' => c'.quiet = true ∧ codeAny (model prog w) A c' R s') (fun e s' => R (.error e) s') s := by
  show wpAny _ A.in1 (do let old ← Builtin.List.listItems (.ref S); Builtin.List.listUpdate (.ref S) (fun _ => #[]); letGo old.toList.reverse; Builtin.List.listExtendWith (.ref S) (.ref I) .none) _ _ s
  unfold Builtin.List.listItems
  refine wpAny_bind (wpAny_bind (wpAny_seqItems hS rfl (wpAny_pure ?_)))
  show wpAny _ A.in1 (updateSeq S (fun _ => #[]) >>= fun _ => letGo (#[] : Array Value).toList.reverse >>= fun _ => Builtin.List.listExtendWith (.ref S) (.ref I) .none) _ _ s
  have k2 := Heap.get?_update_self (Obj.mapSeq (fun _ => (#[] : Array Value))) hS rfl
  have off : ∀ b o, b ≠ S → s.heap.get? b = some o → (s.heap.update S (Obj.mapSeq (fun _ => (#[] : Array Value)))).get? b = some o := fun b o ne e => (Heap.get?_update_other _ _ (Ne.symm ne)).trans e
  refine wpAny_bind (wpAny_updateSeq hS rfl (wpAny_bind (wpAny_letGo (ext_J tl th t1 t2 (hT _ off) (self _ off) hSI k2 .none fun h' k l z => ?_))))
  exact go h' (fun b o ne e => k b o ne (off b o ne e)) l (z.trans (by simp [Heap.update]))
end
section
variable {prog : Program} {w : World} {A : Around} {I : Addr} {n : Nat}
theorem call_listJ {T : String} {s : Shared} {Q : Value → Shared → Prop} {E : Value → Shared → Prop} (tl : typeLookup (.type T) "__len__" = pure none) (th : typeLookup (.type T) "__length_hint__" = pure none) (t1 : (Value.type T == Value.type "list") = false) (t2 : (Value.type T == Value.type "tuple") = false)
    (hI : I < s.heap.objs.size) (hT : ∀ h', (∀ b o, s.heap.get? b = some o → h'.get? b = some o) → Shared.TypeIs { s with heap := h' } (.ref I) T)
    (self : ∀ h', (∀ b o, s.heap.get? b = some o → h'.get? b = some o) → ∀ (Q : Value → Shared → Prop) (E : Value → Shared → Prop), Q (.ref I) { s with heap := h' } → wpAny (model prog w) A.in1.in1 (pyIter (.ref I)) Q E { s with heap := h' })
    (go : ∀ (R : Result → Shared → Prop) h', (∀ b o, s.heap.get? b = some o → h'.get? b = some o) → LstAt h' s.heap.objs.size #[] → h'.objs.size = s.heap.objs.size + 1 → (∀ s', Q (.ref s.heap.objs.size) s' → R (.ok (.ret .none)) s') → codeAny (model prog w) A.in1 (.builtin "list.extend.loop" ⟨[.ref s.heap.objs.size, .ref I, .none], []⟩) R { s with heap := h' }) :
    wpAny (model prog w) A (call (.type "list") [.ref I]) Q E s := by
  refine callType_codes (Q₁ := fun obj s₁ => obj = .ref s.heap.objs.size ∧ s₁ = { s with heap := s.heap.push { cls := .type "list", data := .seq #[] } }) PySem.F.called_list (PySem.F.typeCall_list_1 _) PySem.F.entry_list_init (code_list_new _ ⟨rfl, rfl⟩) fun obj s₁ h₁ => ?_
  obtain ⟨rfl, rfl⟩ := h₁
  have hS : (s.heap.push { cls := .type "list", data := .seq #[] }).get? s.heap.objs.size = some { cls := .type "list", data := .seq #[] } := Heap.get?_push_size _ rfl
  have ne {b : Addr} {o : Obj} (e : s.heap.get? b = some o) : b ≠ s.heap.objs.size := Nat.ne_of_lt (Heap.lt_size e)
  refine ⟨⟨_, hS, rfl⟩, PySem.F.args_list_init_2 _ _, init_J tl th t1 t2 (fun h' k => hT h' fun b o e => k b o (ne e) (Heap.get?_push_of_some _ e)) (fun h' k => self h' fun b o e => k b o (ne e) (Heap.get?_push_of_some _ e)) (Nat.ne_of_gt hI) hS fun h' k l z => ?_⟩
  exact go _ h' (fun b o e => k b o (ne e) (Heap.get?_push_of_some _ e)) l (z.trans (Heap.size_push ..)) fun s' q => ⟨rfl, q⟩
end
end Ev

set_option Elab.async false
set_option linter.all false
set_option maxRecDepth 100000
namespace Ev
open PySem PySem.Spec PyProof.Rows L2
/-! ### zip of any two iterators, its last tuple still held -/
section
variable {prog : Program} {w : World} {A : Around} {E : Value → Shared → Prop} {s : Shared} {z TI TO i1 i2 T : Addr} {fp1 fp2 : List Addr} {n1 n2 i : Nat} {P1 P2 : Nat → Value → Prop} {St1 St2 : Nat → Heap → Prop} {f : Bool} {oT : Obj}
theorem zipH_item {Q : Value → Shared → Prop} (S : ZipSep2 z TI TO i1 i2 fp1 fp2) (D1 : Draws prog w A i1 fp1 n1 P1 St1) (D2 : Draws prog w A i2 fp2 n2 P2 St2) (hz : IsZipHeld s.heap z TI TO T f) (hT : s.heap.get? T = some oT) (hTI : IsTupOf2 s.heap TI (.ref i1) (.ref i2)) (st1 : St1 i s.heap) (st2 : St2 i s.heap) (lt1 : i < n1) (lt2 : i < n2)
    (hQ : ∀ x y h' tk, P1 i x → P2 i y → IsZipHeld h' z TI TO T true → St1 (i + 1) h' → St2 (i + 1) h' → IsTupOf2 h' s.heap.objs.size x y → h'.objs.size = s.heap.objs.size + 1 → (∀ c o, c ≠ z → c ≠ i1 → c ≠ i2 → s.heap.get? c = some o → h'.get? c = some o) → Q (.ref s.heap.objs.size) { s with heap := h', toks := tk }) :
    wpAny (model prog w) A (Builtin.«zip.__next__» ⟨[.ref z], []⟩) (fun fin s' => ∃ v, fin = .done (.ret v) ∧ Q v s') E s := by
  obtain ⟨h0, ge, dr, t0, os⟩ := s
  show wpAny (model prog w) A (field (.ref z) 2 >>= _) _ _ _
  refine wpAny_bind (wpAny_field hz rfl (x := .bool false) rfl (wpAny_bind (wpAny_field hz rfl (x := .ref TI) rfl (wpAny_bind (wpAny_seqItems hTI rfl ?_)))))
  show wpAny (model prog w) A (Builtin.SmallTypes.ownedTupleIsFree (.ref z) >>= _) _ _ _
  refine wpAny_bind (wpAny_tupleHeld_zip hz hT fun ha hza sa => ?_)
  simp only [Bool.false_eq_true, if_false]
  refine wpAny_bind ?_; rw [← Array.forIn_toList]; simp only [List.forIn_cons, List.forIn_nil]; refine wpAny_bind (wpAny_bind (wpAny_holding ?_))
  show wpAny (model prog w) A (Builtin.SmallTypes.nextOf (.ref i1) >>= _) _ _ ⟨ha, ge, dr, t0, os⟩
  refine wpAny_bind (D1.item i _ _ _ lt1 (D1.over st1 sa S.zf1) fun x hb tb px sb kb => wpAny_pure (wpAny_pure (wpAny_bind (wpAny_bind (wpAny_holding ?_)))))
  show wpAny (model prog w) A (Builtin.SmallTypes.nextOf (.ref i2) >>= _) _ _ ⟨hb, ge, dr, tb, os⟩
  replace kb : Heap.SameBut i1 ha hb := kb
  refine wpAny_bind (D2.item i _ _ _ lt2 (D2.over (D2.over st2 sa S.zf2) kb S.sep1_2) fun y hc tc py sc kc => wpAny_pure (wpAny_pure (wpAny_pure ?_)))
  replace kc : Heap.SameBut i2 hb hc := kc
  show wpAny (model prog w) A (newTuple [x, y] >>= _) _ _ ⟨hc, ge, dr, tc, os⟩
  refine wpAny_bind (wpAny_newTuple ?_)
  have sz : hc.objs.size = h0.objs.size := by rw [kc.1, kb.1, sa.1]
  have zc : IsZipHeld hc z TI TO T true := kc.extBut _ _ S.zi2 (kb.extBut _ _ S.zi1 hza)
  have keep : ∀ c o, c ≠ z → c ≠ i1 → c ≠ i2 → h0.get? c = some o → hc.get? c = some o := fun c o a1 a2 a3 e => kc.extBut _ _ a3 (kb.extBut _ _ a2 (sa.extBut _ _ a1 e))
  have up : ∀ c o, hc.get? c = some o → (hc.push { cls := .type "tuple", data := .seq #[x, y] }).get? c = some o := fun c o e => Heap.get?_push_of_some _ e
  have tt : IsTupOf2 (hc.push { cls := .type "tuple", data := .seq #[x, y] }) hc.objs.size x y := Heap.get?_push_size _ rfl
  have sz2 : (hc.push { cls := .type "tuple", data := .seq #[x, y] }).objs.size = hc.objs.size + 1 := Heap.size_push ..
  refine wpAny_pure ⟨_, rfl, (?_ : Q (.ref hc.objs.size) _)⟩
  rw [sz] at tt sz2 ⊢
  exact hQ x y _ tc px py (up _ _ zc) (D1.frame _ _ _ (D1.over sb kc S.sep2_1) fun b _ o e => up b o e) (D2.frame _ _ _ sc fun b _ o e => up b o e) tt sz2 fun c o a1 a2 a3 e => up c o (keep c o a1 a2 a3 e)
theorem zipH_end {Q : PySem.Fin → Shared → Prop} (S : ZipSep2 z TI TO i1 i2 fp1 fp2) (D1 : Draws prog w A i1 fp1 n1 P1 St1) (D2 : Draws prog w A i2 fp2 n2 P2 St2) (hz : IsZipHeld s.heap z TI TO T f) (hT : s.heap.get? T = some oT) (hTI : IsTupOf2 s.heap TI (.ref i1) (.ref i2)) (st1 : St1 i s.heap) (st2 : St2 i s.heap) (le1 : i < n1) (e2 : i = n2)
    (hE : ∀ h' tk e, (∀ c o, c ≠ z → c ≠ i1 → c ≠ i2 → s.heap.get? c = some o → h'.get? c = some o) → (∃ o, h'.get? e = some o ∧ o.cls = .type "StopIteration") → E (.ref e) { s with heap := h', toks := tk }) :
    wpAny (model prog w) A (Builtin.«zip.__next__» ⟨[.ref z], []⟩) Q E s := by
  obtain ⟨h0, ge, dr, t0, os⟩ := s
  show wpAny (model prog w) A (field (.ref z) 2 >>= _) _ _ _
  refine wpAny_bind (wpAny_field hz rfl (x := .bool false) rfl (wpAny_bind (wpAny_field hz rfl (x := .ref TI) rfl (wpAny_bind (wpAny_seqItems hTI rfl ?_)))))
  show wpAny (model prog w) A (Builtin.SmallTypes.ownedTupleIsFree (.ref z) >>= _) _ _ _
  refine wpAny_bind (wpAny_tupleHeld_zip hz hT fun ha hza sa => ?_)
  simp only [Bool.false_eq_true, if_false]
  refine wpAny_bind ?_; rw [← Array.forIn_toList]; simp only [List.forIn_cons, List.forIn_nil]; refine wpAny_bind (wpAny_bind (wpAny_holding ?_))
  show wpAny (model prog w) A (Builtin.SmallTypes.nextOf (.ref i1) >>= _) _ _ ⟨ha, ge, dr, t0, os⟩
  refine wpAny_bind (D1.item i _ _ _ le1 (D1.over st1 sa S.zf1) fun x hb tb px sb kb => wpAny_pure (wpAny_pure (wpAny_bind (wpAny_bind (wpAny_holding ?_)))))
  show wpAny (model prog w) A (Builtin.SmallTypes.nextOf (.ref i2) >>= _) _ _ ⟨hb, ge, dr, tb, os⟩
  replace kb : Heap.SameBut i1 ha hb := kb
  refine wpAny_bind (D2.done ⟨hb, ge, dr, tb, os⟩ _ _ (by rw [← e2]; exact D2.over (D2.over st2 sa S.zf2) kb S.sep1_2) fun q e hq he => ?_)
  exact hE q tb e (fun c o a1 a2 a3 e' => hq _ _ a3 (kb.extBut _ _ a2 (sa.extBut _ _ a1 e'))) he
end
end Ev

set_option Elab.async false
set_option linter.all false
set_option maxRecDepth 100000
namespace Ev
open PySem PySem.Spec PyProof.Rows L2
/-! ### list(zip(a list, a shorter tuple)) -/
section
variable {prog : Program} {w : World} {A : Around} {E : Value → Shared → Prop} {s : Shared} {z TI TO i1 i2 T : Addr} {fp1 fp2 : List Addr} {n1 n2 i : Nat} {P1 P2 : Nat → Value → Prop} {St1 St2 : Nat → Heap → Prop} {f : Bool} {oT : Obj}
theorem nextH_item {Q : Option Value → Shared → Prop} (S : ZipSep2 z TI TO i1 i2 fp1 fp2) (D1 : Draws prog w A.in1 i1 fp1 n1 P1 St1) (D2 : Draws prog w A.in1 i2 fp2 n2 P2 St2) (hz : IsZipHeld s.heap z TI TO T f) (hT : s.heap.get? T = some oT) (hTI : IsTupOf2 s.heap TI (.ref i1) (.ref i2)) (st1 : St1 i s.heap) (st2 : St2 i s.heap) (lt1 : i < n1) (lt2 : i < n2)
    (hQ : ∀ x y h' tk, P1 i x → P2 i y → IsZipHeld h' z TI TO T true → St1 (i + 1) h' → St2 (i + 1) h' → IsTupOf2 h' s.heap.objs.size x y → h'.objs.size = s.heap.objs.size + 1 → (∀ c o, c ≠ z → c ≠ i1 → c ≠ i2 → s.heap.get? c = some o → h'.get? c = some o) → Q (some (.ref s.heap.objs.size)) { s with heap := h', toks := tk }) : wpAny (model prog w) A (pyNext (.ref z)) Q E s := by
  have ty : s.TypeIs (.ref z) "zip" := ⟨_, hz, rfl⟩
  unfold pyNext; exact wpAny_bind (wpAny_attempt (wpAny_callSpecial?_slot (name := Str.ofString "__next__") ty PySem.F.slot_zip_next (wpAny_call_entry PySem.F.slot_zip_next ty PySem.F.entry_zip_next (zipH_item S D1 D2 hz hT hTI st1 st2 lt1 lt2 fun x y h' tk a b c d e g k l => wpAny_pure (hQ x y h' tk a b c d e g k l)) (PySem.F.args_zip_next_1 _))))
theorem nextH_end {Q : Option Value → Shared → Prop} (S : ZipSep2 z TI TO i1 i2 fp1 fp2) (D1 : Draws prog w A.in1 i1 fp1 n1 P1 St1) (D2 : Draws prog w A.in1 i2 fp2 n2 P2 St2) (hz : IsZipHeld s.heap z TI TO T f) (hT : s.heap.get? T = some oT) (hTI : IsTupOf2 s.heap TI (.ref i1) (.ref i2)) (st1 : St1 i s.heap) (st2 : St2 i s.heap) (le1 : i < n1) (e2 : i = n2)
    (hQ : ∀ h' tk, (∀ c o, c ≠ z → c ≠ i1 → c ≠ i2 → s.heap.get? c = some o → h'.get? c = some o) → Q none { s with heap := h', toks := tk }) : wpAny (model prog w) A (pyNext (.ref z)) Q E s := by
  have ty : s.TypeIs (.ref z) "zip" := ⟨_, hz, rfl⟩
  unfold pyNext; refine wpAny_bind (wpAny_attempt (wpAny_callSpecial?_slot (name := Str.ofString "__next__") ty PySem.F.slot_zip_next (wpAny_call_entry PySem.F.slot_zip_next ty PySem.F.entry_zip_next (zipH_end S D1 D2 hz hT hTI st1 st2 le1 e2 fun h' tk e k ⟨o, ho, hc⟩ => ?_) (PySem.F.args_zip_next_1 _))))
  exact wpAny_bind (wpAny_isInstance (T := "StopIteration") (b := true) ⟨o, ho, hc⟩ isSubtype_stop (wpAny_pure (hQ _ _ k)))
end
/-- what list(zip(..)) has made after i turns -/
structure ZL (s s' : Shared) (xs ys : Array Value) (z TI TO i1 i2 l t N i : Nat) (acc : Array Value) : Prop where
  st : s'.gens = s.gens ∧ s'.drawn = s.drawn ∧ s'.os = s.os
  ls : LstAt s'.heap N acc
  sz : acc.size = i
  it : ∀ j, j < i → ∃ x y, xs[j]? = some x ∧ ys[j]? = some y ∧ acc[j]? = some (.ref (N + 1 + j)) ∧ IsTupOf2 s'.heap (N + 1 + j) x y
  kp : ∀ c o, c ≠ z → c ≠ TO → c ≠ i1 → c ≠ i2 → s.heap.get? c = some o → s'.heap.get? c = some o
structure ZJ (s s' : Shared) (xs ys : Array Value) (z TI TO i1 i2 l t N i : Nat) (acc : Array Value) : Prop extends ZL s s' xs ys z TI TO i1 i2 l t N i acc where
  hs : s'.heap.objs.size = N + 1 + i
  s1 : s'.heap.IsListIter i1 l i ∧ s'.heap.IsList l xs
  s2 : s'.heap.IsTupleIter i2 t i ∧ s'.heap.IsTuple t ys
  ti : IsTupOf2 s'.heap TI (.ref i1) (.ref i2)
  z0 : i = 0 → IsZip s'.heap z TI TO .none ∧ IsTupOf2 s'.heap TO .none .none
  z1 : 0 < i → ∃ f, IsZipHeld s'.heap z TI TO (N + 1) f
theorem up_off {h : Heap} {c N : Addr} {v : Value} {o : Obj} (ne : c ≠ N) (e : h.get? c = some o) : (h.update N (Obj.mapSeq (·.push v))).get? c = some o := (Heap.get?_update_other _ _ (Ne.symm ne)).trans e
theorem zj_step {s s1 : Shared} {xs ys acc : Array Value} {z TI TO i1 i2 l t N i tk : Nat} {h' : Heap} {x y : Value} {f : Bool} (j : ZJ s s1 xs ys z TI TO i1 i2 l t N i acc) (lz : z < N) (lO : TO < N) (l1 : i1 < N) (l2 : i2 < N) (lI : TI < N) (ll : l < N) (lt : t < N) (px : xs[i]? = some x) (py : ys[i]? = some y)
    (hz : IsZipHeld h' z TI TO (N + 1) f) (a1 : h'.IsListIter i1 l (i + 1) ∧ h'.IsList l xs) (a2 : h'.IsTupleIter i2 t (i + 1) ∧ h'.IsTuple t ys) (ti : IsTupOf2 h' TI (.ref i1) (.ref i2)) (tup : IsTupOf2 h' s1.heap.objs.size x y) (sz : h'.objs.size = s1.heap.objs.size + 1)
    (kp : ∀ c o, c ≠ z → c ≠ TO → c ≠ i1 → c ≠ i2 → s1.heap.get? c = some o → h'.get? c = some o) (hN : s.heap.objs.size = N) :
    LstAt h' N acc ∧ ZJ s { s1 with heap := h'.update N (Obj.mapSeq (·.push (.ref s1.heap.objs.size))), toks := tk } xs ys z TI TO i1 i2 l t N (i + 1) (acc.push (.ref s1.heap.objs.size)) := by
  obtain ⟨c, hS⟩ := j.ls
  have hS' := kp N _ (Nat.ne_of_gt lz) (Nat.ne_of_gt lO) (Nat.ne_of_gt l1) (Nat.ne_of_gt l2) hS
  have hs := j.hs
  have lw {a k : Nat} (h : a ≤ N) : a < N + 1 + k := by omega
  have gt {a : Addr} {k : Nat} (h : a < N + 1 + k) : (N + 1 + k : Nat) ≠ a := Nat.ne_of_gt h
  refine ⟨⟨c, hS'⟩, ⟨⟨j.st, ⟨_, Heap.get?_update_self (Obj.mapSeq (·.push (.ref s1.heap.objs.size))) hS' rfl⟩, by rw [Array.size_push, j.sz], fun k hk => ?_, fun c o b1 b2 b3 b4 e => ?_⟩, ?_, ⟨?_, ?_⟩, ⟨?_, ?_⟩, up_off (Nat.ne_of_lt lI) ti, fun e => absurd e (Nat.succ_ne_zero i), fun _ => ⟨f, up_off (Nat.ne_of_lt lz) hz⟩⟩⟩
  · by_cases e : k = i
    · subst e
      refine ⟨x, y, px, py, ?_, ?_⟩
      · rw [Array.getElem?_push, if_pos j.sz.symm, hs]
      · rw [← hs]; exact up_off (Nat.ne_of_gt (show N < s1.heap.objs.size by omega)) tup
    · obtain ⟨x', y', b1, b2, b3, b4⟩ := j.it k (by omega)
      refine ⟨x', y', b1, b2, ?_, up_off (gt (a := N) (k := k) (lw (Nat.le_refl N))) (kp _ _ (gt (lw (Nat.le_of_lt lz))) (gt (lw (Nat.le_of_lt lO))) (gt (lw (Nat.le_of_lt l1))) (gt (lw (Nat.le_of_lt l2))) b4)⟩
      rw [Array.getElem?_push, if_neg (by rw [j.sz]; omega)]; exact b3
  · have e1 := j.kp c o b1 b2 b3 b4 e
    have e2 := kp c o b1 b2 b3 b4 e1
    by_cases q : c = N
    · exact absurd (Heap.lt_size e) (by rw [q, hN]; exact Nat.lt_irrefl _)
    · exact up_off q e2
  · show (h'.update N _).objs.size = _
    simp only [Heap.update, Array.size_modify]; omega
  · exact a1.1.at fun o e => up_off (Nat.ne_of_lt l1) e
  · exact a1.2.at fun o e => up_off (Nat.ne_of_lt ll) e
  · exact a2.1.at fun o e => up_off (Nat.ne_of_lt l2) e
  · exact a2.2.at fun o e => up_off (Nat.ne_of_lt lt) e
end Ev

set_option Elab.async false
set_option linter.all false
set_option maxRecDepth 100000
namespace Ev
open PySem PySem.Spec PyProof.Rows L2
theorem zip_nolen : typeLookup (.type "zip") "__len__" = pure none := am_miss_of_fast (by decide +kernel)
theorem zip_nohint : typeLookup (.type "zip") "__length_hint__" = pure none := am_miss_of_fast (by decide +kernel)
section
variable {prog : Program} {w : World} {A : Around} {E : Value → Shared → Prop} {s : Shared} {z TI TO i1 i2 l t : Addr} {xs ys : Array Value}
theorem list_zip {Q : Value → Shared → Prop} (hh : A.handled = none) (hz0 : IsZip s.heap z TI TO .none) (hTI : IsTupOf2 s.heap TI (.ref i1) (.ref i2)) (hTO : IsTupOf2 s.heap TO .none .none) (a1 : s.heap.IsListIter i1 l 0 ∧ s.heap.IsList l xs) (a2 : s.heap.IsTupleIter i2 t 0 ∧ s.heap.IsTuple t ys)
    (S : ZipSep2 z TI TO i1 i2 [i1, l] [i2, t]) (nl : l ≠ i1) (nt : t ≠ i2) (lt : ys.size < xs.size) (hn : ys.size ≤ sizeLine)
    (hQ : ∀ s' acc, ZL s s' xs ys z TI TO i1 i2 l t s.heap.objs.size ys.size acc → Q (.ref s.heap.objs.size) s') : wpAny (model prog w) A (call (.type "list") [.ref z]) Q E s := by
  have lz : z < s.heap.objs.size := Heap.lt_size hz0
  have lO : TO < s.heap.objs.size := Heap.lt_size hTO
  have lI : TI < s.heap.objs.size := Heap.lt_size hTI
  have l1 : i1 < s.heap.objs.size := let ⟨_, h, _⟩ := a1.1; Heap.lt_size h
  have l2 : i2 < s.heap.objs.size := let ⟨_, h, _⟩ := a2.1; Heap.lt_size h
  have ll : l < s.heap.objs.size := by
    obtain ⟨o, h, _⟩ := a1.2
    exact Heap.lt_size h
  have lt' : t < s.heap.objs.size := by
    obtain ⟨o, h, _⟩ := a2.2
    exact Heap.lt_size h
  have D1 {A' : Around} (h : A'.handled = none) := Draws.list (prog := prog) (w := w) h i1 l nl xs
  have D2 {A' : Around} (h : A'.handled = none) := Draws.tuple (prog := prog) (w := w) h i2 t nt ys
  have at_x {j : Nat} (h : j < xs.size) : xs[j]? = some xs[j] := by simp [h]
  have at_y {j : Nat} (h : j < ys.size) : ys[j]? = some ys[j] := by simp [h]
  refine call_listJ zip_nolen zip_nohint (by decide) (by decide) lz (fun h' k => ⟨_, k _ _ hz0, rfl⟩) (fun h' k Q' E' q => wpAny_pyIter_zip (s := { s with heap := h' }) (k _ _ hz0) q) fun R h' k l0 sz fin => ?_
  refine ext_loopJ (n := ys.size) (fun i acc s' => ZJ s s' xs ys z TI TO i1 i2 l t s.heap.objs.size i acc) (fun acc s' => ZL s s' xs ys z TI TO i1 i2 l t s.heap.objs.size ys.size acc) (fun i acc s1 j => ⟨j.ls, j.sz⟩) (fun i acc s1 Q1 E1 hi j h1 => ?_) (fun acc s1 Q1 E1 j h1 => ?_) hn .none ys.size 0 _ #[] rfl (Nat.zero_le _) ?_ (fun s' acc' z => fin s' (hQ s' acc' z))
  · by_cases i0 : i = 0
    · subst i0
      obtain ⟨z0, tO⟩ := j.z0 rfl
      refine wpAny_pyNext_zipD2_item S (D1 hh) (D2 hh) z0 j.ti tO j.s1 j.s2 (Nat.lt_trans hi lt) hi fun x y hx tk px py hz' hO' st1 st2 tup sz' kp => ?_
      have e : s1.heap.objs.size = s.heap.objs.size + 1 := j.hs
      have ti' := kp _ _ S.TIz S.TITO S.TIi1 S.TIi2 j.ti
      obtain ⟨b1, b2⟩ := zj_step (tk := tk) (f := false) j lz lO l1 l2 lI ll lt' px py (by rw [← e]; exact hz') st1 st2 ti' tup sz' kp rfl
      exact h1 _ _ b1 b2
    · obtain ⟨f, hz'⟩ := j.z1 (Nat.pos_of_ne_zero i0)
      obtain ⟨_, _, _, _, _, alive⟩ := j.it 0 (Nat.pos_of_ne_zero i0)
      refine nextH_item S (D1 hh) (D2 hh) hz' alive j.ti j.s1 j.s2 (Nat.lt_trans hi lt) hi fun x y hx tk px py hz2 st1 st2 tup sz' kp => ?_
      have ti' := kp _ _ S.TIz S.TIi1 S.TIi2 j.ti
      obtain ⟨b1, b2⟩ := zj_step (tk := tk) (f := true) j lz lO l1 l2 lI ll lt' px py hz2 st1 st2 ti' tup sz' (fun c o c1 _ c3 c4 e => kp c o c1 c3 c4 e) rfl
      exact h1 _ _ b1 b2
  · have fi : ∀ h' tk, (∀ c o, c ≠ z → c ≠ TO → c ≠ i1 → c ≠ i2 → s1.heap.get? c = some o → h'.get? c = some o) → ZL s { s1 with heap := h', toks := tk } xs ys z TI TO i1 i2 l t s.heap.objs.size ys.size acc := fun h' tk kp => by
      obtain ⟨c, hS⟩ := j.ls
      have gt {a k : Nat} (h : a < s.heap.objs.size) : (s.heap.objs.size + 1 + k : Nat) ≠ a := by omega
      refine ⟨j.st, ⟨c, kp _ _ (Nat.ne_of_gt lz) (Nat.ne_of_gt lO) (Nat.ne_of_gt l1) (Nat.ne_of_gt l2) hS⟩, j.sz, fun k hk => ?_, fun c o c1 c2 c3 c4 e => kp c o c1 c2 c3 c4 (j.kp c o c1 c2 c3 c4 e)⟩
      obtain ⟨x, y, b1, b2, b3, b4⟩ := j.it k hk
      exact ⟨x, y, b1, b2, b3, kp _ _ (gt lz) (gt lO) (gt l1) (gt l2) b4⟩
    by_cases i0 : ys.size = 0
    · obtain ⟨z0, tO⟩ := j.z0 i0
      exact wpAny_pyNext_zipD2_end S (D1 hh) (D2 hh) z0 j.ti tO j.s1 j.s2 (Nat.le_of_lt lt) (Nat.le_refl _) (.inr rfl) fun h' tk kp => h1 _ (fi h' tk kp)
    · obtain ⟨f, hz'⟩ := j.z1 (Nat.pos_of_ne_zero i0)
      obtain ⟨_, _, _, _, _, alive⟩ := j.it 0 (Nat.pos_of_ne_zero i0)
      exact nextH_end S (D1 hh) (D2 hh) hz' alive j.ti j.s1 j.s2 lt rfl fun h' tk kp => h1 _ (fi h' tk fun c o c1 _ c3 c4 e => kp c o c1 c3 c4 e)
  · exact ⟨⟨⟨rfl, rfl, rfl⟩, l0, rfl, (fun j hj => absurd hj (Nat.not_lt_zero j)), fun c o _ _ _ _ e => k c o e⟩, sz, ⟨a1.1.at fun o e => k _ _ e, a1.2.at fun o e => k _ _ e⟩, ⟨a2.1.at fun o e => k _ _ e, a2.2.at fun o e => k _ _ e⟩, k _ _ hTI, fun _ => ⟨k _ _ hz0, k _ _ hTO⟩, fun h => absurd h (Nat.lt_irrefl 0)⟩
end
end Ev

set_option Elab.async false
set_option linter.all false
set_option maxRecDepth 100000
namespace Ev
open PySem PySem.Spec PyProof.Rows L2
/-! ### rows of new pairs, tracked -/
def tupsU (H : Hp) (B : Nat) (vs : List (V × V)) (k : Nat) : Hp := fun (a : Nat) => if B ≤ a ∧ a < B + k then (vs[a - B]?).map fun p => .tup [p.1, p.2] else H a
theorem tupsU_0 (H : Hp) (B : Nat) (vs : List (V × V)) : tupsU H B vs 0 = H := by
  refine funext fun (a : Nat) => ?_
  unfold tupsU
  rw [if_neg (by omega)]
theorem tupsU_s (H : Hp) (B k : Nat) (vs : List (V × V)) {p : V × V} (h : vs[k]? = some p) : tupsU H B vs (k + 1) = upd (tupsU H B vs k) (B + k) (.tup [p.1, p.2]) := by
  refine funext fun (a : Nat) => ?_
  by_cases e : a = B + k
  · subst e
    rw [upd_same]
    unfold tupsU
    rw [if_pos (by omega), Nat.add_sub_cancel_left, h]; rfl
  · rw [upd_ne e]
    unfold tupsU
    by_cases q : B ≤ a ∧ a < B + k
    · rw [if_pos q, if_pos (by omega)]
    · rw [if_neg q, if_neg (by omega)]
theorem tupsU_off {H : Hp} {B k : Nat} {a : Nat} {vs : List (V × V)} (h : a < B ∨ B + k ≤ a) : tupsU H B vs k a = H a := by
  unfold tupsU
  rw [if_neg (by omega)]
theorem lay_tups {X : Cx} {pins : List (Addr × Obj)} {σ : L2.St} {H : Hp} {s : Shared} {h : Heap} {B : Nat} {vs : List (V × V)} (I : Inv X pins σ H s) (hB : s.heap.objs.size ≤ B) (kp : ∀ b o, s.heap.get? b = some o → h.get? b = some o)
    (hv : ∀ j p, vs[j]? = some p → ∃ x y, RelV p.1 x ∧ RelV p.2 y ∧ IsTupOf2 h (B + j) x y) : ∀ k, k ≤ vs.length →
    ∃ G : Heap, Inv X pins σ (tupsU H B vs k) { s with heap := G } ∧ (∀ b o, G.get? b = some o → h.get? b = some o) ∧ ∀ b : Nat, (s.heap.objs.size ≤ b ∧ b < B) ∨ B + k ≤ b → G.get? b = none
  | 0, _ => ⟨s.heap, by rw [tupsU_0]; exact I, kp, fun b hb => by
      cases e : s.heap.get? b with
      | none => rfl
      | some o => exact absurd (Heap.lt_size e) (by have : s.heap.objs.size ≤ b := by have hB' : (s.heap.objs.size : Nat) ≤ B := hB; omega
                                                    exact Nat.not_lt_of_le this)⟩
  | k + 1, hk => by
    obtain ⟨G, J, k1, k2⟩ := lay_tups I hB kp hv k (by omega)
    have hp : vs[k]? = some vs[k] := List.getElem?_eq_getElem (by omega)
    obtain ⟨x, y, rx, ry, tt⟩ := hv k _ hp
    obtain ⟨G2, g1, g2⟩ := L2.restrict h fun b => (G.get? b).isSome || b == B + k
    have up : ∀ b o, G.get? b = some o → G2.get? b = some o := fun b o e => by rw [g1 b (by rw [e]; rfl)]; exact k1 b o e
    have at_ : G2.get? (B + k) = some { cls := .type "tuple", data := .seq #[x, y] } := by rw [g1 (B + k) (by simp)]; exact tt
    refine ⟨G2, ?_, fun b o e => ?_, fun b hb => ?_⟩
    · rw [tupsU_s H B k vs hp]
      have := J.laidN (a := B + k) (o := .tup [vs[k].1, vs[k].2]) (h' := G2) (t' := s.toks) up (k2 _ (.inr (Nat.le_refl _))) (by rw [tupsU_off (.inr (Nat.le_refl _))]; exact I.hok.fresh (show s.heap.objs.size ≤ B + k by omega)) ⟨(show 2 ≤ sizeLine by decide), [x, y], .cons rx (.cons ry .nil), ⟨_, at_, rfl, _, rfl⟩⟩
      exact this
    · cases q : ((G.get? b).isSome || b == B + k) with
      | true => rw [g1 b q] at e; exact e
      | false => rw [g2 b q] at e; cases e
    · have ne : (b == B + k) = false := by
        rw [beq_eq_false_iff_ne]; omega
      refine g2 b ?_
      rw [k2 b (by omega)]; exact ne
end Ev

set_option Elab.async false
set_option linter.all false
set_option maxRecDepth 100000
namespace Ev
open PySem PySem.Spec PyProof.Rows L2
/-! ### list(zip(a list, a shorter tuple)): a new list of new pairs -/
def refsU (B n : Nat) : List V := (List.range n).map fun j => V.ref (B + j)
def tLZ (K : PySem.W.Frag) (ta : TA) : TE := fun σ H Q => ta σ H fun us H1 => ∃ (a b : Addr) (vs ws : List V), us = [.ref a, .ref b] ∧ SqL K H1 a vs ∧ SqT K H1 b ws ∧ ws.length < vs.length ∧
  ∀ N : Nat, (∀ c : Nat, N ≤ c → H1 c = none) → Q (.ref N) (upd (tupsU H1 (N + 1) (vs.zip ws) ws.length) N (.lst (refsU (N + 1) ws.length)))
theorem pe_listZip {X : Cx} {e e2 : Expr} {ta : TA} {p p2 pos pos2 : Pos} (hc : X.calm = true) (hgl : Gl X "list") (hml : X.mg "list" = none) (hgz : Gl X "zip") (hmz : X.mg "zip" = none) (ha : PA X [e, e2] ta) (hs : starEach [e, e2] X.env = (false, eval e X.env) :: starEach [e2] X.env) (hpl : (backTo pos2 (starEach [e2] X.env)).any (·.1) = false) :
    PE X (.Call (.Name "list" p) [.Call (.Name "zip" p2) [e, e2] [] pos2] [] pos) (tLZ X.K ta) := by
  refine ⟨fun pins s σ H Q I h => Call_ (ld_blt I hgl hml Pv.boot_list (PyProof.Rows.callWith_type1 (Calls.spliced_cons ?_) rfl rfl))⟩
  refine Call_ (ld_blt I hgz hmz PyProof.Rows.boot_zip (PyProof.Rows.callWith_type1 (thn (ha.run pos2 pins s σ H _ I h) fun us s1 ⟨vs0, H1, I1, r1, q1⟩ => ?_) hs hpl))
  obtain ⟨a, b, vs, ws, rfl, k1, k2, lt, q⟩ := q1
  obtain ⟨u1, u2, rfl, ru1, ru2⟩ := vals2 r1
  cases (show u1 = Value.ref a from ru1)
  cases (show u2 = Value.ref b from ru2)
  obtain ⟨xs, rx, ⟨ox, nx, hox, hcx, _, hdx⟩, lx⟩ := I1.list k1
  obtain ⟨ys, ry, ⟨oy, hoy, hcy, ny, hdy⟩, ly⟩ := I1.tuple k2
  have L1 : s1.heap.IsList a xs.toArray := ⟨ox, hox, hcx, nx, hdx⟩
  have L2 : s1.heap.IsTuple b ys.toArray := ⟨oy, hoy, hcy, ny, hdy⟩
  have la := Heap.lt_size hox
  have lb := Heap.lt_size hoy
  have ex : xs.length = vs.length := rx.length.symm
  have ey : ys.length = ws.length := ry.length.symm
  refine zip_begins2 (begins_list a xs.toArray) (begins_tuple b ys.toArray) L1 L2 fun h' hz hTI hTO g1 g2 hsz hk => Calls.spliced_nil ?_
  show wpAny (model X.prog X.w) X.A (call (.type "list") [.ref (s1.heap.objs.size + 4)]) _ _ _
  refine list_zip (s := { s1 with heap := h' }) (l := a) (t := b) (xs := xs.toArray) (ys := ys.toArray) (I.ok.hd hc) hz hTI hTO ⟨⟨_, g1, rfl, rfl⟩, L1.at fun o e => hk _ _ e⟩ ⟨⟨_, g2, rfl, rfl⟩, L2.at fun o e => hk _ _ e⟩ (zip_sep2 (fp1 := [a]) (fp2 := [b]) (fun c m => by rw [List.mem_singleton] at m; rw [m]; exact la) (fun c m => by rw [List.mem_singleton] at m; rw [m]; exact lb)) (Nat.ne_of_lt la) (Nat.ne_of_lt (Nat.lt_succ_of_lt lb)) (by simp; omega) (by simp; omega) fun s' acc zl => ?_
  have sN : (h'.objs.size : Nat) = s1.heap.objs.size + 5 := hsz
  have keep : ∀ c o, s1.heap.get? c = some o → s'.heap.get? c = some o := fun c o e => by
    have lc : (c : Nat) < s1.heap.objs.size := Heap.lt_size e
    have ne (k : Nat) : c ≠ s1.heap.objs.size + k := Nat.ne_of_lt (Nat.lt_of_lt_of_le lc (Nat.le_add_right _ _))
    exact zl.kp c o (ne 4) (ne 3) (ne 0) (ne 1) (hk c o e)
  have nn : (vs.zip ws).length = ws.length := by rw [List.length_zip]; omega
  have hv : ∀ j p, (vs.zip ws)[j]? = some p → ∃ x y, RelV p.1 x ∧ RelV p.2 y ∧ IsTupOf2 s'.heap (h'.objs.size + 1 + j) x y := fun j p hp => by
    obtain ⟨e1, e2⟩ := List.getElem?_zip_eq_some.mp hp
    have hj : j < ws.length := (List.getElem?_eq_some_iff.mp e2).1
    obtain ⟨x, y, h1, h2, _, h4⟩ := zl.it j (show j < ys.toArray.size by rw [List.size_toArray, ey]; exact hj)
    obtain ⟨x', h5, r5⟩ := rx.get e1
    obtain ⟨y', h6, r6⟩ := ry.get e2
    rw [List.getElem?_toArray, h5] at h1
    rw [List.getElem?_toArray, h6] at h2
    cases h1; cases h2
    exact ⟨_, _, r5, r6, h4⟩
  obtain ⟨G, J, k3, k4⟩ := lay_tups (B := h'.objs.size + 1) I1 (by show (s1.heap.objs.size : Nat) ≤ h'.objs.size + 1; omega) keep hv ws.length (by omega)
  obtain ⟨c, hS⟩ := zl.ls
  have hN : tupsU H1 (h'.objs.size + 1) (vs.zip ws) ws.length h'.objs.size = none := by
    rw [tupsU_off (a := h'.objs.size) (.inl (Nat.lt_succ_self _))]
    exact I1.hok.fresh (show (s1.heap.objs.size : Nat) ≤ h'.objs.size by omega)
  have hn : acc.toList.length = ws.length := by have := zl.sz; simp at this; simp; omega
  have items : Vals (refsU (h'.objs.size + 1) ws.length) acc.toList := by
    have : acc.toList = (List.range ws.length).map fun j => Value.ref (h'.objs.size + 1 + j) := List.ext_getElem? fun j => by
      by_cases hj : j < ws.length
      · obtain ⟨_, _, _, _, h3, _⟩ := zl.it j (show j < ys.toArray.size by rw [List.size_toArray, ey]; exact hj)
        rw [Array.getElem?_toList, h3, List.getElem?_map, List.getElem?_range hj]; rfl
      · rw [List.getElem?_eq_none (by omega), List.getElem?_eq_none (by simp; omega)]
    rw [this]
    unfold refsU
    generalize List.range ws.length = r
    induction r with
    | nil => exact .nil
    | cons j r ih => exact .cons rfl ih
  have K := J.laidN (a := h'.objs.size) (o := .lst (refsU (h'.objs.size + 1) ws.length)) (h' := s'.heap) (t' := s'.toks) k3 (k4 _ (.inl ⟨by omega, Nat.lt_succ_self _⟩)) hN ⟨by rw [items.length, hn, ← ey]; omega, acc.toList, c, items, hS⟩
  obtain ⟨e1, e2, e3⟩ := zl.st
  obtain ⟨hx, gx, dx, tx, ox'⟩ := s'
  cases e1; cases e2; cases e3
  exact ⟨.ref h'.objs.size, _, K, rfl, q h'.objs.size fun d hd => I1.hok.fresh (show (s1.heap.objs.size : Nat) ≤ d by omega)⟩
end Ev

set_option Elab.async false
set_option linter.all false
set_option maxRecDepth 100000
namespace Ev
open PySem PySem.Spec PyProof.Rows L2
/-! ### list(zip(a, b)) by data -/
def zipP (xs ys : List D) : List D := (xs.zip ys).map fun p => .tup [p.1, p.2]
def lzF : List D → Option S
  | [.lst xs, .tup ys] => if ys.length < xs.length then some (.own (zipP xs ys)) else none
  | _ => none
def lzM (ma mb : M R) : M R := bindM (argsM [ma, mb]) fun ds => liftOp (lzF ds)
theorem growU {F H : Hp} {B : Nat} {vs : List (V × V)} (fh : Fit F H) (fr : ∀ c : Nat, B ≤ c → H c = none) : ∀ k, k ≤ vs.length → Grow F H (tupsU F B vs k) (tupsU H B vs k)
  | 0, _ => by rw [tupsU_0, tupsU_0]; exact Grow.refl fh
  | k + 1, hk => by
    have ih := growU (B := B) (vs := vs) fh fr k (by omega)
    have hp : vs[k]? = some vs[k] := List.getElem?_eq_getElem (by omega)
    rw [tupsU_s F B k vs hp, tupsU_s H B k vs hp]
    exact ih.trans (grow_tup ih.fh (by rw [tupsU_off (.inr (Nat.le_refl _))]; exact fr _ (Nat.le_add_right _ _)))
theorem rpU {g : Gx} {F : Hp} {B : Nat} : ∀ {vs ws : List V} {xs ys : List D} {G : Hp} (k : Nat), RpA g F vs xs → RpA g F ws ys → Same F G → (∀ j p, (vs.zip ws)[j]? = some p → G (B + (k + j) : Nat) = some (.tup [p.1, p.2])) → RpA g G ((List.range' k (vs.zip ws).length).map fun j => V.ref (B + j)) (zipP xs ys)
  | [], _, _, _, _, k, .nil, _, _, _ => .nil
  | _ :: _, [], _, _, _, k, .cons _ _, .nil, _, _ => .nil
  | v :: vs, w :: ws, _, _, G, k, .cons (d := d) (ds := xs) r1 r2, .cons (d := e) (ds := ys) q1 q2, sf, h => by
    have h0 := h 0 (v, w) rfl
    have ih := rpU (k + 1) r2 q2 sf fun j p hp => by
      have := h (j + 1) p (by simpa using hp)
      rw [show k + 1 + j = k + (j + 1) by omega]; exact this
    show RpA g G (V.ref (B + k) :: (List.range' (k + 1) (vs.zip ws).length).map _) (D.tup [d, e] :: zipP xs ys)
    exact .cons (.tup (.inl (.inl h0)) (.cons (Rp.mono sf _ _ r1) (.cons (Rp.mono sf _ _ q1) .nil))) ih
section
variable {X : Cx} {E : WS} {e e2 : Expr} {p p2 pos pos2 : Pos} {ma mb : M R}
theorem pr_lz (hc : X.calm = true) (hgl : Gl X "list") (hml : X.mg "list" = none) (hgz : Gl X "zip") (hmz : X.mg "zip" = none) (ha : PE X e (tR (gx X) E ma)) (hb : PE X e2 (tR (gx X) E mb)) (hs : starEach [e, e2] X.env = (false, eval e X.env) :: starEach [e2] X.env) (hs2 : starEach [e2] X.env = [(false, eval e2 X.env)]) (hpl : (backTo pos2 (starEach [e2] X.env)).any (·.1) = false) :
    PE X (.Call (.Name "list" p) [.Call (.Name "zip" p2) [e, e2] [] pos2] [] pos) (tR (gx X) E (lzM ma mb)) := by
  refine (pe_listZip hc hgl hml hgz hmz (pa_args ha (pa_args hb pa_args_nil hs2) hs) hs hpl).imp fun σ H Q ⟨O, F, δ, M, w⟩ => ⟨O, F, δ, M, wp_mono (wp_bind w) fun F1 H1 δ1 ds s1 M1 w1 us hv => ?_⟩
  unfold wp liftOp at w1
  cases el : lzF ds with
  | none => rw [el] at w1; exact w1.elim
  | some s =>
    rw [el] at w1
    unfold lzF at el
    split at el
    · rename_i xs ys
      split at el
      · rename_i hlt
        cases el
        obtain ⟨v1, v2, rfl, h1, h2⟩ : ∃ v1 v2, us = [v1, v2] ∧ Rp (gx X) F1 v1 (.lst xs) ∧ Rp (gx X) F1 v2 (.tup ys) := by
          cases hv with
          | cons h1 t => cases t with
            | cons h2 t2 => cases t2; exact ⟨_, _, rfl, h1, h2⟩
        cases h1 with
        | lst q1 r1 => cases h2 with
          | tup q2 r2 =>
          rename_i a vs b ws
          refine ⟨a, b, vs, ws, rfl, .inl (.inl (M1.fh.of q1)), fit_tup M1.fh q2, by rw [r1.length, r2.length]; exact hlt, fun N fr => ?_⟩
          have nn : (vs.zip ws).length = ws.length := by rw [List.length_zip, r1.length, r2.length]; omega
          have k1 := growU (B := N + 1) (vs := vs.zip ws) M1.fh (fun c hc' => fr c (by omega)) ws.length (by omega)
          have hN : tupsU H1 (N + 1) (vs.zip ws) ws.length N = none := by rw [tupsU_off (a := N) (.inl (Nat.lt_succ_self N))]; exact fr N (Nat.le_refl _)
          have k2 := k1.trans (grow_lst (vs := refsU (N + 1) ws.length) k1.fh hN)
          refine w1 _ _ k2.ff (M1.grow k2) _ (M1.new (s := .own (zipP xs ys)) k2 ⟨N, _, rfl, fr N (Nat.le_refl _), upd_same, ⟨_, rfl, ?_⟩, k1.fh.free hN⟩)
          have := rpU (B := N + 1) (G := tupsU F1 (N + 1) (vs.zip ws) ws.length) 0 r1 r2 k1.ff fun j p' hp => by
            have hj : j < ws.length := by have := (List.getElem?_eq_some_iff.mp hp).1; omega
            unfold tupsU
            rw [if_pos (by omega), show N + 1 + (0 + j) - (N + 1) = j by omega, hp]; rfl
          rw [nn, ← List.range_eq_range'] at this
          exact this
      · cases el
    · cases el
end
end Ev

set_option Elab.async false
set_option linter.all false
set_option maxRecDepth 100000
namespace Ev
open PySem PySem.Spec PyProof.Rows L2

/-! ### a call that lends what slots hold alone: told back as it was, where the result is plain -/
def D.flat : D → Bool
  | .non => true
  | .bl _ => true
  | .int _ => true
  | .str _ => true
  | .ty _ => true
  | _ => false
theorem flat_rp {g : Gx} {F F' : Hp} {v : V} {d : D} (h : d.flat = true) (r : Rp g F v d) : Rp g F' v d := by
  cases r <;> first | (constructor; done) | cases h
theorem flat_rpA {g : Gx} {F F' : Hp} : ∀ {vs : List V} {ds : List D}, ds.all D.flat = true → RpA g F vs ds → RpA g F' vs ds
  | _, _, _, .nil => .nil
  | _, _, h, .cons a b => by
    rw [List.all_cons, Bool.and_eq_true] at h
    exact .cons (flat_rp h.1 a) (flat_rpA h.2 b)
def flatCs (cs : List (List D)) : Bool := cs.all (·.all D.flat)
def lendEnd (mi : Nat) (fn : Fn) (os : List Op) : M R := fun δ => match δ[mi]? with
  | some (some (.mem cs)) => match vals δ os with
    | none => none
    | some ds => match fn (ds.map S.d ++ [S.mem cs]) with
      | some (.ok (.d r) δo) => match δo[os.length]? with
        | some (some (.mem cs')) => if r.flat = true ∧ flatCs cs' = true ∧ cs'.length = cs.length then some (.ok (.d r) (δ.set mi (some (.mem cs')))) else none
        | _ => none
      | _ => none
  | _ => none
section
variable {g : Gx} {O F H : Hp} {σ : L2.St} {δ : Dl} {i : Nat}
theorem Ms.frzSlotX {s : S} (M : Ms g O F H σ δ) (hi : δ[i]? = some (some s)) (ho : s.isOwn = true) : ∃ a o, σ[i]? = some (some (.ref a)) ∧ H a = some o ∧ isMk o = false ∧ Same F (upd F a o) ∧ Ms g O (upd F a o) H σ (δ.set i (some (.d s.dat))) ∧ Rp g (upd F a o) (.ref a) s.dat := by
  obtain ⟨v, ev, a, vs, rfl, e, r, f, o⟩ := M.sw hi ho
  obtain ⟨s1, s2⟩ := Grow.frz M.fh e f
  have rp : Rp g (upd F a vs) (.ref a) s.dat := (r.mono s1).rp upd_same
  refine ⟨a, vs, ev, e, r.mkf, s1, ⟨s2, M.oh, frz_dj M.dj o, fun j t h hm => ?_, fun j k t u w h1 h2 o1 o2 h3 h4 => ?_, fun j cs h => ?_, M.m1.set (fun _ z => nomatch z)⟩, rp⟩
  · rcases get_set_of h with ⟨e1, e2⟩ | ⟨ne, h'⟩
    · subst e1; cases e2; exact ⟨_, ev, rp⟩
    · obtain ⟨w, ew, rw'⟩ := M.sl j t h' hm
      exact ⟨w, ew, rw'.frz s1 fun ho' z => by subst z; exact ne (M.ap i j s t _ hi h' ho ho' ev ew)⟩
  · rcases get_set_of h1 with ⟨_, z⟩ | ⟨_, h1'⟩
    · cases z; cases o1
    rcases get_set_of h2 with ⟨_, z⟩ | ⟨_, h2'⟩
    · cases z; cases o2
    exact M.ap j k t u w h1' h2' o1 o2 h3 h4
  · rcases get_set_of h with ⟨_, z⟩ | ⟨_, h'⟩
    · cases z
    · exact (M.mm j cs h').frz s1 r.mkf
/-- what the operands are worth, frozen; what's frozen is told -/
theorem Ms.frzOs (M : Ms g O F H σ δ) : ∀ {vs : List V} {os : List Op} {ds : List D}, RpOs g F σ vs os → vals δ os = some ds →
    ∃ F1 δ1, Same F F1 ∧ Ms g O F1 H σ δ1 ∧ RpA g F1 vs ds ∧ (∀ (j : Nat) cs, δ[j]? = some (some (.mem cs)) → δ1[j]? = some (some (.mem cs))) ∧
      (∀ (j : Nat) t, δ[j]? = some (some t) → t.isOwn = true → δ1[j]? = some (some t) ∨ ∃ a o, σ[j]? = some (some (.ref a)) ∧ F1 a = some o ∧ H a = some o ∧ isMk o = false)
  | _, _, _, .nil, e => by cases e; exact ⟨F, δ, Same.refl _, M, .nil, fun _ _ h => h, fun _ _ h _ => .inl h⟩
  | _, _, _, .cons (v := v) (vs := vs) (o := o) (os := os) a b, e => by
    simp only [vals] at e
    split at e
    · rename_i d ds e1 e2
      cases e
      obtain ⟨F1, δ1, s1, M1, r1, m1, p1⟩ := M.frzOs b e2
      cases o with
      | d x =>
        simp only [Op.val] at e1
        cases e1
        exact ⟨F1, δ1, s1, M1, .cons (Rp.mono s1 _ _ a) r1, m1, p1⟩
      | slot i =>
        have a' : σ[i]? = some (some v) := a
        have key : ∀ t : S, t.isOwn = true → δ[i]? = some (some t) → d = t.dat →
            ∃ F1 δ1, Same F F1 ∧ Ms g O F1 H σ δ1 ∧ RpA g F1 (v :: vs) (d :: ds) ∧ (∀ (j : Nat) cs, δ[j]? = some (some (.mem cs)) → δ1[j]? = some (some (.mem cs))) ∧
              (∀ (j : Nat) t, δ[j]? = some (some t) → t.isOwn = true → δ1[j]? = some (some t) ∨ ∃ a o, σ[j]? = some (some (.ref a)) ∧ F1 a = some o ∧ H a = some o ∧ isMk o = false) := fun t ho ht ed => by
          subst ed
          rcases p1 i t ht ho with h1 | ⟨c, o, ec, f1, h1, mk⟩
          · obtain ⟨c, o, ec, h2, mk, s2, M2, rp⟩ := M1.frzSlotX h1 ho
            rw [a'] at ec; cases ec
            refine ⟨upd F1 c o, _, s1.trans s2, M2, .cons rp (r1.mono s2 _ _), fun j cs hj => ?_, fun j u hj hu => ?_⟩
            · have ne : i ≠ j := fun z => by
                subst z
                rw [ht] at hj; cases hj; cases ho
              rw [List.getElem?_set_ne ne]; exact m1 j cs hj
            · by_cases z : i = j
              · subst z
                exact .inr ⟨c, o, a', upd_same, h2, mk⟩
              · rcases p1 j u hj hu with q | ⟨b', o', q1, q2, q3, q4⟩
                · exact .inl (by rw [List.getElem?_set_ne z]; exact q)
                · exact .inr ⟨b', o', q1, s2 _ _ q2, q3, q4⟩
          · rw [a'] at ec; cases ec
            obtain ⟨w, ew, c', o', rfl, h2, r2, _, _⟩ := M.sw ht ho
            rw [a'] at ew; cases ew
            rw [h1] at h2; cases h2
            exact ⟨F1, δ1, s1, M1, .cons ((r2.mono s1).rp f1) r1, m1, p1⟩
        simp only [Op.val] at e1
        split at e1
        · rename_i x hx
          cases e1
          obtain ⟨w, ew, rw'⟩ := M.sd hx
          rw [a'] at ew; cases ew
          exact ⟨F1, δ1, s1, M1, .cons (Rp.mono s1 _ _ rw') r1, m1, p1⟩
        · rename_i xs hx
          cases e1
          exact key _ rfl hx rfl
        · rename_i ks xs hx
          cases e1
          exact key _ rfl hx rfl
        · cases e1
    · cases e
theorem ssOf_d {δ : Dl} : ∀ ds : List D, ssOf δ (ds.map Op.d) = some (ds.map S.d)
  | [] => rfl
  | d :: ds => by simp [ssOf, ssOf_d ds]
theorem slotsIn_d : ∀ ds : List D, slotsIn (ds.map Op.d) = []
  | [] => rfl
  | d :: ds => by simp [slotsIn, slotsIn_d ds]
theorem lend_exit {F1 F' H' : Hp} {δ1 δo : Dl} {vs : List V} {ds : List D} {cs cs' : List (List D)} {mi n : Nat} (M : Ms g O F H σ δ) (s1 : Same F F1) (M1 : Ms g O F1 H σ δ1)
    (p1 : ∀ (j : Nat) t, δ[j]? = some (some t) → t.isOwn = true → δ1[j]? = some (some t) ∨ ∃ a o, σ[j]? = some (some (.ref a)) ∧ F1 a = some o ∧ H a = some o ∧ isMk o = false)
    (hm : δ[mi]? = some (some (.mem cs))) (ho : δo[n]? = some (some (.mem cs'))) (fl : flatCs cs' = true) (hl : cs'.length = cs.length) (s : Same F1 F') (M' : Ms g (outO O H σ δ1 (ds.map Op.d)) F' H' (vs.map some) δo) :
    Ms g O F H' σ (δ.set mi (some (.mem cs'))) := by
  have old : ∀ {i : Nat} {t : S}, (δ.set mi (some (.mem cs')))[i]? = some (some t) → t.isMem = false → δ[i]? = some (some t) := fun h hm' => by
    rcases get_set_of h with ⟨_, z⟩ | ⟨_, h'⟩
    · cases z; cases hm'
    · exact h'
  have s' := s1.trans s
  refine ⟨M'.fh.dn s', fun a o h => ?_, M.dj, fun i t h hm' => ?_, fun i j t u v h1 h2 o1 o2 h3 h4 => ?_, fun i es h => ?_, fun i j es fs h1 h2 => ?_⟩
  · rcases outO_cases (O := O) (H := H) (σ := σ) (δ := δ1) (os := ds.map Op.d) a with ⟨⟨j, s, h1, ho, h2, _⟩, _⟩ | ⟨_, e⟩
    · have := (M1.own_at h1 ho h2).choose_spec.2.2.2
      rw [this] at h; cases h
    · exact M'.oh _ _ (by rw [e]; exact h)
  · have hd := old h hm'
    obtain ⟨v, ev, rv⟩ := M.sl i t hd hm'
    refine ⟨v, ev, ?_⟩
    have key : t.isOwn = true → OwnedS g O F H v t → OwnedS g O F H' v t := fun ht ⟨a, us, e0, e1, e2, e3, e4⟩ => by
      subst e0
      refine ⟨a, us, rfl, ?_, e2, e3, e4⟩
      rcases p1 i t hd ht with q | ⟨b, o, q1, q2, q3, q4⟩
      · exact M'.oh _ _ (by rw [outO_in q ht ev (by rw [slotsIn_d]; exact List.not_mem_nil)]; exact e1)
      · rw [ev] at q1; cases q1
        rw [e1] at q3; cases q3
        exact M'.fh.rd _ _ (s _ _ q2) q4
    cases t with
    | d x => exact rv
    | own xs => exact key rfl rv
    | od ks xs => exact key rfl rv
    | mem cs => cases hm'
  · exact M.ap i j t u v (old h1 (own_nm o1)) (old h2 (own_nm o2)) o1 o2 h3 h4
  · rcases get_set_of h with ⟨_, z⟩ | ⟨ne, h'⟩
    · cases z
      have c' := M'.mm _ _ ho
      have c := M.mm _ _ hm
      refine ⟨fun b k q => ?_, fun k xs q => ?_, fun a b k q1 q2 => c'.one a b k (s' _ _ q1) (s' _ _ q2)⟩
      · obtain ⟨xs, us, h1, h2, h3, h4⟩ := c'.at_ b k (s' _ _ q)
        exact ⟨xs, us, h1, h2, flat_rpA (List.all_eq_true.mp fl xs (List.mem_of_getElem? h1)) h3, outO_none M1 h4⟩
      · have hk : k < cs.length := by rw [← hl]; exact (List.getElem?_eq_some_iff.mp q).1
        exact c.all k _ (List.getElem?_eq_getElem hk)
    · exact absurd (M.m1 _ _ _ _ hm h') ne
  · rcases get_set_of h1 with ⟨e1, _⟩ | ⟨ne, h1'⟩
    · rcases get_set_of h2 with ⟨e2, _⟩ | ⟨ne2, h2'⟩
      · omega
      · exact absurd (M.m1 _ _ _ _ hm h2') ne2
    · exact absurd (M.m1 _ _ _ _ hm h1') ne
theorem lendEnd_ok {E : WS} {n mi : Nat} {fn : Fn} {os : List Op} {vs : List V} {Q : VK} (M : Ms g O F H σ δ) (r : RpOs g F σ vs os) (hn : os.length = n)
    (w : wp g O F σ δ (lendEnd mi fn os) (fun F' H' δ' r => ∀ v, RpR g O F' H' σ δ' v r → Q v H') (eE g (E σ))) : spOf g n fn vs H Q (E σ) := by
  unfold wp lendEnd at w
  split at w
  · exact w.elim
  · rename_i a δ' ew
    split at ew
    · rename_i cs em
      split at ew
      · cases ew
      · rename_i ds ev
        split at ew
        · rename_i d δo ef
          split at ew
          · rename_i cs' ec
            split at ew
            · rename_i hc
              cases ew
              obtain ⟨F1, δ1, s1, M1, r1, m1, p1⟩ := M.frzOs r ev
              have ln : ds.length = n := by rw [← r1.length, r.len, hn]
              refine ⟨by rw [r.len, hn], outO O H σ δ1 (ds.map Op.d), F1, ds.map S.d, cs, by rw [List.length_map, ln], M1.entry r1.ops (ssOf_d ds) (by rw [slotsIn_d]; exact List.nodup_nil) (m1 mi cs em), ?_⟩
              unfold wp
              simp only
              rw [ef]
              intro F' H' s' M' v hv
              exact w F H' (Same.refl _) (lend_exit M s1 M1 p1 em ec hc.2.1 hc.2.2 s' M') v (flat_rp hc.1 hv)
            · cases ew
          · cases ew
        · cases ew
    · cases ew
  · rename_i e δ' ew
    split at ew
    · split at ew
      · cases ew
      · split at ew
        · split at ew
          · split at ew <;> cases ew
          · cases ew
        · cases ew
    · cases ew
end
def callL (mi : Nat) (fn : Fn) (sel : List Nat) (dd : List D) (as : List Ag) (kw : List (M R)) : M R := bindM (agsM as) fun os => bindM (argsM kw) fun zs => lendEnd mi fn (pick sel (os ++ zs.map Op.d ++ dd.map Op.d))
section
variable {X : Cx} {E : WS} {e : Expr} {es : List Expr} {kws : List Keyword} {x : Str} {p pos : Pos} {n np : Nat} {ks : List Str} {dd : List D} {sel : List Nat} {fn : Fn} {mi : Nat}
theorem run_L {pins : List (Addr × Obj)} {σ : L2.St} {H O F : Hp} {δ : Dl} {s : Shared} {Q : VK} {us ws : List Value} {vs zs : List V} {os : List Op} {zd : List D} (I : Inv X pins σ H s) (hsl : ∀ {α : Type} (l : List α), l.length = np + ks.length + dd.length → (pick sel l).length = n)
    (hx : ∀ σ, PassesAt (L2.CX X.prog X.w) X σ (E σ)) {f : Addr} {fd : FuncData} {ps : List Str} {k : Nat} {dvs : List V} {ds : List Value} (Fo : FnG X.prog X.w X.K X.mg X.base k f fd ps (spOf (gx X) n fn)) (hgd : X.A.guards = some []) (hr : Room k X.A) (rd : Vals dvs ds) (rdd : ∀ F, RpA (gx X) F dvs dd)
    (hb : ∀ (s : Shared) (us ws : List Value), X.K.In s.heap → us.length = np → ws.length = ks.length → BindsTo s fd ⟨us, ks.zip ws⟩ (ps.zip (pick sel (us ++ ws ++ ds)))) (r : Vals vs us) (rz : Vals zs ws) (ln : vs.length = np) (lk : zs.length = ks.length) (M : Ms (gx X) O F H σ δ) (ro : RpOs (gx X) F σ vs os) (rzd : RpA (gx X) F zs zd)
    (w : wp (gx X) O F σ δ (lendEnd mi fn (pick sel (os ++ zd.map Op.d ++ dd.map Op.d))) (fun F' H' δ' r => ∀ v, RpR (gx X) O F' H' σ δ' v r → Q v H') (eE (gx X) (E σ))) :
    wpAny (model X.prog X.w) X.A (call (.ref f) us (ks.zip ws)) (EP X pins σ Q) X.xe s := by
  have rfull : Vals (pick sel (vs ++ zs ++ dvs)) (pick sel (us ++ ws ++ ds)) := Vals.pick ((r.append rz).append rd) sel
  have ro2 : RpOs (gx X) F σ (pick sel (vs ++ zs ++ dvs)) (pick sel (os ++ zd.map Op.d ++ dd.map Op.d)) := RpOs.pick ((ro.append rzd.ops).append (rdd F).ops) sel
  have hl : (pick sel (os ++ zd.map Op.d ++ dd.map Op.d)).length = n := hsl _ (by rw [List.length_append, List.length_append, List.length_map, List.length_map, ← ro.len, ← rzd.length, ln, lk])
  have sp := lendEnd_ok (n := n) M ro2 hl w
  refine wpAny_call (codeAny_mono (Fo.go X.A X.stack s H ⟨us, ks.zip ws⟩ _ _ Q (E σ) hr hgd I.env0 (hb s us ws I.kIn (by rw [← r.length, ln]) (by rw [← rz.length, lk])) rfull sp) fun r s' hq => ?_)
  cases r with
  | error e => exact hx σ pins H s e s' I hq
  | ok fl =>
    cases fl with
    | ret u => exact I.after hq
    | next => exact False.elim hq
    | brk => exact False.elim hq
    | cont => exact False.elim hq
theorem pr_callL {as : List Ag} {kw : List (M R)} (hh : HasP X E x n np ks dd sel fn) (hg : Gl X x) (ha : PA X (e :: es) (tOs (gx X) E (agsM as))) (hkw : PK X kws (tAs (gx X) E (argsM kw))) (hl : as.length = np) (hlk : kw.length = ks.length) (hdb : (x == ("__debug__" : Str)) = false)
    (hall : (backToKw pos (keywordEach kws X.env)).all (·.1.isSome) = true) (hks : (backToKw pos (keywordEach kws X.env)).filterMap (·.1) = ks) (he : starEach (e :: es) X.env = (false, eval e X.env) :: starEach es X.env)
    (hpl : ((backTo pos (starEach (e :: es) X.env)).any (·.1) || (backToKw pos (keywordEach kws X.env)).any (·.1.isNone)) = false) :
    PE X (.Call (.Name x p) (e :: es) kws pos) (tR (gx X) E (callL mi fn sel dd as kw)) := by
  obtain ⟨⟨f, fd, ps, k, dvs, ds, Fo, hps, hr, hm, hk, rd, rdd, hb⟩, hsl, hx, hgd⟩ := hh
  refine ⟨fun pins s σ H Q I ⟨O, F, δ, M, w⟩ => ?_⟩
  refine wpAny_Call_Name_kw (ld_glob I hg hm ?_ hdb)
  refine PySem.W.callWith_KW (h₀ := X.base) I.ok.mod.kin hk hall (thn (ha.run pos pins s σ H (fun vs H1 => tAs (gx X) E (argsM kw) σ H1 fun zs H2 => ∃ F2 δ2 os zd, Ms (gx X) O F2 H2 σ δ2 ∧ RpOs (gx X) F2 σ vs os ∧ RpA (gx X) F2 zs zd ∧ os.length = np ∧ zd.length = ks.length ∧ wp (gx X) O F2 σ δ2 (lendEnd mi fn (pick sel (os ++ zd.map Op.d ++ dd.map Op.d))) (fun F' H' δ' r => ∀ v, RpR (gx X) O F' H' σ δ' v r → Q v H') (eE (gx X) (E σ))) I ?_) fun us s1 ⟨vs, H1, I1, r, q⟩ => ?_) hpl he
  · exact ⟨O, F, δ, M, wp_mono (wp_lenA (wp_bind w)) fun F1 H1 δ1 os s1 M1 w1 vs hv => ⟨O, F1, δ1, M1, wp_mono (wp_len (wp_bind w1.2)) fun F2 H2 δ2 zd s2 M2 w2 zs hz => ⟨F2, δ2, os, zd, M2, hv.mono s2, hz, by rw [w1.1, hl], by rw [w2.1, hlk], w2.2⟩⟩⟩
  · refine thn (hkw.run pos pins s1 σ H1 _ I1 q) fun ws s2 ⟨zs, H2, I2, rz, F2, δ2, os, zd, M2, hv, hz, l1, l2, w2⟩ => ⟨I2.kIn, ?_⟩
    rw [hks]
    exact run_L I2 hsl hx Fo hgd hr rd rdd hb r rz (by rw [hv.len, l1]) (by rw [hz.length, l2]) M2 hv hz w2
end
end Ev

set_option Elab.async false
set_option linter.all false
set_option maxRecDepth 100000
namespace Ev
open PySem PySem.Spec PyProof.Rows L2
/-! ### an own exception as a value: made -/
theorem exv_ok {P : Program} {w : World} {H : Hp} {h : Heap} {a C : Addr} {d : Option Addr} {oe : Obj} {vs : Array Value} (e : h.get? a = some oe) (z : Zc (.ref C) d oe) (hd : oe.data = .fields vs) : ObjOk P w H h a (exv a C d) :=
  ⟨⟨oe, vs, e, z, hd⟩, ⟨oe, e⟩, fun _ _ ⟨o, v, q, r⟩ k => ⟨o, v, k o q, r⟩⟩
theorem exv_at {P : Program} {w : World} {H : Hp} {h : Heap} {a C : Addr} {d : Option Addr} (hok : HOk P w H h) (e : H a = some (exv a C d)) : ∃ (oe : Obj) (vs : Array Value), h.get? a = some oe ∧ Zc (.ref C) d oe ∧ oe.data = .fields vs := (hok _ _ e).1
/-- C(y): a new one, its dict -/
def tNewX (C : Addr) (f : Str) (te : TE) : TE := fun σ H Q => te σ H fun y H1 => ∀ a dx, H1 a = none → H1 dx = none → dx ≠ a → Q (.ref a) (upd (upd H1 dx (exd dx [(f, y)])) a (exv a C (some dx)))
section
variable {X : Cx} {pins : List (Addr × Obj)} {σ : L2.St} {H1 : Hp} {s : Shared} {C fI : Addr} {fd : FuncData} {ps : List Str} {k : Nat} {f : Str} {us : List Value} {kw : List (Str × Value)} {y : V} {u : Value} {Q : VK}
theorem run_newX (T : XCls X.K C) (tk : PySem.W.takerIn X.K C f = some none) (iC : PySem.W.findIn X.K (.ref C) "__init__" = some (some (.ref fI))) (tI : PySem.W.typeIn X.K (.ref fI) = some (.type "function")) (F1 : FnOk X.prog X.w X.K X.mg X.base (L2.CX X.prog X.w) k fI fd ps (spX X.K f)) (hr : Room (k + 1) X.A)
    (hb : ∀ (s : Shared) (a : Value), X.K.In s.heap → BindsTo s fd ⟨a :: us, kw⟩ (ps.zip [a, u])) (hl : us.length ≤ 1) (I : Inv X pins σ H1 s) (ry : RelV y u)
    (q : ∀ a dx, H1 a = none → H1 dx = none → dx ≠ a → Q (.ref a) (upd (upd H1 dx (exd dx [(f, y)])) a (exv a C (some dx)))) : wpAny (model X.prog X.w) X.A (call (.ref C) us kw) (EP X pins σ Q) X.xe s := by
  obtain ⟨B, nw, ni, _, bz, bm0, FB, row0, _, ci, _⟩ := T.fb
  obtain ⟨hp, g, dr, t, os⟩ := s
  obtain ⟨nm, N, qn, bs, bm', hd, sn, sub, ab, col, dd, k0, k1, k2, k3, k5, hC, hT⟩ := PySem.W.excInit_of I.kIn ci
  have row : PySem.EvX.RowX bm' B := ⟨(hT B).trans row0.1, (hT _).trans row0.2.1, (hT _).trans row0.2.2⟩
  have big : hp.objs.size ≤ hp.objs.size + 1 := Nat.le_succ _
  have na : H1 (hp.objs.size + 1) = none := I.hok.fresh big
  have kept : ∀ z w, hp.get? z = some w → (PySem.EvX.laidX hp C us).get? z = some w := fun z w q => Heap.get?_push_of_some _ (Heap.get?_push_of_some _ q)
  have new_ : (PySem.EvX.laidX hp C us).get? (hp.objs.size + 1) = some (PySem.HandSPX.excO C hp.objs.size) := by heap_get
  have J := I.laid (t' := t) kept big (exo_ok new_)
  have short : us.length ≤ sizeLine := Nat.le_trans hl (by decide)
  have wish : spX X.K f [.ref (hp.objs.size + 1), y] (upd H1 (hp.objs.size + 1) (exo (hp.objs.size + 1) C none)) (fun r H2 => r = .non ∧ ∃ dx, H2 (hp.objs.size + 1) = some (exo (hp.objs.size + 1) C (some dx)) ∧ Q (.ref (hp.objs.size + 1)) (upd H2 (hp.objs.size + 1) (exv (hp.objs.size + 1) C (some dx)))) (fun _ _ _ => False) := by
    refine ⟨_, C, y, rfl, T, tk, upd_same, fun dx hdx ne => ⟨rfl, dx, upd_same, ?_⟩⟩
    rw [upd_ne ne] at hdx
    have := q _ dx na hdx ne
    rw [upd_upd]
    have e : upd (upd H1 (hp.objs.size + 1) (exo (hp.objs.size + 1) C none)) dx (exd dx [(f, y)]) = upd (upd H1 dx (exd dx [(f, y)])) (hp.objs.size + 1) (exo (hp.objs.size + 1) C none) := by
      funext b
      by_cases h1 : b = dx
      · subst h1; rw [upd_same, upd_ne ne, upd_same]
      · rw [upd_ne h1]
        by_cases h2 : b = hp.objs.size + 1
        · subst h2; rw [upd_same, upd_same]
        · rw [upd_ne h2, upd_ne h2, upd_ne h1]
    rw [e, upd_upd]; exact this
  refine wpAny_call (PySem.EvX.kw_call FB row hC (PySem.W.looks_findIn I.kIn iC) (fun self => PySem.W.bind_fn I.kIn self tI) short
    (codeAny_mono (F1.run _ X.stack _ _ ⟨Value.ref (hp.objs.size + 1) :: us, kw⟩ [Value.ref (hp.objs.size + 1), u] _ _ (fun _ _ _ => False) (hr.make C us kw) (J.env0.make C us kw) (hb _ _ J.kIn) (Paired.cons (a := V.ref (hp.objs.size + 1)) rfl (.cons ry .nil) : Vals [V.ref (hp.objs.size + 1), y] [Value.ref (hp.objs.size + 1), u]) wish) fun r s' end_ => ?_))
  match r, end_ with
  | .error er, ⟨_, _, _, _, _, _, _, _, _, _, _, _, z⟩ => exact z.elim
  | .ok (.ret u'), z =>
    obtain ⟨v, H2, J2, rv, ev, dx, e2, q2⟩ := J.after z
    subst ev
    obtain ⟨t1, ho⟩ := exo_at J2.hok e2
    refine ⟨rv, .ref (hp.objs.size + 1), _, ?_, rfl, q2⟩
    exact J2.write (x := hp.objs.size + 1) (e := hp.objs.size + 1) (o := exv (hp.objs.size + 1) C (some dx)) (h' := s'.heap) (t' := s'.toks) (by rw [e2]; exact True.intro) (.inl rfl) (fun _ _ _ e => e) ⟨_, ho⟩ (exv_ok ho ⟨rfl, rfl⟩ rfl)
  | .ok .next, z => exact z.elim
  | .ok .brk, z => exact z.elim
  | .ok .cont, z => exact z.elim
end

def newM (c : XcI) (m : M R) : M R := bindM (datM m) fun d => retM (.d (.exc c.x [c.f] [d]))
theorem spX_len {P : Program} {w : World} {K : PySem.W.Frag} {mg : Str → Option Value} {base : Heap} {k : Nat} {fI C : Addr} {fd : FuncData} {ps : List Str} {f : Str} (F1 : FnOk P w K mg base (L2.CX P w) k fI fd ps (spX K f)) (T : XCls K C) (tk : PySem.W.takerIn K C f = some none) : ps.length = 2 :=
  (F1.len [.ref 0, .non] (upd (fun _ => none) 0 (exo 0 C none)) (fun _ _ => True) (fun _ _ _ => False) ⟨0, C, .non, rfl, T, tk, upd_same, fun _ _ _ => True.intro⟩).symm
/-- what a new one is worth -/
theorem newX_end {g : Gx} {O F H : Hp} {σ : L2.St} {δ : Dl} {c : XcI} {d : D} {y : V} {C a dx : Addr} {ok : Hp → Hp → Dl → R → Prop} {er : Hp → Hp → Dl → Ex → Prop} (hm : g.mg c.x = some (.ref C)) (M : Ms g O F H σ δ) (rv : Rp g F y d)
    (w : wp g O F σ δ (retM (.d (.exc c.x [c.f] [d]))) ok er) (ha : H a = none) (hdx : H dx = none) (ne : dx ≠ a) : ∃ F', Same F F' ∧ Rp g F' (.ref a) (.exc c.x [c.f] [d]) ∧ Ms g O F' (upd (upd H dx (exd dx [(c.f, y)])) a (exv a C (some dx))) σ δ := by
  have k1 := grow_frz (o := exd dx [(c.f, y)]) M.fh hdx rfl
  have ha2 : (upd H dx (exd dx [(c.f, y)])) a = none := by rw [upd_ne (Ne.symm ne)]; exact ha
  have k2 := grow_frz (o := exv a C (some dx)) k1.fh ha2 rfl
  have s12 := k1.ff.trans k2.ff
  refine ⟨_, s12, .exc (vs := [y]) upd_same hm ?_ (.cons (Rp.mono s12 _ _ rv) .nil) rfl, (M.grow k1).grow k2⟩
  show upd (upd F dx (exd dx [(c.f, y)])) a (exv a C (some dx)) dx = _
  rw [upd_ne ne, upd_same]; rfl
section
variable {X : Cx} {E : WS} {e : Expr} {p pos kp : Pos} {m : M R} {c : XcI} {nm : Option Str}
theorem pr_newX (hz : c.z = false) (hx : HasX X c) (hg : Gl X c.x) (he : PE X e (tR (gx X) E m)) (hdb : (c.x == ("__debug__" : Str)) = false) (hst : starEach [e] X.env = (false, eval e X.env) :: starEach [] X.env) :
    PE X (.Call (.Name c.x p) [e] [] pos) (tR (gx X) E (newM c m)) := by
  obtain ⟨C, fI, fd, ps, k, T, tk, iC, tI, F1, hr, hb, hm, _⟩ := hx.ex hz
  have ha : PA X [e] (tCons (tD (gx X) E (datM m)) tNil) := pa_cons (pr_dat he) pa_nil hst
  refine ⟨fun pins s σ H Q I ⟨O, F, δ, M, w⟩ => ?_⟩
  refine wpAny_Call_Name_kw (ld_glob I hg hm (PySem.W.callWith_K (h₀ := X.base) I.ok.mod.kin T.kp (thn (ha.run pos pins s σ H (fun vs H1 => ∃ y, vs = [y] ∧ ∀ a dx, H1 a = none → H1 dx = none → dx ≠ a → Q (.ref a) (upd (upd H1 dx (exd dx [(c.f, y)])) a (exv a C (some dx)))) I ?_) fun us s1 ⟨vs, H1, J1, rel, y, ey, q⟩ => ⟨J1.kIn, ?_⟩) hst rfl) hdb)
  · refine ⟨O, F, δ, M, wp_mono (wp_bind w) fun F1' H1 δ1 d s1 M1 w1 v rv => ⟨v, rfl, fun a dx h1 h2 ne => ?_⟩⟩
    obtain ⟨F', s', r', M'⟩ := newX_end hm M1 rv w1 h1 h2 ne
    exact w1 F' _ s' M' _ r'
  · subst ey
    cases rel with
    | cons r1 r2 => cases r2 with
      | nil =>
        have l2 := spX_len F1 T tk
        exact run_newX T tk iC tI F1 hr (fun s a ki => hb s [a, _] ki (by rw [l2]; rfl)) (Nat.le_refl _) J1 r1 q
/-- C(f = e) -/
theorem pr_newXk (hz : c.z = false) (hx : HasX X c) (hg : Gl X c.x) (he : PE X e (tR (gx X) E m)) (hdb : (c.x == ("__debug__" : Str)) = false) :
    PE X (.Call (.Name c.x p) [] [⟨some c.p, e, kp⟩] pos) (tR (gx X) E (newM c m)) := by
  obtain ⟨C, fI, fd, ps, k, T, tk, iC, tI, F1, hr, _, hm, hbk⟩ := hx.ex hz
  have hkw : PK X [⟨some c.p, e, kp⟩] (tCons (tD (gx X) E (datM m)) tNil) := pk_cons (pr_dat he) pk_nil
  refine ⟨fun pins s σ H Q I ⟨O, F, δ, M, w⟩ => ?_⟩
  refine wpAny_Call_Name_kw (ld_glob I hg hm ?_ hdb)
  refine PySem.W.callWith_KW0 (h₀ := X.base) I.ok.mod.kin T.kp rfl (thn (hkw.run pos pins s σ H (fun vs H1 => ∃ y, vs = [y] ∧ ∀ a dx, H1 a = none → H1 dx = none → dx ≠ a → Q (.ref a) (upd (upd H1 dx (exd dx [(c.f, y)])) a (exv a C (some dx)))) I ?_) fun us s1 ⟨vs, H1, J1, rel, y, ey, q⟩ => ⟨J1.kIn, ?_⟩) rfl
  · refine ⟨O, F, δ, M, wp_mono (wp_bind w) fun F1' H1 δ1 d s1 M1 w1 v rv => ⟨v, rfl, fun a dx h1 h2 ne => ?_⟩⟩
    obtain ⟨F', s', r', M'⟩ := newX_end hm M1 rv w1 h1 h2 ne
    exact w1 F' _ s' M' _ r'
  · subst ey
    cases rel with
    | cons r1 r2 => cases r2 with
      | nil => exact run_newX T tk iC tI F1 hr (fun s a ki => hbk s a _ ki) (Nat.zero_le _) J1 r1 q
end

/-! ### of a class without an own __init__ -/
def new0M (x : Str) : M R := retM (.d (.exc x [] []))
section
variable {X : Cx} {E : WS} {p pos : Pos} {x : Str}
theorem pr_new0 (hx : HasX0 X x) (hg : Gl X x) (hdb : (x == ("__debug__" : Str)) = false) : PE X (.Call (.Name x p) [] [] pos) (tR (gx X) E (new0M x)) := by
  obtain ⟨C, bz, B, nw, ni, FB, q, hm, kC⟩ := hx.ex
  refine ⟨fun pins s σ H Q I ⟨O, F, δ, M, w⟩ => ?_⟩
  refine wpAny_Call_Name_kw (ld_glob I hg hm ?_ hdb)
  refine PySem.W.callWith_KW0 (h₀ := X.base) I.ok.mod.kin kC rfl (thn (pk_nil.run pos pins s σ H (fun vs H1 => vs = [] ∧ H1 = H) I ⟨rfl, rfl⟩) fun us s1 ⟨vs, H1, J, rel, ev, eH⟩ => ⟨J.kIn, ?_⟩) rfl
  subst ev eH
  obtain ⟨bm, N, nm, qn, bs, hdct, sn, sub, ab, col, dd, k0, k1, k2, k3, k5, mN, hC, hN, hni, same⟩ := exc_obj J.kIn q
  refine wpAny_call_exc_subT FB same hC hN hni (fun h' a made => ?_) (Nat.zero_le _)
  have fresh : H1 a = none := J.hok.gone made.new
  obtain ⟨t, there, _, _⟩ := made.there
  have k := grow_frz (o := exv a C none) M.fh fresh rfl
  refine ⟨.ref a, upd H1 a (exv a C none), J.laidN made.keeps made.new fresh (exv_ok there ⟨rfl, rfl⟩ rfl), rfl, ?_⟩
  exact w _ _ k.ff (M.grow k) _ (.exc (vs := []) (d := none) upd_same hm rfl .nil rfl)
end
end Ev

set_option Elab.async false
set_option linter.all false
set_option maxRecDepth 100000
namespace Ev
open PySem PySem.Spec PyProof.Rows L2
/-! ### an own exception as a value: asked about, its field read -/
section
variable {X : Cx} {e : Expr} {te : TE} {pos p p1 : Pos} {n : Str}
/-- x.n, the dict tracked -/
def rXv (K : PySem.W.Frag) (n : Str) : V → Hp → VK → Prop := fun x H Q => ∃ (a C dd : Addr) (fs : List (Str × V)) (v : V), x = .ref a ∧ H a = some (exv a C (some dd)) ∧ XfC K C ∧ PySem.W.findIn K (.ref C) n = some none ∧ H dd = some (exd dd fs) ∧ fs.lookup n = some v ∧ Q v H
theorem pe_xv (he : PE X e te) (hb : attributeBase e n X.env (eval e X.env) = eval e X.env) : PE X (.Attribute e n pos) (fun σ H Q => te σ H fun x H1 => rXv X.K n x H1 Q) := by
  refine ⟨fun pins s σ H Q I h => attr_of hb (thn (he.run pins s σ H _ I h) fun u s1 ⟨x, H1, J, rx, a, C, dd, fs, v, ex, ea, T, hno, ed, l, q⟩ => ?_)⟩
  subst ex
  cases (show u = Value.ref a from rx)
  obtain ⟨oe, vs, ho, hz, hd⟩ := exv_at J.hok ea
  obtain ⟨mA, hns, hr⟩ := exd_at J.hok ed
  obtain ⟨od, hod, hl⟩ := lookIn_ns hns
  obtain ⟨y, hy, ry⟩ := RelO.some_of (v := v) (o := mA n) (by rw [← l]; exact hr n)
  have at_ : PySem.W.InstAt s1.heap a oe C (some od) := ⟨ho, hz.1, by unfold PySem.W.notCls; rw [hd] <;> rfl, by rw [hz.2]; exact hod⟩
  exact HandSPX.exc_get J.kIn at_ T.ga T.gg T.exC (PySem.W.findObj_own T.hdC hno rfl (by rw [hl, hy])) (handed_of ry) ⟨v, H1, J.tok _, ry, q⟩
/-- isinstance(x, c) -/
def rIsV (K : PySem.W.Frag) : List V → Hp → VK → Prop := fun xs H Q => ∃ (a C : Addr) (d : Option Addr) (fs : List (Str × V)) (c : V) (cv : Value) (b : Bool), xs = [.ref a, c] ∧ H a = some (exv a C d) ∧ XSui K C ∧ (∀ dd, d = some dd → H dd = some (exd dd fs)) ∧ (∀ u, RelV c u → u = cv) ∧ PySem.W.kitOne K (.ref C) cv = some b ∧ Q (.bl b) H
theorem call_isV : CallR X (.builtin "isinstance") (rIsV X.K) := by
  intro pins s σ H xs us Q I r ⟨a, C, d, fs, c, cv, k, ex, ea, S, ed, hcv, e, q⟩
  subst ex
  match us, r with
  | [u1, u2], .cons r1 (.cons r2 .nil) =>
    cases (show u1 = Value.ref a from r1)
    cases hcv _ r2
    obtain ⟨oe, vs, ho, hz, hd⟩ := exv_at I.hok ea
    have key : ∃ od, PySem.W.InstAt s.heap a oe C od := by
      cases d with
      | none => exact ⟨none, ho, hz.1, by unfold PySem.W.notCls; rw [hd] <;> rfl, by rw [hz.2]; exact True.intro⟩
      | some dd =>
        obtain ⟨mA, hns, _⟩ := exd_at I.hok (ed dd rfl)
        obtain ⟨od, hod, _⟩ := lookIn_ns hns
        exact ⟨some od, ho, hz.1, by unfold PySem.W.notCls; rw [hd] <;> rfl, by rw [hz.2]; exact hod⟩
    obtain ⟨od, J⟩ := key
    exact PySem.W.kia_one (PySem.W.kitx_exc (od := od) S.cl S.xf.ga S.xf.gg S.xf.exC S.ha S.hn S.ht S.hm) I.kIn J e (fun z => nomatch z) fun tk => ⟨.bl k, H, I.kept (t' := tk) fun _ _ z => z, rfl, q⟩
end
theorem Bw.exc {g : Gx} {O F H : Hp} {v : V} {c : Str} {fn : List Str} {fv : List D} (b : Bw g O F H v (.exc c fn fv)) : Rp g F v (.exc c fn fv) := by
  rcases b with b | ⟨xs, z, _⟩ | ⟨ks, xs, z, _⟩
  · exact b
  · cases z
  · cases z
def isxD (tb : List (Str × Bool)) : D → Option S
  | .exc c _ _ => (tb.lookup c).map fun b => .d (.bl b)
  | _ => none
section
variable {X : Cx} {E : WS} {a b e : Expr} {pos p p1 : Pos} {ma m : M R} {tb : List (Str × Bool)} {f : Str}
theorem pr_isx {cc : V} {cv : Value} (hg : Gl X "isinstance") (hm : X.mg "isinstance" = none) (ht : TbOk X cv tb) (hb : PE X b (tC cc)) (hcv : ∀ u, RelV cc u → u = cv) (ha : PE X a (tR (gx X) E ma))
    (hs : starEach [a, b] X.env = (false, eval a X.env) :: starEach [b] X.env) (hs2 : starEach [b] X.env = [(false, eval b X.env)]) (hpl : (backTo pos (starEach [b] X.env)).any (·.1) = false) :
    PE X (.Call (.Name "isinstance" p) [a, b] [] pos) (tR (gx X) E (op1 (isxD tb) ma)) := by
  refine (pe_callB call_isV hg hm rfl (pa_cons (pr_opd ha) (pa_cons hb pa_nil hs2) hs) (by decide) (by decide) hs hpl).imp fun σ H Q w => ?_
  refine t_op1 (r := fun x H Q => rIsV X.K [x, cc] H Q) (fun O F H x d s Q fh bx ef q => ?_) w
  unfold isxD at ef
  split at ef
  · rename_i c fn fv
    rw [Option.map_eq_some_iff] at ef
    obtain ⟨k, hk, rfl⟩ := ef
    obtain ⟨D, hD, S, kt⟩ := ht _ _ hk
    cases bx.exc with
    | @exc a C d' _ _ vs _ ea hc xd ra _ =>
      rw [show (gx X).mg c = X.mg c from rfl, hD] at hc
      cases hc
      exact ⟨a, _, d', fn.zip vs, cc, cv, k, rfl, fh.of ea, S, fun dd hdd => by subst hdd; exact fh.of xd, hcv, kt, q_bl fh q⟩
  · cases ef
/-- e.f -/
def fldD (exs : List XcI) (f : Str) : D → Option S
  | .exc c fn fv => if (exs.any fun x => x.x == c && x.f == f) = true then ((fn.zip fv).lookup f).map S.d else none
  | _ => none
theorem pr_fld {exs : List XcI} (hx : ∀ c ∈ exs, ∃ C : Addr, X.mg c.x = some (.ref C) ∧ XSui X.K C ∧ PySem.W.findIn X.K (.ref C) c.f = some none) (ha : PE X e (tR (gx X) E m)) (hb : attributeBase e f X.env (eval e X.env) = eval e X.env) :
    PE X (.Attribute e f pos) (tR (gx X) E (op1 (fldD exs f) m)) := by
  refine (pe_xv (pr_opd ha) hb).imp fun σ H Q w => ?_
  refine t_op1 (r := rXv X.K f) (fun O F H x d s Q fh bx ef q => ?_) w
  unfold fldD at ef
  split at ef
  · rename_i c fn fv
    split at ef
    · rename_i hh
      rw [Option.map_eq_some_iff] at ef
      obtain ⟨y, hy, rfl⟩ := ef
      obtain ⟨i, hi, he⟩ := List.any_eq_true.mp hh
      simp only [Bool.and_eq_true, beq_iff_eq] at he
      obtain ⟨C, hC, S, hno⟩ := hx i hi
      rw [he.1] at hC
      rw [he.2] at hno
      cases bx.exc with
      | @exc a C' d' _ _ vs _ ea hc xd ra _ =>
        rw [show (gx X).mg c = X.mg c from rfl, hC] at hc
        cases hc
        cases d' with
        | none => rw [show fn = [] from xd] at hy; cases hy
        | some dd =>
          obtain ⟨v, hl, r⟩ := zip_at ra hy
          exact ⟨a, _, dd, _, v, rfl, fh.of ea, S.xf, hno, fh.of xd, hl, q F H v (Grow.refl fh) r⟩
    · cases ef
  · cases ef
end
end Ev

set_option Elab.async false
set_option linter.all false
set_option maxRecDepth 100000
namespace Ev
open PySem PySem.Spec PyProof.Rows L2

/-! ### the compiler: what is known of a block -/
/-- a def that may be called: its name, how many parameters, which of them are lent, the ways it's called (np, keywords, defaults, places), what it does -/
structure FnI where
  x : Str
  n : Nat
  lent : List Nat
  pats : List (Nat × List Str × List D × List Nat)
  fn : Fn
  /-- called so that names are lent as they are (callL) -/
  lz : Bool
/-- the same def, its names lent -/
def FnI.lend (f : FnI) : FnI := { f with lz := true }
structure Inf where
  N : List Str
  sc : Scope
  fc : Str → Bool
  L : List Nat
  fns : List FnI
  blt : List Str
  imp : List (Str × String)
  con : List (Str × D)
  /-- the own classes of exceptions: such as are raised, their fields; such as are asked about, which of the former stand under them -/
  exs : List XcI := []
  cls : List (Str × List (Str × Bool)) := []
  rz : Bool := false
/-- a global name that stands for plain data for ever -/
def ConOk (g : Gx) (p : Str × D) : Prop := ∃ (v : V) (u : Value), g.mg p.1 = some u ∧ RelV v u ∧ ∀ F, Rp g F v p.2
/-- a class that a clause or a test names -/
def ClsOk (X : Cx) (y : Str × List (Str × Bool)) : Prop := ∃ (cc : V) (cv : Value), (∀ u, RelV cc u → u = cv) ∧ ((X.mg y.1 = some cv ∧ RelV cc cv) ∨ (X.mg y.1 = none ∧ bootBuiltins y.1 = some cv ∧ RelV cc cv ∧ y.1 ≠ "__name__")) ∧ TbOk X cv y.2 ∧ CbOk X cv y.2
structure XOk (exs : List XcI) (cls : List (Str × List (Str × Bool))) (X : Cx) (E : WS) : Prop where
  tk : Takes X (WE' E)
  st : X.stack = X.env :: X.outer
  fr : X.env.frame = some X.env.locals
  ex : ∀ c ∈ exs, HasX X c
  su : ∀ c ∈ exs, ∃ C : Addr, X.mg c.x = some (.ref C) ∧ XSui X.K C ∧ PySem.W.findIn X.K (.ref C) c.f = some none
  cl : ∀ y ∈ cls, ClsOk X y
structure InfOk (I : Inf) (X : Cx) (E : WS) : Prop where
  hN : X.N = I.N
  sc : X.env.scope = I.sc
  fc : X.fn = I.fc
  nd : I.N.Nodup
  calm : X.calm = true
  un : X.A.units + 64 < cLine
  blt : ∀ x ∈ I.blt, X.mg x = none
  imp : ∀ p ∈ I.imp, X.mg p.1 = some (.builtin p.2)
  con : ∀ p ∈ I.con, ConOk (gx X) p
  fns : ∀ f ∈ I.fns, ∀ p ∈ f.pats, HasP X E f.x f.n p.1 p.2.1 p.2.2.1 p.2.2.2 f.fn
  pass : PassesOwn (model X.prog X.w) X.A X.env X.xe
  gd : X.A.guards = some []
  xs : I.rz = true → XOk I.exs I.cls X E
def findX (x : Str) : List XcI → Option XcI
  | [] => none
  | c :: r => if c.x = x then some c else findX x r
theorem findX_mem {x : Str} : ∀ {l : List XcI} {c : XcI}, findX x l = some c → c ∈ l ∧ c.x = x
  | [], _, h => by cases h
  | c :: r, c', h => by
    simp only [findX] at h
    split at h
    · rename_i q; cases h; exact ⟨List.mem_cons_self .., q⟩
    · exact ⟨List.mem_cons_of_mem _ (findX_mem h).1, (findX_mem h).2⟩
def findC (y : Str) : List (Str × List (Str × Bool)) → Option (List (Str × Bool))
  | [] => none
  | p :: r => if p.1 = y then some p.2 else findC y r
theorem findC_mem {y : Str} : ∀ {l : List (Str × List (Str × Bool))} {tb : List (Str × Bool)}, findC y l = some tb → (y, tb) ∈ l
  | [], _, h => by cases h
  | (z, t) :: r, tb, h => by
    simp only [findC] at h
    split at h
    · rename_i q; cases h; cases q; exact List.mem_cons_self ..
    · exact List.mem_cons_of_mem _ (findC_mem h)
abbrev CE (I : Inf) (e : Expr) := { m : M R // ∀ X E, InfOk I X E → PE X e (tR (gx X) E m) }
abbrev CT (I : Inf) (e : Expr) := { m : M Bool // ∀ X E, InfOk I X E → PT X e (tT (gx X) E m) }
abbrev CS (I : Inf) (st : Stmt) := { m : M Fl // ∀ X E, InfOk I X E → PS X st (tS (gx X) E I.L m) }
abbrev CI (I : Inf) (tg e : Expr) := { m : M (List D) // ∀ X E, InfOk I X E → PI X tg e (tI (gx X) E m) }
abbrev CG (I : Inf) (L : List Nat) (e : Expr) := { T : Tg // ∀ X E, InfOk I X E → PG X e (tG (gx X) L T) }
structure Rc where
  E : ∀ (I : Inf) (e : Expr), Option (CE I e)
  T : ∀ (I : Inf) (e : Expr), Option (CT I e)
  S : ∀ (I : Inf) (st : Stmt), Option (CS I st)

/-! names -/
def ixOf (x : Str) : List Str → Nat → Nat
  | [], n => n
  | y :: r, n => if y = x then n else ixOf x r (n + 1)
def kindIs (I : Inf) (x : Str) (k : NameKind) : Bool := I.sc.names.lookup x == some k
theorem kind_of {I : Inf} {x : Str} {k : NameKind} (h : I.sc.names.lookup x = some k) {X : Cx} {E : WS} (ok : InfOk I X E) : X.env.scope.names.lookup x = some k := by rw [ok.sc]; exact h
theorem Gl_of {I : Inf} {x : Str} (h : I.sc.names.lookup x = some .globalImplicit) {X : Cx} {E : WS} (ok : InfOk I X E) : Gl X x := kind_of h ok
/-- a name as a value -/
def cName (I : Inf) (x : Str) (pos : Pos) : Option (CE I (.Name x pos)) :=
  if hd : (x == ("__debug__" : Str)) = false ∧ (x == ("__classdict__" : Str)) = false then
    if hi : I.N[ixOf x I.N 0]? = some x then
      if hv : I.sc.names.lookup x = some .local ∨ I.sc.names.lookup x = some .cell ∨ I.sc.names.lookup x = some .free then
        some ⟨slotM (ixOf x I.N 0), fun X E ok => pr_name (by rw [ok.hN]; exact hi) (by unfold Vis; rw [ok.sc]; exact hv) hd.1 hd.2⟩
      else none
    else none
  else none
def findCon (x : Str) : List (Str × D) → Option D
  | [] => none
  | p :: r => if p.1 = x then some p.2 else findCon x r
theorem findCon_mem {x : Str} : ∀ {l : List (Str × D)} {d : D}, findCon x l = some d → (x, d) ∈ l
  | [], _, h => by cases h
  | (y, e) :: r, d, h => by
    simp only [findCon] at h
    split at h
    · rename_i q; cases h; obtain rfl : y = x := q; exact List.mem_cons_self ..
    · exact List.mem_cons_of_mem _ (findCon_mem h)
def cCon (I : Inf) (x : Str) (pos : Pos) : Option (CE I (.Name x pos)) :=
  if hg : I.sc.names.lookup x = some .globalImplicit ∧ (x == ("__debug__" : Str)) = false then
    match h : findCon x I.con with
    | some d => some ⟨cD d, fun X E ok => by
        obtain ⟨v, u, h1, h2, h3⟩ := ok.con _ (findCon_mem h)
        exact pr_c (pe_glob (Gl_of hg.1 ok) h1 h2 hg.2) h3⟩
    | none => none
  else none
def cCmp (rc : Rc) (I : Inf) (a : Expr) (op : CmpOp) (b : Expr) (pos : Pos) : Option (CE I (.Compare a [op] [b] pos)) :=
  match h : cmpD op with
  | none => none
  | some f => if hm : behindInMarks op b = false then match rc.E I a, rc.E I b with
    | some ⟨ma, ha⟩, some ⟨mb, hb⟩ => some ⟨op2 f ma mb, fun X E ok => pr_cmp ok.un h (ha X E ok) (hb X E ok) hm⟩
    | _, _ => none
  else none
def tCmpC (rc : Rc) (I : Inf) (a : Expr) (op : CmpOp) (b : Expr) (pos : Pos) : Option (CT I (.Compare a [op] [b] pos)) :=
  match h : cmpD op with
  | none => none
  | some f => if hm : behindInMarks op b = false then match rc.E I a, rc.E I b with
    | some ⟨ma, ha⟩, some ⟨mb, hb⟩ => some ⟨blM (op2 f ma mb), fun X E ok => pt_cmp' ok.un h (ha X E ok) (hb X E ok) hm⟩
    | _, _ => none
  else none
def cCmp2 (rc : Rc) (I : Inf) (a : Expr) (op op' : CmpOp) (b c : Expr) (pos : Pos) : Option (CE I (.Compare a [op, op'] [b, c] pos)) :=
  match h : cmpD op, h' : cmpD op' with
  | some f, some f' => if hm : lastMarks [op, op'] [b, c] = false then match rc.E I a, rc.E I b, rc.E I c with
    | some ⟨ma, ha⟩, some ⟨mb, hb⟩, some ⟨mc, hc⟩ => some ⟨chainM f f' ma mb mc, fun X E ok => pr_chain ok.un h h' (ha X E ok) (hb X E ok) (hc X E ok) hm⟩
    | _, _, _ => none
    else none
  | _, _ => none
def tCmp2 (rc : Rc) (I : Inf) (a : Expr) (op op' : CmpOp) (b c : Expr) (pos : Pos) : Option (CT I (.Compare a [op, op'] [b, c] pos)) :=
  match h : cmpD op, h' : cmpD op' with
  | some f, some f' => if hm : lastMarks [op, op'] [b, c] = false then match rc.E I a, rc.E I b, rc.E I c with
    | some ⟨ma, ha⟩, some ⟨mb, hb⟩, some ⟨mc, hc⟩ => some ⟨blM (chainM f f' ma mb mc), fun X E ok => pt_chain' ok.un h h' (ha X E ok) (hb X E ok) (hc X E ok) hm⟩
    | _, _, _ => none
    else none
  | _, _ => none
def cBin (rc : Rc) (I : Inf) (a : Expr) (op : Operator) (b : Expr) (pos : Pos) : Option (CE I (.BinOp a op b pos)) :=
  match h : binD op with
  | none => none
  | some f => match rc.E I a, rc.E I b with
    | some ⟨ma, ha⟩, some ⟨mb, hb⟩ => some ⟨op2 f ma mb, fun X E ok => pr_bin h (ha X E ok) (hb X E ok)⟩
    | _, _ => none
/-! and, or -/
def cAnd (rc : Rc) (I : Inf) (pos : Pos) : ∀ es : List Expr, Option (CE I (.BoolOp .And es pos))
  | [] => none
  | [a] => match rc.E I a with
    | some ⟨m, h⟩ => some ⟨m, fun X E ok => pr_one (h X E ok)⟩
    | none => none
  | a :: b :: r => match rc.E I a, cAnd rc I pos (b :: r) with
    | some ⟨ma, ha⟩, some ⟨mb, hb⟩ => some ⟨andV ma mb, fun X E ok => pr_and (ha X E ok) (hb X E ok)⟩
    | _, _ => none
def cOr (rc : Rc) (I : Inf) (pos : Pos) : ∀ es : List Expr, Option (CE I (.BoolOp .Or es pos))
  | [] => none
  | [a] => match rc.E I a with
    | some ⟨m, h⟩ => some ⟨m, fun X E ok => pr_one (h X E ok)⟩
    | none => none
  | a :: b :: r => match rc.E I a, cOr rc I pos (b :: r) with
    | some ⟨ma, ha⟩, some ⟨mb, hb⟩ => some ⟨orV ma mb, fun X E ok => pr_or (ha X E ok) (hb X E ok)⟩
    | _, _ => none
abbrev CW (I : Inf) (e : Expr) := { m : M Bool // ∀ X E, InfOk I X E → PW X e (tT (gx X) E m) }
def tAndC (rc : Rc) (I : Inf) (pos : Pos) : ∀ es : List Expr, Option (CW I (.BoolOp .And es pos))
  | [] => none
  | [a] => match rc.T I a with
    | some ⟨m, h⟩ => some ⟨m, fun X E ok => pwt_one_and (h X E ok)⟩
    | none => none
  | a :: b :: r => match rc.T I a, tAndC rc I pos (b :: r) with
    | some ⟨ma, ha⟩, some ⟨mb, hb⟩ => some ⟨andM ma mb, fun X E ok => pwt_and (ha X E ok) (hb X E ok)⟩
    | _, _ => none
def tOrC (rc : Rc) (I : Inf) (pos : Pos) : ∀ es : List Expr, Option (CW I (.BoolOp .Or es pos))
  | [] => none
  | [a] => match rc.T I a with
    | some ⟨m, h⟩ => some ⟨m, fun X E ok => pwt_one_or (h X E ok)⟩
    | none => none
  | a :: b :: r => match rc.T I a, tOrC rc I pos (b :: r) with
    | some ⟨ma, ha⟩, some ⟨mb, hb⟩ => some ⟨orM ma mb, fun X E ok => pwt_or (ha X E ok) (hb X E ok)⟩
    | _, _ => none
/-! rows of arguments -/
def plainE : Expr → Bool
  | .Starred .. => false
  | _ => true
theorem star_of {e : Expr} {es : List Expr} {env : Env} (h : plainE e = true) : starEach (e :: es) env = (false, eval e env) :: starEach es env := by
  cases e <;> first | rfl | cases h
theorem noStar : ∀ {es : List Expr} {env : Env} {pos : Pos}, es.all plainE = true → (backTo pos (starEach es env)).any (·.1) = false
  | [], _, _, _ => rfl
  | e :: es, env, pos, h => by
    rw [List.all_cons, Bool.and_eq_true] at h
    rw [star_of h.1]
    have ih := noStar (es := es) (env := env) (pos := pos) h.2
    exact ih
abbrev CAs (I : Inf) (es : List Expr) := { ms : List (M R) // ms.length = es.length ∧ ∀ X E, InfOk I X E → PA X es (tAs (gx X) E (argsM ms)) ∧ PA X es (tOs (gx X) E (opsM ms)) }
def cArgs (rc : Rc) (I : Inf) : ∀ es : List Expr, Option (CAs I es)
  | [] => some ⟨[], rfl, fun X E ok => ⟨pa_args_nil, pa_ops_nil⟩⟩
  | e :: es => if hp : plainE e = true then match rc.E I e, cArgs rc I es with
    | some ⟨m, h⟩, some ⟨ms, hl, hs⟩ => some ⟨m :: ms, by rw [List.length_cons, List.length_cons, hl], fun X E ok => ⟨pa_args (h X E ok) (hs X E ok).1 (star_of hp), pa_ops (h X E ok) (hs X E ok).2 (star_of hp)⟩⟩
    | _, _ => none
  else none
abbrev CPs (I : Inf) (es : List Expr) := { ms : List (M R) // ms.length = es.length ∧ ∀ X E, InfOk I X E → PA X es (tPs (gx X) E (partsM ms)) }
/-- parts, new lists kept -/
def cParts (rc : Rc) (I : Inf) : ∀ es : List Expr, Option (CPs I es)
  | [] => some ⟨[], rfl, fun X E ok => pp_nil⟩
  | e :: es => if hp : plainE e = true then match rc.E I e, cParts rc I es with
    | some ⟨m, h⟩, some ⟨ms, hl, hs⟩ => some ⟨m :: ms, by rw [List.length_cons, List.length_cons, hl], fun X E ok => pp_cons (h X E ok) (hs X E ok) (star_of hp)⟩
    | _, _ => none
  else none
/-- the arguments of a def: names in the lent places are handed by reference -/
abbrev CAg (I : Inf) (es : List Expr) := { as : List Ag // as.length = es.length ∧ ∀ X E, InfOk I X E → PA X es (tOs (gx X) E (agsM as)) }
def cAgs (rc : Rc) (I : Inf) (lent : List Nat) : Nat → ∀ es : List Expr, Option (CAg I es)
  | _, [] => some ⟨[], rfl, fun X E ok => pa_ag_nil⟩
  | k, e :: es => if hp : plainE e = true then match cAgs rc I lent (k + 1) es with
    | none => none
    | some ⟨as, hl, hs⟩ => if lent.contains k then match e, hp with
        | .Name x pos, hp =>
          if hd : (x == ("__debug__" : Str)) = false ∧ (x == ("__classdict__" : Str)) = false then
            if hi : I.N[ixOf x I.N 0]? = some x then
              if hv : I.sc.names.lookup x = some .local ∨ I.sc.names.lookup x = some .cell ∨ I.sc.names.lookup x = some .free then
                some ⟨.rf (ixOf x I.N 0) :: as, by rw [List.length_cons, List.length_cons, hl], fun X E ok => pa_ag_rf (pr_name (by rw [ok.hN]; exact hi) (by unfold Vis; rw [ok.sc]; exact hv) hd.1 hd.2) (hs X E ok) (star_of hp)⟩
              else none
            else none
          else none
        | _, _ => none
      else match rc.E I e with
        | some ⟨m, h⟩ => some ⟨.val m :: as, by rw [List.length_cons, List.length_cons, hl], fun X E ok => pa_ag_val (h X E ok) (hs X E ok) (star_of hp)⟩
        | none => none
  else none
/-- keywords -/
abbrev CKw (I : Inf) (kws : List Keyword) := { ms : List (M R) // ms.length = kws.length ∧ ∀ X E, InfOk I X E → PK X kws (tAs (gx X) E (argsM ms)) }
def cKws (rc : Rc) (I : Inf) : ∀ kws : List Keyword, Option (CKw I kws)
  | [] => some ⟨[], rfl, fun X E ok => pk_nil'⟩
  | ⟨nm, e, kp⟩ :: r => match rc.E I e, cKws rc I r with
    | some ⟨m, h⟩, some ⟨ms, hl, hs⟩ => some ⟨m :: ms, by rw [List.length_cons, List.length_cons, hl], fun X E ok => pk_cons' (h X E ok) (hs X E ok)⟩
    | _, _ => none
def kwNames (kws : List Keyword) : List Str := kws.filterMap (·.arg)
end Ev

set_option Elab.async false
set_option linter.all false
set_option maxRecDepth 100000
namespace Ev
open PySem PySem.Spec PyProof.Rows L2

/-! ### facts of the syntax -/
def notSlice : Expr → Bool
  | .Slice .. => false
  | _ => true
def notComp : Expr → Bool
  | .ListComp .. => false
  | .SetComp .. => false
  | .DictComp .. => false
  | _ => true
def notSet : Expr → Bool
  | .Set .. => false
  | _ => true
def notCall : Expr → Bool
  | .Call .. => false
  | _ => true
theorem plainIx_of {b : Expr} (h : notSlice b = true) : PlainIx b := by cases b <;> first | (intro _ _; rfl) | cases h
theorem swaps_of {e : Expr} {t : Option Expr} {l : Nat} {env : Env} (h : notComp e = true) : swapsWith e t l env = pure false := by cases e <;> first | rfl | cases h
theorem folded_of {e : Expr} {env : Env} (h : notSet e = true) : ∀ x, foldedSetIterable e env x = pure x := by cases e <;> first | (intro _; rfl) | cases h
theorem base_of {e : Expr} {n : Str} {env : Env} (h : notCall e = true) : attributeBase e n env (eval e env) = eval e env := by cases e <;> first | rfl | cases h
theorem assignEach_of {e : Expr} {es : List Expr} {env : Env} (h : plainE e = true) : assignEach (e :: es) env = (false, assign e env) :: assignEach es env := by cases e <;> first | rfl | cases h
theorem assignEach_len : ∀ {es : List Expr} {env : Env}, (assignEach es env).length = es.length
  | [], _ => rfl
  | e :: es, env => by
    cases hp : plainE e with
    | true => rw [assignEach_of hp, List.length_cons, List.length_cons, assignEach_len]
    | false =>
      cases e <;> first | (cases hp; done) | (show (assignEach es env).length + 1 = es.length + 1; rw [assignEach_len])
theorem assignEach_noStar : ∀ {es : List Expr} {env : Env}, es.all plainE = true → (assignEach es env).findIdx? (·.1) = none
  | [], _, _ => rfl
  | e :: es, env, h => by
    rw [List.all_cons, Bool.and_eq_true] at h
    rw [assignEach_of h.1, List.findIdx?_cons]
    simp [assignEach_noStar h.2]
def notTup : Expr → Bool
  | .Tuple .. => false
  | .List .. => false
  | _ => true
theorem stores_of {t e : Expr} {env : Env} (h : notTup t = true ∨ notTup e = true) : swappedStores [t] e env = pure none := by
  rcases h with h | h
  · cases t <;> first | rfl | cases h
  · cases t <;> cases e <;> first | rfl | cases h
def namesAt (env : Env) (ts : List Expr) : List Str := ts.filterMap fun
    | .Name id pos => if env.kindOf id == some .local && pos.line == (ts.head?.map (·.pos.line)).getD 0 then some id else none
    | _ => none
def hasStar (vs : List Expr) : Bool := vs.any fun | .Starred .. => true | _ => false
/-- two rows of a different look: no stores are swapped -/
def noSwapE (env : Env) (ts vs : List Expr) : Bool :=
  !(ts.length == 2 || ts.length == 3) || vs.length != ts.length || hasStar vs || (namesAt env ts).length != ts.length || (namesAt env ts).eraseDups.length != (namesAt env ts).length || vs.all (foldedForSure 8)
theorem noSwapE_of {ts vs : List Expr} {k k2 : Nat} {p p2 : Pos} {env : Env} (h : noSwapE env ts vs = true) : swappedStores [.Tuple ts k p] (.Tuple vs k2 p2) env = pure none := by
  unfold noSwapE at h
  unfold swappedStores
  show (if (!(ts.length == 2 || ts.length == 3) || vs.length != ts.length || env.blockKind != .function) = true then (pure none : Sem _) else if hasStar vs = true then pure none else
    if ((namesAt env ts).length != ts.length || (namesAt env ts).eraseDups.length != (namesAt env ts).length) = true then pure none else
    if vs.all (foldedForSure 8) = true then pure none else if vs.all (constantsAlone 8) = true then _ else _) = pure none
  simp only [Bool.or_eq_true] at h
  split
  · rfl
  · rename_i h1
    split
    · rfl
    · rename_i h2
      split
      · rfl
      · rename_i h3
        split
        · rfl
        · rename_i h4
          simp only [Bool.or_eq_true] at h1 h3
          rcases h with ((((h | h) | h) | h) | h) | h
          · exact absurd (.inl (.inl h)) h1
          · exact absurd (.inl (.inr h)) h1
          · exact absurd h h2
          · exact absurd (.inl h) h3
          · exact absurd (.inr h) h3
          · exact absurd h h4
def dumEnv (sc : Scope) : Env := envOfC "" sc 0 0 .none
theorem noSwap_of {sc : Scope} {ts vs : List Expr} {k k2 : Nat} {p p2 : Pos} {env : Env} (h : noSwapE (dumEnv sc) ts vs = true) (he : env.scope = sc) : swappedStores [.Tuple ts k p] (.Tuple vs k2 p2) env = pure none := by
  subst he; exact noSwapE_of (env := env) h
/-- plain local names on one line: they are -/
def swapE (env : Env) (ts vs : List Expr) : Bool :=
  (ts.length == 2 || ts.length == 3) && vs.length == ts.length && env.blockKind == .function && !hasStar vs && (namesAt env ts).length == ts.length && (namesAt env ts).eraseDups.length == (namesAt env ts).length && !vs.all (foldedForSure 8) && !vs.all (constantsAlone 8)
theorem swapE_of {ts vs : List Expr} {k k2 : Nat} {p p2 : Pos} {env : Env} (h : swapE env ts vs = true) : swappedStores [.Tuple ts k p] (.Tuple vs k2 p2) env = pure (some (namesAt env ts)) := by
  unfold swapE at h
  unfold swappedStores
  show (if (!(ts.length == 2 || ts.length == 3) || vs.length != ts.length || env.blockKind != .function) = true then (pure none : Sem _) else if hasStar vs = true then pure none else
    if ((namesAt env ts).length != ts.length || (namesAt env ts).eraseDups.length != (namesAt env ts).length) = true then pure none else
    if vs.all (foldedForSure 8) = true then pure none else if vs.all (constantsAlone 8) = true then _ else pure (some (namesAt env ts))) = _
  simp only [Bool.and_eq_true, Bool.not_eq_true'] at h
  obtain ⟨⟨⟨⟨⟨⟨⟨h1, h2⟩, h3⟩, h4⟩, h5⟩, h6⟩, h7⟩, h8⟩ := h
  rw [if_neg (by simp only [bne, h1, h2, h3]; decide), if_neg (by simp [h4]), if_neg (by simp only [bne, h5, h6]; decide), if_neg (by simp [h7]), if_neg (by simp [h8])]
theorem swap_of {sc : Scope} {ts vs : List Expr} {k k2 : Nat} {p p2 : Pos} {env : Env} (h : swapE (dumEnv sc) ts vs = true) (he : env.scope = sc) : swappedStores [.Tuple ts k p] (.Tuple vs k2 p2) env = pure (some (namesAt (dumEnv sc) ts)) := by
  subst he; exact swapE_of (env := env) h
theorem hall_of {kws : List Keyword} {pos : Pos} {env : Env} (h : kws.all (·.arg.isSome) = true) : (backToKw pos (keywordEach kws env)).all (·.1.isSome) = true := by
  induction kws with
  | nil => rfl
  | cons a r ih =>
    obtain ⟨n, v, p⟩ := a
    rw [List.all_cons, Bool.and_eq_true] at h
    show (n.isSome && (backToKw pos (keywordEach r env)).all (·.1.isSome)) = true
    rw [ih h.2, Bool.and_true]; exact h.1
theorem hks_of {kws : List Keyword} {pos : Pos} {env : Env} : (backToKw pos (keywordEach kws env)).filterMap (·.1) = kwNames kws := by
  unfold kwNames
  induction kws with
  | nil => rfl
  | cons a r ih =>
    obtain ⟨n, v, p⟩ := a
    show List.filterMap (·.1) ((n, _) :: backToKw pos (keywordEach r env)) = _
    cases n with
    | none => simpa using ih
    | some x => simpa using ih
theorem hnone_of {kws : List Keyword} {pos : Pos} {env : Env} (h : kws.all (·.arg.isSome) = true) : (backToKw pos (keywordEach kws env)).any (·.1.isNone) = false := by
  induction kws with
  | nil => rfl
  | cons a r ih =>
    obtain ⟨n, v, p⟩ := a
    rw [List.all_cons, Bool.and_eq_true] at h
    show (n.isNone || (backToKw pos (keywordEach r env)).any (·.1.isNone)) = false
    rw [ih h.2, Bool.or_false]
    have h1 := h.1
    cases n with
    | none => cases h1
    | some x => rfl
theorem kwNames_len {kws : List Keyword} (h : kws.all (·.arg.isSome) = true) : (kwNames kws).length = kws.length := by
  unfold kwNames
  induction kws with
  | nil => rfl
  | cons a r ih =>
    obtain ⟨n, v, p⟩ := a
    rw [List.all_cons, Bool.and_eq_true] at h
    have h1 := h.1
    cases n with
    | none => cases h1
    | some x => simpa using ih h.2

/-! ### calls -/
def findFn (x : Str) : List FnI → Option FnI
  | [] => none
  | f :: r => if f.x = x then some f else findFn x r
theorem findFn_mem {x : Str} : ∀ {l : List FnI} {f : FnI}, findFn x l = some f → f ∈ l ∧ f.x = x
  | [], _, h => by cases h
  | g :: r, f, h => by
    simp only [findFn] at h
    split at h
    · cases h; exact ⟨List.mem_cons_self .., by assumption⟩
    · obtain ⟨a, b⟩ := findFn_mem h; exact ⟨List.mem_cons_of_mem _ a, b⟩
def findPat (np : Nat) (ks : List Str) : List (Nat × List Str × List D × List Nat) → Option (List D × List Nat)
  | [] => none
  | (n, k, dd, sel) :: r => if n = np ∧ k = ks then some (dd, sel) else findPat np ks r
theorem findPat_mem {np : Nat} {ks : List Str} : ∀ {l : List (Nat × List Str × List D × List Nat)} {dd : List D} {sel : List Nat}, findPat np ks l = some (dd, sel) → (np, ks, dd, sel) ∈ l
  | [], _, _, h => by cases h
  | (n, k, d, s) :: r, dd, sel, h => by
    simp only [findPat] at h
    split at h
    · rename_i hc
      obtain ⟨rfl, rfl⟩ := hc
      cases h; exact List.mem_cons_self ..
    · exact List.mem_cons_of_mem _ (findPat_mem h)
def cCallFn (rc : Rc) (I : Inf) (x : Str) (p : Pos) (es : List Expr) (kws : List Keyword) (pos : Pos) : Option (CE I (.Call (.Name x p) es kws pos)) :=
  if hk : kws.all (·.arg.isSome) = true ∧ es.all plainE = true then
    if hg : I.sc.names.lookup x = some .globalImplicit ∧ (x == ("__debug__" : Str)) = false then
      match hf : findFn x I.fns with
      | none => none
      | some f => match hp : findPat es.length (kwNames kws) f.pats with
        | none => none
        | some (dd, sel) => match es, hk, hp, cAgs rc I f.lent 0 es, cKws rc I kws with
          | [], hk, hp, _, some ⟨ms, hl, hs⟩ => some ⟨callG I.N.length f.fn sel dd [] ms, fun X E ok => by
              obtain ⟨h1, rfl⟩ := findFn_mem hf
              exact pr_callG0 (ok.fns f h1 _ (findPat_mem hp)) (Gl_of hg.1 ok) (hs X E ok) rfl (by rw [hl, kwNames_len hk.1]) hg.2 (hall_of hk.1) hks_of (by rw [hnone_of hk.1]; rfl)⟩
          | e :: es, hk, hp, some ⟨as, ha, hs⟩, some ⟨ms, hl, hm⟩ => some ⟨callG I.N.length f.fn sel dd as ms, fun X E ok => by
              obtain ⟨h1, rfl⟩ := findFn_mem hf
              have hpl := hk.2
              rw [List.all_cons, Bool.and_eq_true] at hpl
              exact pr_callG (ok.fns f h1 _ (findPat_mem hp)) (Gl_of hg.1 ok) (hs X E ok) (hm X E ok) ha (by rw [hl, kwNames_len hk.1]) hg.2 (hall_of hk.1) hks_of (star_of hpl.1) (by rw [hnone_of hk.1, noStar hk.2]; rfl)⟩
          | _, _, _, _, _ => none
    else none
  else none

/-- the places of the own names among the arguments -/
def nameIx (I : Inf) : Nat → List Expr → List Nat
  | _, [] => []
  | k, .Name x _ :: r => if I.N.contains x = true then k :: nameIx I (k + 1) r else nameIx I (k + 1) r
  | k, _ :: r => nameIx I (k + 1) r
def cCallL (rc : Rc) (I : Inf) (x : Str) (p : Pos) (es : List Expr) (kws : List Keyword) (pos : Pos) : Option (CE I (.Call (.Name x p) es kws pos)) :=
  if hk : kws.all (·.arg.isSome) = true ∧ es.all plainE = true then
    if hg : I.sc.names.lookup x = some .globalImplicit ∧ (x == ("__debug__" : Str)) = false then
      match hf : findFn x I.fns with
      | none => none
      | some f => if f.lz = true then match hp : findPat es.length (kwNames kws) f.pats with
        | none => none
        | some (dd, sel) => match es, hk, hp, cAgs rc I (nameIx I 0 es) 0 es, cKws rc I kws with
          | e :: es, hk, hp, some ⟨as, ha, hs⟩, some ⟨ms, hl, hm⟩ => some ⟨callL I.N.length f.fn sel dd as ms, fun X E ok => by
              obtain ⟨h1, rfl⟩ := findFn_mem hf
              have hpl := hk.2
              rw [List.all_cons, Bool.and_eq_true] at hpl
              exact pr_callL (ok.fns f h1 _ (findPat_mem hp)) (Gl_of hg.1 ok) (hs X E ok) (hm X E ok) ha (by rw [hl, kwNames_len hk.1]) hg.2 (hall_of hk.1) hks_of (star_of hpl.1) (by rw [hnone_of hk.1, noStar hk.2]; rfl)⟩
          | _, _, _, _, _ => none
        else none
    else none
  else none

/-! built-in functions -/
structure Blt where
  x : Str
  ty : Bool
  id : String
  f : List D → Option S
  ok : ∀ X : Cx, X.calm = true → X.A.guards = some [] → X.A.units + 64 < cLine → ∃ r, CallR X (if ty then .type id else .builtin id) r ∧ ON (gx X) r f
  boot : bootBuiltins x = some (if ty then .type id else .builtin id)
  nm : x ≠ "__name__"
  db : (x == ("__debug__" : Str)) = false
def blts : List Blt := [
  ⟨"len", false, "len", lenD, fun X hc gd un => ⟨_, call_lenD, on_len⟩, rfl, by decide, by decide⟩,
  ⟨"abs", false, "abs", absD, fun X hc gd un => ⟨_, call_abs, on_abs⟩, rfl, by decide, by decide⟩,
  ⟨"max", false, "max", maxF, fun X hc gd un => ⟨_, (call_max2 hc).or (cr_max hc), on_maxF⟩, rfl, by decide, by decide⟩,
  ⟨"min", false, "min", minF, fun X hc gd un => ⟨_, (call_min2 hc).or (cr_min hc), on_minF⟩, rfl, by decide, by decide⟩,
  ⟨"int", true, "int", intF, fun X hc gd un => ⟨_, call_intD, on_int⟩, rfl, by decide, by decide⟩,
  ⟨"str", true, "str", strF, fun X hc gd un => ⟨_, call_strD, on_str⟩, rfl, by decide, by decide⟩,
  ⟨"list", true, "list", listF, fun X hc gd un => ⟨_, call_list_of, on_list⟩, rfl, by decide, by decide⟩,
  ⟨"tuple", true, "tuple", tupleF, fun X hc gd un => ⟨_, call_tuple_of, on_tuple⟩, rfl, by decide, by decide⟩,
  ⟨"any", false, "any", boolsD (·.any id), fun X hc gd un => ⟨_, cr_any hc, on_bools⟩, rfl, by decide, by decide⟩,
  ⟨"all", false, "all", boolsD (·.all id), fun X hc gd un => ⟨_, cr_all hc, on_bools⟩, rfl, by decide, by decide⟩,
  ⟨"sum", false, "sum", sumD, fun X hc gd un => ⟨_, cr_sum hc, on_sum⟩, rfl, by decide, by decide⟩,
  ⟨"type", true, "type", typeF, fun X hc gd un => ⟨_, call_type1, on_type⟩, PyProof.Rows.boot_type, by decide, by decide⟩,
  ⟨"repr", false, "repr", reprD, fun X hc gd un => ⟨_, call_reprD gd un, on_repr⟩, PyProof.Rows.boot_repr, by decide, by decide⟩]
def findBlt (x : Str) : List Blt → Option Blt
  | [] => none
  | b :: r => if b.x = x then some b else findBlt x r
theorem findBlt_x {x : Str} : ∀ {l : List Blt} {b : Blt}, findBlt x l = some b → b.x = x
  | [], _, h => by cases h
  | g :: r, f, h => by
    simp only [findBlt] at h
    split at h
    · cases h; assumption
    · exact findBlt_x h
def cCallBlt (rc : Rc) (I : Inf) (x : Str) (p : Pos) (es : List Expr) (pos : Pos) : Option (CE I (.Call (.Name x p) es [] pos)) :=
  if hg : I.sc.names.lookup x = some .globalImplicit ∧ I.blt.contains x = true ∧ es.all plainE = true then
    match hb : findBlt x blts with
    | none => none
    | some b => match es, hg, cArgs rc I es with
      | e :: es, hg, some ⟨ms, hl, hs⟩ => some ⟨opN b.f ms, fun X E ok => by
          have hx := findBlt_x hb
          subst hx
          obtain ⟨r, h1, h2⟩ := b.ok X ok.calm ok.gd ok.un
          have hmg := ok.blt b.x (by simpa using hg.2.1)
          have hpl := hg.2.2
          rw [List.all_cons, Bool.and_eq_true] at hpl
          cases hty : b.ty with
          | true =>
            have hbo := b.boot
            rw [hty, if_pos rfl] at h1 hbo
            exact (pe_callTy h1 (Gl_of hg.1 ok) hmg hbo (hs X E ok).2 b.nm b.db (star_of hpl.1) (noStar hpl.2)).imp fun σ H Q w => t_opN h2 w
          | false =>
            have hbo := b.boot
            rw [hty, if_neg Bool.false_ne_true] at h1 hbo
            exact (pe_callB h1 (Gl_of hg.1 ok) hmg hbo (hs X E ok).2 b.nm b.db (star_of hpl.1) (noStar hpl.2)).imp fun σ H Q w => t_opN h2 w⟩
      | _, _, _ => none
  else none
/-! gcd, of math -/
def cCallGcd (rc : Rc) (I : Inf) (x : Str) (p : Pos) (es : List Expr) (pos : Pos) : Option (CE I (.Call (.Name x p) es [] pos)) :=
  if hg : I.sc.names.lookup x = some .globalImplicit ∧ (x == ("__debug__" : Str)) = false ∧ es.all plainE = true then
    if hi : (x, "math.gcd") ∈ I.imp then
      match es, hg, cArgs rc I es with
      | e :: es, hg, some ⟨ms, hl, hs⟩ => some ⟨opN gcdD ms, fun X E ok => by
          have hpl := hg.2.2
          rw [List.all_cons, Bool.and_eq_true] at hpl
          exact (pe_callBfun cr_gcd (Gl_of hg.1 ok) (ok.imp _ hi) (hs X E ok).2 hg.2.1 (star_of hpl.1) (noStar hpl.2)).imp fun σ H Q w => t_opN on_gcd w⟩
      | _, _, _ => none
    else none
  else none
end Ev

set_option Elab.async false
set_option linter.all false
set_option maxRecDepth 100000
namespace Ev
open PySem PySem.Spec PyProof.Rows L2

/-! ### isinstance -/
def tyNames : List String := ["int", "str", "bool", "list", "tuple", "dict", "set", "bytes"]
/-- a name of a built-in type -/
def tyOf (I : Inf) : Expr → Option String
  | .Name x _ => if I.sc.names.lookup x = some .globalImplicit ∧ I.blt.contains x = true ∧ x ≠ "__name__" ∧ (x == ("__debug__" : Str)) = false then
      (match bootBuiltins x with
       | some (.type n) => some n
       | _ => none)
    else none
  | _ => none
theorem tyOf_ok {I : Inf} {e : Expr} {n : String} (h : tyOf I e = some n) {X : Cx} {E : WS} (ok : InfOk I X E) : PE X e (tC (.ty n)) ∧ plainE e = true := by
  cases e <;> simp only [tyOf] at h <;> try (cases h; done)
  split at h
  · rename_i hc
    split at h
    · rename_i m hb
      cases h
      exact ⟨pe_bltn (Gl_of hc.1 ok) (ok.blt _ (by simpa using hc.2.1)) hb (v := .ty n) rfl hc.2.2.1 hc.2.2.2, rfl⟩
    · cases h
  · cases h
def tysOf (I : Inf) : List Expr → Option (List String)
  | [] => some []
  | e :: es => match tyOf I e, tysOf I es with
    | some n, some ns => some (n :: ns)
    | _, _ => none
theorem tysOf_ok {I : Inf} : ∀ {es : List Expr} {ns : List String}, tysOf I es = some ns → ∀ {X : Cx} {E : WS}, InfOk I X E → Paired (fun e n => PE X e (tC (.ty n)) ∧ ∀ r : List Expr, starEach (e :: r) X.env = (false, eval e X.env) :: starEach r X.env) es ns
  | [], _, h, _, _, _ => by cases h; exact .nil
  | e :: es, _, h, X, E, ok => by
    simp only [tysOf] at h
    split at h
    · rename_i h1 h2
      cases h
      obtain ⟨a, b⟩ := tyOf_ok h1 ok
      exact .cons ⟨a, fun r => star_of b⟩ (tysOf_ok h2 ok)
    · cases h
def cIsi (rc : Rc) (I : Inf) (p : Pos) (es : List Expr) (pos : Pos) : Option (CE I (.Call (.Name "isinstance" p) es [] pos)) :=
  if hg : I.sc.names.lookup ("isinstance" : Str) = some .globalImplicit ∧ I.blt.contains "isinstance" = true then
    match es with
    | [a, b] => if hp : plainE a = true then match rc.E I a with
      | none => none
      | some ⟨ma, ha⟩ => match h1 : tyOf I b with
        | some n => some ⟨op1 (isi1D n) ma, fun X E ok => by
            obtain ⟨hb, pb⟩ := tyOf_ok h1 ok
            exact pr_isi1 (Gl_of hg.1 ok) (ok.blt _ (by simpa using hg.2)) hb (ha X E ok) (star_of hp) (star_of pb) (noStar (by rw [List.all_cons, pb]; rfl))⟩
        | none => match b with
          | .Tuple ts k tp => match h2 : tysOf I ts with
            | some ns => if hl : ns.length ≤ 1000 then some ⟨op1 (isiD ns) ma, fun X E ok => pr_isiT (Gl_of hg.1 ok) (ok.blt _ (by simpa using hg.2)) (tysOf_ok h2 ok) hl (ha X E ok) (star_of hp) rfl rfl⟩ else none
            | none => none
          | _ => none
      else none
    | _ => none
  else none
/-- f(e), e a new list: lent for the call alone -/
def cCallT (rc : Rc) (I : Inf) (x : Str) (p : Pos) (pos : Pos) : ∀ (es : List Expr) (kws : List Keyword), Option (CE I (.Call (.Name x p) es kws pos))
  | [e], [] => if hg : I.sc.names.lookup x = some .globalImplicit ∧ (x == ("__debug__" : Str)) = false ∧ plainE e = true then
      match hf : findFn x I.fns with
      | none => none
      | some f => match hp : findPat 1 [] f.pats with
        | some ([], [0]) => if hn : f.n = 1 ∧ f.lent = [0] then match rc.E I e with
            | some ⟨m, h⟩ => some ⟨callT I.N.length f.fn m, fun X E ok => by
                obtain ⟨h1, rfl⟩ := findFn_mem hf
                have hh := ok.fns f h1 _ (findPat_mem hp)
                rw [hn.1] at hh
                exact pr_callT hh (by rw [ok.hN]) (Gl_of hg.1 ok) (h X E ok) hg.2.1 (star_of hg.2.2)⟩
            | none => none
          else none
        | _ => none
    else none
  | _, _ => none
/-- len(set(e)), sorted(set(e)), e texts -/
def cSetOf (rc : Rc) (I : Inf) (x : Str) (p : Pos) (pos : Pos) : ∀ es : List Expr, Option (CE I (.Call (.Name x p) es [] pos))
  | [.Call (.Name y p2) [a] [] q] =>
    if hg : y = "set" ∧ I.sc.names.lookup ("set" : Str) = some .globalImplicit ∧ I.blt.contains "set" = true ∧ plainE a = true then
      match cArgs rc I [a] with
      | none => none
      | some ⟨ms, _, hs⟩ =>
        if hx : x = "len" ∧ I.sc.names.lookup ("len" : Str) = some .globalImplicit ∧ I.blt.contains "len" = true then some ⟨opN lenSetD ms, fun X E ok => by
          obtain ⟨rfl, g2, b2, pa⟩ := hg
          obtain ⟨rfl, g1, b1⟩ := hx
          exact pe_lenSetT ok.calm (Gl_of g1 ok) (ok.blt _ (by simpa using b1)) (Gl_of g2 ok) (ok.blt _ (by simpa using b2)) (hs X E ok).2 (star_of pa)⟩
        else if hx : x = "sorted" ∧ I.sc.names.lookup ("sorted" : Str) = some .globalImplicit ∧ I.blt.contains "sorted" = true then some ⟨opN sortSetD ms, fun X E ok => by
          obtain ⟨rfl, g2, b2, pa⟩ := hg
          obtain ⟨rfl, g1, b1⟩ := hx
          exact pe_sortSetT ok.calm (Gl_of g1 ok) (ok.blt _ (by simpa using b1)) (Gl_of g2 ok) (ok.blt _ (by simpa using b2)) (hs X E ok).2 (star_of pa)⟩
        else none
    else none
  | _ => none
/-- sum(lists, list) -/
def cSum2 (rc : Rc) (I : Inf) (x : Str) (p : Pos) (pos : Pos) : ∀ es : List Expr, Option (CE I (.Call (.Name x p) es [] pos))
  | [a, b] =>
    if hg : x = "sum" ∧ I.sc.names.lookup ("sum" : Str) = some .globalImplicit ∧ I.blt.contains "sum" = true ∧ plainE a = true ∧ plainE b = true then
      match cArgs rc I [a, b] with
      | none => none
      | some ⟨ms, _, hs⟩ => some ⟨sumLM ms, fun X E ok => by
          obtain ⟨rfl, g1, b1, pa, pb⟩ := hg
          exact (pe_callB (cr_sumL ok.calm) (Gl_of g1 ok) (ok.blt _ (by simpa using b1)) (show bootBuiltins "sum" = some (.builtin "sum") from rfl) (hs X E ok).1 (by decide) (by decide) (star_of pa) (noStar (by rw [List.all_cons, pb]; rfl))).imp fun σ H Q w => t_sumL w⟩
    else none
  | _ => none
/-- list(zip(a, b)) -/
def cListZip (rc : Rc) (I : Inf) (x : Str) (p : Pos) (pos : Pos) : ∀ es : List Expr, Option (CE I (.Call (.Name x p) es [] pos))
  | [.Call (.Name y p2) [a, b] [] q] =>
    if hg : (x = "list" ∧ y = "zip") ∧ (I.sc.names.lookup ("list" : Str) = some .globalImplicit ∧ I.blt.contains "list" = true) ∧ (I.sc.names.lookup ("zip" : Str) = some .globalImplicit ∧ I.blt.contains "zip" = true) ∧ plainE a = true ∧ plainE b = true then
      match rc.E I a, rc.E I b with
      | some ⟨ma, ha⟩, some ⟨mb, hb⟩ => some ⟨lzM ma mb, fun X E ok => by
          obtain ⟨⟨rfl, rfl⟩, ⟨g1, b1⟩, ⟨g2, b2⟩, pa, pb⟩ := hg
          exact pr_lz ok.calm (Gl_of g1 ok) (ok.blt _ (by simpa using b1)) (Gl_of g2 ok) (ok.blt _ (by simpa using b2)) (ha X E ok) (hb X E ok) (star_of pa) (star_of pb) (noStar (by rw [List.all_cons, pb]; rfl))⟩
      | _, _ => none
    else none
  | _ => none
/-! own exceptions as values -/
def cNew (I : Inf) (rc : Rc) (x : Str) (p : Pos) (pos : Pos) : ∀ (es : List Expr) (kws : List Keyword), Option (CE I (.Call (.Name x p) es kws pos))
  | [e], [] => if h : I.rz = true ∧ I.sc.names.lookup x = some .globalImplicit ∧ (x == ("__debug__" : Str)) = false ∧ plainE e = true then
      match hf : findX x I.exs, rc.E I e with
      | some c, some ⟨m, k⟩ => if hz : c.z = false then some ⟨newM c m, fun X E ok => by
          obtain ⟨h1, h2, h3, h4⟩ := h
          obtain ⟨hm, ex⟩ := findX_mem hf
          subst ex
          exact pr_newX hz ((ok.xs h1).ex c hm) (Gl_of h2 ok) (k X E ok) h3 (star_of h4)⟩
        else none
      | _, _ => none
    else none
  | [], [⟨some q, e, kp⟩] => if h : I.rz = true ∧ I.sc.names.lookup x = some .globalImplicit ∧ (x == ("__debug__" : Str)) = false then
      match hf : findX x I.exs, rc.E I e with
      | some c, some ⟨m, k⟩ => if hz : c.z = false ∧ q = c.p then some ⟨newM c m, fun X E ok => by
          obtain ⟨h1, h2, h3⟩ := h
          obtain ⟨hm, ex⟩ := findX_mem hf
          obtain ⟨hz, rfl⟩ := hz
          subst ex
          exact pr_newXk hz ((ok.xs h1).ex c hm) (Gl_of h2 ok) (k X E ok) h3⟩
        else none
      | _, _ => none
    else none
  | [], [] => if h : I.rz = true ∧ I.sc.names.lookup x = some .globalImplicit ∧ (x == ("__debug__" : Str)) = false then
      match hf : findX x I.exs with
      | some c => if hz : c.z = true then some ⟨new0M c.x, fun X E ok => by
          obtain ⟨h1, h2, h3⟩ := h
          obtain ⟨hm, ex⟩ := findX_mem hf
          subst ex
          exact pr_new0 (((ok.xs h1).ex c hm).e0 hz) (Gl_of h2 ok) h3⟩
        else none
      | none => none
    else none
  | _, _ => none
def cIsx (rc : Rc) (I : Inf) (p : Pos) (pos : Pos) : ∀ es : List Expr, Option (CE I (.Call (.Name "isinstance" p) es [] pos))
  | [a, .Name y py] => if h : I.rz = true ∧ I.blt.contains "isinstance" = true ∧ I.sc.names.lookup ("isinstance" : Str) = some .globalImplicit ∧ I.sc.names.lookup y = some .globalImplicit ∧ (y == ("__debug__" : Str)) = false ∧ plainE a = true then
      match hf : findC y I.cls, rc.E I a with
      | some tb, some ⟨m, k⟩ => some ⟨op1 (isxD tb) m, fun X E ok => by
          obtain ⟨h1, h2, h3, h4, h5, h6⟩ := h
          obtain ⟨cc, cv, hcv, hn, htb, _⟩ := (ok.xs h1).cl _ (findC_mem hf)
          have hb : PE X (.Name y py) (tC cc) := by
            rcases hn with ⟨n1, r⟩ | ⟨n1, n2, r, n3⟩
            · exact pe_glob (Gl_of h4 ok) n1 r h5
            · exact pe_bltn (Gl_of h4 ok) n1 n2 r n3 h5
          exact pr_isx (Gl_of h3 ok) (ok.blt _ (by simpa using h2)) htb hb hcv (k X E ok) (star_of h6) rfl rfl⟩
      | _, _ => none
    else none
  | _ => none
def cFld (rc : Rc) (I : Inf) (e : Expr) (f : Str) (pos : Pos) : Option (CE I (.Attribute e f pos)) :=
  if h : I.rz = true ∧ notCall e = true then
    match rc.E I e with
    | some ⟨m, k⟩ => some ⟨op1 (fldD I.exs f) m, fun X E ok => pr_fld (ok.xs h.1).su (k X E ok) (base_of h.2)⟩
    | none => none
  else none
def cCall (rc : Rc) (I : Inf) (x : Str) (p : Pos) (es : List Expr) (kws : List Keyword) (pos : Pos) : Option (CE I (.Call (.Name x p) es kws pos)) :=
  match cCallL rc I x p es kws pos with
  | some c => some c
  | none => match cCallFn rc I x p es kws pos with
  | some c => some c
  | none => match cCallT rc I x p pos es kws with
   | some c => some c
   | none => match cNew I rc x p pos es kws with
   | some c => some c
   | none => match kws with
    | [] => if h : x = "isinstance" then match cIsi rc I p es pos with
        | some c => some ⟨c.1, by subst h; exact c.2⟩
        | none => (cIsx rc I p pos es).map fun c => ⟨c.1, by subst h; exact c.2⟩
      else match cListZip rc I x p pos es with
        | some c => some c
        | none => match cSetOf rc I x p pos es with
        | some c => some c
        | none => match cSum2 rc I x p pos es with
        | some c => some c
        | none => match cCallBlt rc I x p es pos with
        | some c => some c
        | none => cCallGcd rc I x p es pos
    | _ => none

/-! ### methods -/
theorem type_append : typeOf (.builtin "list.append") = pure (.type "method_descriptor") := PySem.F.type_list_append
def bitsD : D → Option S
  | .int i => some (.d (.int (Builtin.Int.intBits i : Nat)))
  | _ => none
def cBits (rc : Rc) (I : Inf) (o : Expr) (name : Str) (ap : Pos) (pos : Pos) (hb : notCall o = true ∧ (ap.endLine == pos.line) = true) : Option (CE I (.Call (.Attribute o name ap) [] [] pos)) :=
  if hn : name = "bit_length" then match rc.E I o with
    | some ⟨m, h⟩ => some ⟨op1 bitsD m, fun X E ok => by
        subst hn
        refine (pe_bits (pr_opd (h X E ok)) (base_of hb.1) hb.2).imp fun σ H Q w => t_op1 (r := fun x H Q => ∃ i, x = .int i ∧ Q (.int (Builtin.Int.intBits i : Nat)) H) (fun O F H x d s Q fh bx ef q => ?_) w
        unfold bitsD at ef
        split at ef
        · cases ef; exact ⟨_, bx.int, q F H _ (Grow.refl fh) (.int _)⟩
        · cases ef⟩
    | none => none
  else none
/-- a method of a list that a name holds alone -/
def cLM (rc : Rc) (I : Inf) (x : Str) (p : Pos) (name : Str) (ap : Pos) (es : List Expr) (pos : Pos) (hb : (ap.endLine == pos.line) = true) : Option (CE I (.Call (.Attribute (.Name x p) name ap) es [] pos)) :=
  if hd : (x == ("__debug__" : Str)) = false ∧ (x == ("__classdict__" : Str)) = false then
    if hi : I.N[ixOf x I.N 0]? = some x then
      if hv : I.sc.names.lookup x = some .local ∨ I.sc.names.lookup x = some .cell ∨ I.sc.names.lookup x = some .free then
        match hf : findLM name lmeths with
        | none => none
        | some b => match es with
          | [] => some ⟨meth (ixOf x I.N 0) b.f [], fun X E ok => by
              have hx := findLM_x hf
              subst hx
              obtain ⟨r, h1, h2⟩ := b.ok X
              have hnm := pr_name (X := X) (E := E) (pos := p) (i := ixOf x I.N 0) (x := x) (by rw [ok.hN]; exact hi) (by unfold Vis; rw [ok.sc]; exact hv) hd.1 hd.2
              exact (pe_bm0 PySem.F.plainAttrs_list b.slot b.ty h1 (pr_opd hnm) rfl hb).imp (t_meth1 h2)⟩
          | [e] => if hp : plainE e = true then match rc.E I e with
              | some ⟨m, h⟩ => some ⟨meth (ixOf x I.N 0) b.f [m], fun X E ok => by
                  have hx := findLM_x hf
                  subst hx
                  obtain ⟨r, h1, h2⟩ := b.ok X
                  have hnm := pr_name (X := X) (E := E) (pos := p) (i := ixOf x I.N 0) (x := x) (by rw [ok.hN]; exact hi) (by unfold Vis; rw [ok.sc]; exact hv) hd.1 hd.2
                  exact (pe_bm PySem.F.plainAttrs_list b.slot b.ty h1 (pr_opd hnm) (pa_args (h X E ok) pa_args_nil (star_of hp)) rfl (by rw [star_of hp]; rfl) hb (star_of hp) rfl).imp (t_meth h2)⟩
              | none => none
            else none
          | [e, e2] => if hp : plainE e = true ∧ plainE e2 = true then match rc.E I e, rc.E I e2 with
              | some ⟨m, h⟩, some ⟨m2, h'⟩ => some ⟨meth (ixOf x I.N 0) b.f [m, m2], fun X E ok => by
                  have hx := findLM_x hf
                  subst hx
                  obtain ⟨r, h1, h2⟩ := b.ok X
                  have hnm := pr_name (X := X) (E := E) (pos := p) (i := ixOf x I.N 0) (x := x) (by rw [ok.hN]; exact hi) (by unfold Vis; rw [ok.sc]; exact hv) hd.1 hd.2
                  exact (pe_bm PySem.F.plainAttrs_list b.slot b.ty h1 (pr_opd hnm) (pa_args (h X E ok) (pa_args (h' X E ok) pa_args_nil (star_of hp.2)) (star_of hp.1)) rfl (by rw [star_of hp.1, star_of hp.2]; rfl) hb (star_of hp.1) (by rw [star_of hp.2]; rfl)).imp (t_meth h2)⟩
              | _, _ => none
            else none
          | _ => none
      else none
    else none
  else none
/-- d.update(e), d a dict that a name holds alone, e a new one -/
def cUpd (rc : Rc) (I : Inf) (x : Str) (p : Pos) (name : Str) (ap : Pos) (e : Expr) (pos : Pos) (hb : (ap.endLine == pos.line) = true) : Option (CE I (.Call (.Attribute (.Name x p) name ap) [e] [] pos)) :=
  if hd : (x == ("__debug__" : Str)) = false ∧ (x == ("__classdict__" : Str)) = false ∧ name = "update" ∧ plainE e = true then
    if hi : I.N[ixOf x I.N 0]? = some x then
      if hv : I.sc.names.lookup x = some .local ∨ I.sc.names.lookup x = some .cell ∨ I.sc.names.lookup x = some .free then
        match rc.E I e with
        | some ⟨m, h⟩ => some ⟨updM (ixOf x I.N 0) m, fun X E ok => by
            obtain ⟨h1, h2, rfl, hp⟩ := hd
            have hnm := pr_name (X := X) (E := E) (pos := p) (i := ixOf x I.N 0) (x := x) (by rw [ok.hN]; exact hi) (by unfold Vis; rw [ok.sc]; exact hv) h1 h2
            exact (pe_bm PySem.F.plainAttrs_dict PySem.F.slot_dict_update PySem.F.type_dict_update mt_dupd (pr_opd hnm) (pa_cons (h X E ok) pa_nil (star_of hp)) rfl (by rw [star_of hp]; rfl) hb (star_of hp) rfl).imp t_upd⟩
        | none => none
      else none
    else none
  else none
/-- a method of a text -/
def cSM (rc : Rc) (I : Inf) (o : Expr) (name : Str) (ap : Pos) (pos : Pos) (hb : notCall o = true ∧ (ap.endLine == pos.line) = true) : ∀ es : List Expr, Option (CE I (.Call (.Attribute o name ap) es [] pos))
  | [] => match hf : findSM name smeths, rc.E I o with
    | some b, some ⟨mo, ho⟩ => some ⟨methS b.f mo [], fun X E ok => by
        have hx := findSM_x hf
        subst hx
        obtain ⟨r, h1, h2⟩ := b.ok X
        exact (pe_bm0 PySem.F.plainAttrs_str b.slot b.ty h1 (pr_opd (ho X E ok)) (base_of hb.1) hb.2).imp fun σ H Q w => t_methS0 h2 w⟩
    | _, _ => none
  | [e] => if hp : plainE e = true then match hf : findSM name smeths, rc.E I o, rc.E I e with
    | some b, some ⟨mo, ho⟩, some ⟨m, h⟩ => some ⟨methS b.f mo [m], fun X E ok => by
        have hx := findSM_x hf
        subst hx
        obtain ⟨r, h1, h2⟩ := b.ok X
        exact (pe_bm PySem.F.plainAttrs_str b.slot b.ty h1 (pr_opd (ho X E ok)) (pa_ops (h X E ok) pa_ops_nil (star_of hp)) (base_of hb.1) (by rw [star_of hp]; rfl) hb.2 (star_of hp) rfl).imp fun σ H Q w => t_methS h2 w⟩
    | _, _, _ => none
    else none
  | _ => none
def cMeth (rc : Rc) (I : Inf) (o : Expr) (name : Str) (ap : Pos) (es : List Expr) (pos : Pos) : Option (CE I (.Call (.Attribute o name ap) es [] pos)) :=
  if hb : notCall o = true ∧ (ap.endLine == pos.line) = true then
    match cSM rc I o name ap pos hb es with
    | some c => some c
    | none => match o, es, hb with
      | .Name x p, [e], hb => match cUpd rc I x p name ap e pos hb.2 with
        | some c => some c
        | none => cLM rc I x p name ap [e] pos hb.2
      | .Name x p, es, hb => match cLM rc I x p name ap es pos hb.2 with
        | some c => some c
        | none => match es with
          | [] => cBits rc I (.Name x p) name ap pos hb
          | _ => none
      | o, [], hb => cBits rc I o name ap pos hb
      | _, _, _ => none
  else none

/-! ### displays, subscripts -/
/-- the keys whose lists are shared -/
def sharedK : List Str := ["wide"]
abbrev CDi (I : Inf) (pos : Pos) (keys : List (Option Expr)) (values : List Expr) := { p : List Str × List (M D) // (p.1.length = p.2.length ∧ p.1.length = keys.length) ∧ ∀ X E, InfOk I X E → ∃ trs, PPs X pos keys values trs ∧ Paired (fun (q : Str × M D) (t : TE × TE) => t = (tC (.str q.1), tD (gx X) E q.2)) (p.1.zip p.2) trs }
def cPairs (rc : Rc) (I : Inf) (pos : Pos) : ∀ (keys : List (Option Expr)) (values : List Expr), Option (CDi I pos keys values)
  | [], [] => some ⟨([], []), ⟨rfl, rfl⟩, fun X E ok => ⟨[], pps_nil, .nil⟩⟩
  | some (.Constant (.str k) j kp) :: ks, v :: vs => match rc.E I v, cPairs rc I pos ks vs with
    | some ⟨m, h⟩, some ⟨(a, b), hl, hs⟩ => if sharedK.contains k then
        some ⟨(k :: a, locM I.N.length m :: b), ⟨by simp [hl.1], by simp [hl.2]⟩, fun X E ok => by
          obtain ⟨trs, h1, h2⟩ := hs X E ok
          exact ⟨_, pps_cons pe_str (pr_loc (h X E ok)) h1, .cons rfl h2⟩⟩
      else some ⟨(k :: a, datM m :: b), ⟨by simp [hl.1], by simp [hl.2]⟩, fun X E ok => by
          obtain ⟨trs, h1, h2⟩ := hs X E ok
          exact ⟨_, pps_cons pe_str (pr_dat (h X E ok)) h1, .cons rfl h2⟩⟩
    | _, _ => none
  | _, _ => none
def cDict (rc : Rc) (I : Inf) (pos : Pos) : ∀ (keys : List (Option Expr)) (values : List Expr), Option (CE I (.Dict keys values pos))
  | [], [] => some ⟨retM (.od [] []), fun X E ok => pr_disp0⟩
  | keys, values => match cPairs rc I pos keys values with
    | some ⟨(ks, ms), hl, hs⟩ => if hk : keys.all (·.isSome) = true ∧ keys.length = values.length ∧ keys ≠ [] ∧ keys.length ≤ 15 ∧ ks.Nodup then
        some ⟨dispM ks ms, fun X E ok => by
          obtain ⟨trs, h1, h2⟩ := hs X E ok
          exact pr_disp h1 h2 hk.1 hk.2.1 hk.2.2.1 hk.2.2.2.1 hl.1 hl.2 hk.2.2.2.2⟩
      else none
    | none => none
def cTup (rc : Rc) (I : Inf) (es : List Expr) (k : Nat) (pos : Pos) : Option (CE I (.Tuple es k pos)) :=
  match cArgs rc I es with
  | some ⟨ms, hl, h⟩ => if hs : ms.length ≤ 1000 then some ⟨tupM ms, fun X E ok => pr_tup (h X E ok).1 hs⟩ else none
  | none => none
def cLst (rc : Rc) (I : Inf) (es : List Expr) (pos : Pos) : Option (CE I (.List es pos)) :=
  match cArgs rc I es with
  | some ⟨ms, hl, h⟩ => if hs : ms.length ≤ 1000 then some ⟨lstM ms, fun X E ok => pr_lst (h X E ok).1 hs⟩ else none
  | none => none
abbrev CO (I : Inf) (e : Option Expr) := { m : Option (M R) // ∀ X E, InfOk I X E → PO X e (tP (gx X) E (partM m)) }
def cPart (rc : Rc) (I : Inf) : ∀ e : Option Expr, Option (CO I e)
  | none => some ⟨none, fun X E ok => po_no⟩
  | some e => match rc.E I e with
    | some ⟨m, h⟩ => some ⟨some m, fun X E ok => po_is (h X E ok)⟩
    | none => none
def cSub (rc : Rc) (I : Inf) (a b : Expr) (pos : Pos) : Option (CE I (.Subscript a b pos)) :=
  match b with
  | .Slice lo hi none p2 => match rc.E I a, cPart rc I lo, cPart rc I hi with
    | some ⟨ma, ha⟩, some ⟨ml, hl⟩, some ⟨mh, hh⟩ => some ⟨slM ma ml mh slD, fun X E ok => pr_sl (ha X E ok) (hl X E ok) (hh X E ok)⟩
    | _, _, _ => none
  | .Slice none none (some (.UnaryOp .USub (.Constant (.int 1) k p1) p2)) p3 => match rc.E I a with
    | some ⟨ma, ha⟩ => some ⟨op1 revLD ma, fun X E ok => pr_rev (ha X E ok)⟩
    | none => none
  | b => if hn : notSlice b = true then match rc.E I a, rc.E I b with
    | some ⟨ma, ha⟩, some ⟨mb, hb⟩ => some ⟨ixM I.N.length ma mb, fun X E ok => pr_ixM ok.un (ha X E ok) (hb X E ok) (plainIx_of hn)⟩
    | _, _ => none
    else none

/-! ### targets -/
abbrev CGs (I : Inf) (L : List Nat) (es : List Expr) := { Ts : List Tg // Ts.length = es.length ∧ ∀ X E, InfOk I X E → PGs X es (tGs (gx X) L Ts) }
/-- a name that may be bound -/
def storeOk (I : Inf) (L : List Nat) (x : Str) : Bool := decide (I.N[ixOf x I.N 0]? = some x) && (decide (I.sc.names.lookup x = some .local) || (decide (I.sc.names.lookup x = some .cell) && I.fc x)) && !L.contains (ixOf x I.N 0)
theorem storeOk_of {I : Inf} {L : List Nat} {x : Str} (h : storeOk I L x = true) {X : Cx} {E : WS} (ok : InfOk I X E) : X.N[ixOf x I.N 0]? = some x ∧ L2.Loc X.env.scope x ∧ ixOf x I.N 0 ∉ L ∧ (X.fn x = true ∨ X.env.scope.names.lookup x = some .local) := by
  simp only [storeOk, Bool.and_eq_true, Bool.or_eq_true, decide_eq_true_eq, Bool.not_eq_true', List.contains_eq_mem, decide_eq_false_iff_not] at h
  obtain ⟨⟨h1, h2⟩, h3⟩ := h
  refine ⟨by rw [ok.hN]; exact h1, ?_, h3, ?_⟩
  · unfold L2.Loc; rw [ok.sc]; exact h2.imp id (·.1)
  · rw [ok.sc, ok.fc]
    exact h2.elim .inr fun z => .inl z.2
def cTg (I : Inf) (L : List Nat) : Nat → ∀ e : Expr, Option (CG I L e)
  | 0, _ => none
  | n + 1, .Name x pos => if h : storeOk I L x = true then some ⟨.nm (ixOf x I.N 0), fun X E ok => by
      obtain ⟨h1, h2, h3, h4⟩ := storeOk_of h ok
      exact pg_nm (by rw [ok.hN]; exact ok.nd) h1 h2 h3 h4⟩ else none
  | n + 1, .Tuple es k pos =>
    let rec go : ∀ es : List Expr, Option (CGs I L es)
      | [] => some ⟨[], rfl, fun X E ok => pgs_nil'⟩
      | e :: r => if hp : plainE e = true then match cTg I L n e, go r with
        | some ⟨T, h⟩, some ⟨Ts, hl, hs⟩ => some ⟨T :: Ts, by rw [List.length_cons, List.length_cons, hl], fun X E ok => pgs_cons' (h X E ok) (hs X E ok) (by rw [assignEach_of hp]; rfl)⟩
        | _, _ => none
        else none
    if hp : es.all plainE = true then match go es with
      | some ⟨Ts, hl, h⟩ => some ⟨.tup Ts, fun X E ok => pg_tup' ok.calm (h X E ok) (by rw [assignEach_len, hl]) (assignEach_noStar hp)⟩
      | none => none
    else none
  | _, _ => none

/-! ### sources -/
def cDfl (rc : Rc) (I : Inf) (tg e : Expr) : Option (CI I tg e) := match rc.E I e with
    | some ⟨m, h⟩ => some ⟨srcM m, fun X E ok => pi_src (h X E ok)⟩
    | none => none
def cSrc (rc : Rc) (I : Inf) (tg : Expr) : ∀ e : Expr, Option (CI I tg e)
  | .Call (.Name x p) [a] [] pos => if hr : x = "range" ∧ I.sc.names.lookup x = some .globalImplicit ∧ I.blt.contains x = true ∧ plainE a = true then match rc.E I a with
      | some ⟨m, h⟩ => some ⟨rngM m, fun X E ok => by
          obtain ⟨rfl, h2, h3, h4⟩ := hr
          exact pi_rng1 (Gl_of h2 ok) (ok.blt _ (by simpa using h3)) (h X E ok) (star_of h4)⟩
      | none => none
    else if hr : x = "enumerate" ∧ I.sc.names.lookup x = some .globalImplicit ∧ I.blt.contains x = true ∧ plainE a = true then match tg, rc.E I a with
      | .Tuple elts kk tpos, some ⟨m, h⟩ => if isNCall a = true then some ⟨enumTM m, fun X E ok => by
          obtain ⟨rfl, h2, h3, h4⟩ := hr
          exact pi_enumTM (Gl_of h2 ok) (ok.blt _ (by simpa using h3)) (h X E ok) (star_of h4)⟩
       else some ⟨enumM m, fun X E ok => by
          obtain ⟨rfl, h2, h3, h4⟩ := hr
          exact pi_enu (Gl_of h2 ok) (ok.blt _ (by simpa using h3)) (h X E ok) (star_of h4)⟩
      | _, _ => none
    else cDfl rc I tg _
  | .Call (.Name x p) [a, b] [] pos => if hr : x = "range" ∧ I.sc.names.lookup x = some .globalImplicit ∧ I.blt.contains x = true ∧ plainE a = true ∧ plainE b = true then match rc.E I a, rc.E I b with
      | some ⟨m, h⟩, some ⟨m2, h'⟩ => some ⟨rng2M m m2, fun X E ok => by
          obtain ⟨rfl, h2, h3, h4, h5⟩ := hr
          exact pi_rng2 (Gl_of h2 ok) (ok.blt _ (by simpa using h3)) (h X E ok) (h' X E ok) (by rw [star_of h4, star_of h5]; rfl) (star_of h5)⟩
      | _, _ => none
    else if hr : x = "zip" ∧ I.sc.names.lookup x = some .globalImplicit ∧ I.blt.contains x = true ∧ plainE a = true ∧ plainE b = true then match tg, rc.E I a, rc.E I b with
      | .Tuple elts kk tpos, some ⟨m, h⟩, some ⟨m2, h'⟩ => some ⟨zipAM m m2, fun X E ok => by
          obtain ⟨rfl, h2, h3, h4, h5⟩ := hr
          exact pi_zipAM (Gl_of h2 ok) (ok.blt _ (by simpa using h3)) (h X E ok) (h' X E ok) (star_of h4) (star_of h5) (noStar (by rw [List.all_cons, h5]; rfl))⟩
      | _, _, _ => none
    else if hr : x = "enumerate" ∧ I.sc.names.lookup x = some .globalImplicit ∧ I.blt.contains x = true ∧ plainE a = true ∧ plainE b = true then match tg, rc.E I a, rc.E I b with
      | .Tuple elts kk tpos, some ⟨m, h⟩, some ⟨m2, h'⟩ => some ⟨enumPM m m2, fun X E ok => by
          obtain ⟨rfl, h2, h3, h4, h5⟩ := hr
          exact pi_enumPM (Gl_of h2 ok) (ok.blt _ (by simpa using h3)) (h X E ok) (h' X E ok) (star_of h4) (star_of h5) (noStar (by rw [List.all_cons, h5]; rfl))⟩
      | _, _, _ => none
    else cDfl rc I tg _
  | .Call (.Name x p) [a] [⟨some kw, b, kp⟩] pos => if hr : x = "enumerate" ∧ kw = "start" ∧ I.sc.names.lookup x = some .globalImplicit ∧ I.blt.contains x = true ∧ plainE a = true then match tg, rc.E I a, rc.E I b with
      | .Tuple elts kk tpos, some ⟨m, h⟩, some ⟨m2, h'⟩ => some ⟨enumKM m m2, fun X E ok => by
          obtain ⟨rfl, rfl, h2, h3, h4⟩ := hr
          exact pi_enumKM (Gl_of h2 ok) (ok.blt _ (by simpa using h3)) (h X E ok) (h' X E ok) (star_of h4)⟩
      | _, _, _ => none
    else cDfl rc I tg _
  | e => cDfl rc I tg e
end Ev

set_option Elab.async false
set_option linter.all false
set_option maxRecDepth 100000
namespace Ev
open PySem PySem.Spec PyProof.Rows L2

/-! ### comprehensions -/
def ownOf (I : Inf) (scope : Scope) : List (Str × Nat) := scope.names.filterMap fun p => match p.2 with
  | .local => if I.N.contains p.1 then some (p.1, ixOf p.1 I.N 0) else none
  | .cell => if I.N.contains p.1 then some (p.1, ixOf p.1 I.N 0) else none
  | _ => none
def Inf.blk (I : Inf) (scope : Scope) : Inf := { I with sc := relS scope I.sc, fc := fun x => scope.names.lookup x == some .cell, L := [], rz := false }
theorem noCX {P : Program} {w : World} {outer : List Env} {H : Hp} {s : Shared} {u : Value} {s' : Shared} (h : L2.CX P w outer H s E0 u s') : False := by
  obtain ⟨_, _, _, _, _, _, _, _, _, _, _, _, z⟩ := h
  exact z
theorem blk_ok {I : Inf} {X : Cx} {E : WS} (ok : InfOk I X E) (scope : Scope) (s : Shared) (H : Hp) (C : Addr) (cl : List (Str × Addr)) (fp : List Addr) : InfOk (I.blk scope) (X.blk s H scope (compEnvC scope cl C X.env) fp) (fun _ => E0) where
  hN := ok.hN
  sc := by
    have : (compEnvC scope cl C X.env).scope = relS scope X.env.scope := rfl
    show (compEnvC scope cl C X.env).scope = relS scope I.sc
    rw [this, ok.sc]
  fc := rfl
  nd := ok.nd
  calm := ok.calm
  un := ok.un
  blt := ok.blt
  imp := ok.imp
  con := ok.con
  fns := fun f hf p hp => by
    obtain ⟨h1, h2, h3, h4⟩ := ok.fns f hf p hp
    exact ⟨h1, h2, fun σ pins H s e s' I c => noCX c, h4⟩
  pass := PassesOwn.never
  gd := ok.gd
  xs := fun z => nomatch z
abbrev CTs (I : Inf) (es : List Expr) := { m : M Bool // ∀ X E, InfOk I X E → PTs X es (tT (gx X) E m) }
def cIfs (rc : Rc) (I : Inf) : ∀ es : List Expr, Option (CTs I es)
  | [] => some ⟨retM true, fun X E ok => ⟨fun pins s σ H Q Iv ⟨O, F, δ, M, w⟩ => pts_nil.run pins s σ H Q Iv (wp_ret M w)⟩⟩
  | [c] => match rc.T I c with
    | some ⟨m, h⟩ => some ⟨m, fun X E ok => pts_one (h X E ok)⟩
    | none => none
  | _ => none
/-- the parts of a comprehension -/
structure LC (I : Inf) (elt tg iter : Expr) (ifs : List Expr) (scope : Scope) where
  T : Tg
  src : M (List D)
  tt : M Bool
  te : M R
  ok : blkC I.N I.sc scope (ownOf I scope) = true
  ns : notSet iter = true
  hi : ∀ X E, InfOk I X E → PI X tg iter (tI (gx X) E src)
  hg : ∀ X E, InfOk (I.blk scope) X E → PG X tg (tG (gx X) (outer I.N.length ((ownOf I scope).map (·.2))) T)
  ht : ∀ X E, InfOk (I.blk scope) X E → PTs X ifs (tT (gx X) E tt)
  he : ∀ X E, InfOk (I.blk scope) X E → PE X elt (tR (gx X) E te)
def cLC (rc : Rc) (I : Inf) (elt tg iter : Expr) (ifs : List Expr) (scope : Scope) : Option (LC I elt tg iter ifs scope) :=
  if h : blkC I.N I.sc scope (ownOf I scope) = true ∧ notSet iter = true then
    match cSrc rc I tg iter, cTg (I.blk scope) (outer I.N.length ((ownOf I scope).map (·.2))) 5 tg, cIfs rc (I.blk scope) ifs, rc.E (I.blk scope) elt with
    | some ⟨src, h1⟩, some ⟨T, h2⟩, some ⟨tt, h3⟩, some ⟨te, h4⟩ => some ⟨T, src, tt, te, h.1, h.2, h1, h2, h3, h4⟩
    | _, _, _, _ => none
  else none
def LC.m {I : Inf} {elt tg iter : Expr} {ifs : List Expr} {scope : Scope} (c : LC I elt tg iter ifs scope) : M R := compM ((ownOf I scope).map (·.2)) c.T c.src c.tt (datM c.te)
theorem LC.pe {I : Inf} {elt tg iter : Expr} {ifs : List Expr} {scope : Scope} (c : LC I elt tg iter ifs scope) {pos : Pos} (X : Cx) (E : WS) (ok : InfOk I X E) : PE X (.ListComp elt [⟨tg, iter, ifs, 0⟩] scope pos) (tR (gx X) E c.m) := by
  have hN : X.N.Nodup := by rw [ok.hN]; exact ok.nd
  refine pr_lc ok.calm hN (c.hi X E ok) (by rw [ok.hN, ok.sc]; exact blkOk_by c.ok) (fun s H C cl fp => ?_) (fun s H C cl fp => c.ht _ _ (blk_ok ok scope s H C cl fp)) (fun s H C cl fp => pr_dat (c.he _ _ (blk_ok ok scope s H C cl fp))) (folded_of c.ns)
  have := c.hg _ _ (blk_ok ok scope s H C cl fp)
  rw [ok.hN]; exact this
/-- the slots of a target's names -/
def tgSlots (I : Inf) : Expr → List Nat
  | .Name x _ => [ixOf x I.N 0]
  | .Tuple es _ _ => es.filterMap fun e => match e with
    | .Name x _ => some (ixOf x I.N 0)
    | _ => none
  | _ => []
/-- the parts of a comprehension with two for -/
structure LC2 (I : Inf) (elt tg iter : Expr) (ifs : List Expr) (tg1 iter1 : Expr) (ifs1 : List Expr) (scope : Scope) where
  T : Tg
  src : M (List D)
  tt : M Bool
  src1 : M (List D)
  T1 : Tg
  tt1 : M Bool
  te : M R
  ok : blkC I.N I.sc scope (ownOf I scope) = true
  ns : notSet iter = true
  ns1 : notSet iter1 = true
  hv : ∀ i ∈ tgSlots I tg1, i ∈ (ownOf I scope).map (·.2)
  hi : ∀ X E, InfOk I X E → PI X tg iter (tI (gx X) E src)
  hg : ∀ X E, InfOk (I.blk scope) X E → PG X tg (tG (gx X) (outer I.N.length ((ownOf I scope).map (·.2))) T)
  ht : ∀ X E, InfOk (I.blk scope) X E → PTs X ifs (tT (gx X) E tt)
  hi1 : ∀ X E, InfOk (I.blk scope) X E → PI X tg1 iter1 (tI (gx X) E src1)
  hg1 : ∀ X E, InfOk (I.blk scope) X E → PG X tg1 (tG (gx X) (outer I.N.length (tgSlots I tg1)) T1)
  ht1 : ∀ X E, InfOk (I.blk scope) X E → PTs X ifs1 (tT (gx X) E tt1)
  he : ∀ X E, InfOk (I.blk scope) X E → PE X elt (tR (gx X) E te)
def cLC2 (rc : Rc) (I : Inf) (elt tg iter : Expr) (ifs : List Expr) (tg1 iter1 : Expr) (ifs1 : List Expr) (scope : Scope) : Option (LC2 I elt tg iter ifs tg1 iter1 ifs1 scope) :=
  if h : blkC I.N I.sc scope (ownOf I scope) = true ∧ notSet iter = true ∧ notSet iter1 = true ∧ (tgSlots I tg1).all (fun i => ((ownOf I scope).map (·.2)).contains i) = true then
    match cSrc rc I tg iter, cTg (I.blk scope) (outer I.N.length ((ownOf I scope).map (·.2))) 5 tg, cIfs rc (I.blk scope) ifs, cSrc rc (I.blk scope) tg1 iter1, cTg (I.blk scope) (outer I.N.length (tgSlots I tg1)) 5 tg1, cIfs rc (I.blk scope) ifs1, rc.E (I.blk scope) elt with
    | some ⟨src, h1⟩, some ⟨T, h2⟩, some ⟨tt, h3⟩, some ⟨src1, h4⟩, some ⟨T1, h5⟩, some ⟨tt1, h6⟩, some ⟨te, h7⟩ => some ⟨T, src, tt, src1, T1, tt1, te, h.1, h.2.1, h.2.2.1, fun i hi => by
        have := List.all_eq_true.mp h.2.2.2 i hi
        simpa using this, h1, h2, h3, h4, h5, h6, h7⟩
    | _, _, _, _, _, _, _ => none
  else none
section
variable {I : Inf} {elt tg iter : Expr} {ifs : List Expr} {tg1 iter1 : Expr} {ifs1 : List Expr} {scope : Scope}
def LC2.m (c : LC2 I elt tg iter ifs tg1 iter1 ifs1 scope) : M R := compM2 ((ownOf I scope).map (·.2)) (tgSlots I tg1) c.T c.src c.tt c.src1 c.T1 c.tt1 (datM c.te)
theorem LC2.pg (c : LC2 I elt tg iter ifs tg1 iter1 ifs1 scope) {X : Cx} {E : WS} (ok : InfOk I X E) (s : Shared) (H : Hp) (C : Addr) (cl : List (Str × Addr)) (fp : List Addr) : PG (X.blk s H scope (compEnvC scope cl C X.env) fp) tg (tG (gx X) (outer X.N.length ((ownOf I scope).map (·.2))) c.T) := by
  have := c.hg _ _ (blk_ok ok scope s H C cl fp)
  rw [ok.hN]; exact this
theorem LC2.pg1 (c : LC2 I elt tg iter ifs tg1 iter1 ifs1 scope) {X : Cx} {E : WS} (ok : InfOk I X E) (s : Shared) (H : Hp) (C : Addr) (cl : List (Str × Addr)) (fp : List Addr) : PG (X.blk s H scope (compEnvC scope cl C X.env) fp) tg1 (tG (gx X) (outer X.N.length (tgSlots I tg1)) c.T1) := by
  have := c.hg1 _ _ (blk_ok ok scope s H C cl fp)
  rw [ok.hN]; exact this
theorem LC2.pe (c : LC2 I elt tg iter ifs tg1 iter1 ifs1 scope) {pos : Pos} (X : Cx) (E : WS) (ok : InfOk I X E) : PE X (.ListComp elt [⟨tg, iter, ifs, 0⟩, ⟨tg1, iter1, ifs1, 0⟩] scope pos) (tR (gx X) E c.m) :=
  pr_lc2 ok.calm (by rw [ok.hN]; exact ok.nd) (c.hi X E ok) (by rw [ok.hN, ok.sc]; exact blkOk_by c.ok) c.hv (c.pg ok) (fun s H C cl fp => c.ht _ _ (blk_ok ok scope s H C cl fp)) (fun s H C cl fp => c.hi1 _ _ (blk_ok ok scope s H C cl fp)) (c.pg1 ok) (fun s H C cl fp => c.ht1 _ _ (blk_ok ok scope s H C cl fp)) (fun s H C cl fp => pr_dat (c.he _ _ (blk_ok ok scope s H C cl fp))) (folded_of c.ns) (fun _ => folded_of c.ns1)
end
def cComp (rc : Rc) (I : Inf) (elt : Expr) (scope : Scope) (pos : Pos) : ∀ gs : List Comprehension, Option (CE I (.ListComp elt gs scope pos))
  | [⟨tg, iter, ifs, 0⟩] => match cLC rc I elt tg iter ifs scope with
    | some c => some ⟨c.m, fun X E ok => c.pe X E ok⟩
    | none => none
  | [⟨tg, iter, ifs, 0⟩, ⟨tg1, iter1, ifs1, 0⟩] => match cLC2 rc I elt tg iter ifs tg1 iter1 ifs1 scope with
    | some c => some ⟨c.m, fun X E ok => c.pe X E ok⟩
    | none => none
  | _ => none

/-! ### expressions -/
def stepE (rc : Rc) (I : Inf) : ∀ e : Expr, Option (CE I e)
  | .Constant (.int i) j pos => some ⟨cD (.int i), fun X E ok => pr_int⟩
  | .Constant (.str x) j pos => some ⟨cD (.str x), fun X E ok => pr_str⟩
  | .Constant (.bool b) j pos => some ⟨cD (.bl b), fun X E ok => pr_bl⟩
  | .Constant .none j pos => some ⟨cD .non, fun X E ok => pr_non⟩
  | .Name x pos => match cName I x pos with
    | some c => some c
    | none => match cCon I x pos with
      | some c => some c
      | none => match h : tyOf I (.Name x pos) with
        | some n => some ⟨cD (.ty n), fun X E ok => pr_c (tyOf_ok h ok).1 fun _ => .ty n⟩
        | none => none
  | .BinOp a op b pos => cBin rc I a op b pos
  | .Compare a [op] [b] pos => cCmp rc I a op b pos
  | .Compare a [op, op'] [b, c] pos => cCmp2 rc I a op op' b c pos
  | .BoolOp .And es pos => cAnd rc I pos es
  | .BoolOp .Or es pos => cOr rc I pos es
  | .UnaryOp .Not a pos => match rc.E I a with
    | some ⟨m, h⟩ => some ⟨notV m, fun X E ok => pr_not (h X E ok)⟩
    | none => none
  | .UnaryOp .USub a pos => match rc.E I a with
    | some ⟨m, h⟩ => some ⟨op1 negD m, fun X E ok => pr_neg (h X E ok)⟩
    | none => none
  | .IfExp c a b pos => match rc.T I c, rc.E I a, rc.E I b with
    | some ⟨mc, hc⟩, some ⟨ma, ha⟩, some ⟨mb, hb⟩ => some ⟨ifM mc ma mb, fun X E ok => pr_if (hc X E ok) (ha X E ok) (hb X E ok)⟩
    | _, _, _ => none
  | .Tuple es k pos => cTup rc I es k pos
  | .List es pos => cLst rc I es pos
  | .Dict ks vs pos => cDict rc I pos ks vs
  | .Subscript a b pos => cSub rc I a b pos
  | .Call (.Name x p) es kws pos => cCall rc I x p es kws pos
  | .Call (.Attribute o n ap) es [] pos => cMeth rc I o n ap es pos
  | .Attribute e f pos => cFld rc I e f pos
  | .ListComp elt gs scope pos => cComp rc I elt scope pos gs
  | _ => none
/-- an expression as a test, by its truth -/
def simpleT : Expr → Bool
  | .BoolOp .. => false
  | .Compare .. => false
  | .UnaryOp .Not _ _ => false
  | .Constant .. => false
  | .NamedExpr .. => false
  | .IfExp .. => false
  | .Tuple .. => false
  | .List .. => false
  | .Dict .. => false
  | .Set .. => false
  | .JoinedStr .. => false
  | .Lambda .. => false
  | _ => true
theorem simpleT_of {e : Expr} {env : Env} (h : simpleT e = true) : ∀ whole, isTrue e env whole = (do let v ← whole; standAt e.pos; holding [v] (truthy v)) := by
  intro whole
  cases e <;> first | rfl | (cases h; done) | skip
  rename_i op o p
  cases op <;> first | rfl | cases h
def stepT (rc : Rc) (I : Inf) : ∀ e : Expr, Option (CT I e)
  | .Compare a [op] [b] pos => tCmpC rc I a op b pos
  | .Compare a [op, op'] [b, c] pos => tCmp2 rc I a op op' b c pos
  | .BoolOp .And es pos => match tAndC rc I pos es with
    | some ⟨m, h⟩ => some ⟨m, fun X E ok => (h X E ok).pt⟩
    | none => none
  | .BoolOp .Or es pos => match tOrC rc I pos es with
    | some ⟨m, h⟩ => some ⟨m, fun X E ok => (h X E ok).pt⟩
    | none => none
  | .UnaryOp .Not a pos => match rc.T I a with
    | some ⟨m, h⟩ => some ⟨notM m, fun X E ok => pt_not' (h X E ok)⟩
    | none => none
  | e => if hs : simpleT e = true then match rc.E I e with
    | some ⟨m, h⟩ => some ⟨truM m, fun X E ok => pt_tru (h X E ok) (simpleT_of hs)⟩
    | none => none
    else none
end Ev

set_option Elab.async false
set_option linter.all false
set_option maxRecDepth 100000
namespace Ev
open PySem PySem.Spec PyProof.Rows L2
/-! ### except suites, compiled -/
/-- what is asked of X for a suite -/
structure SuX (I : Inf) (X : Cx) (cls : Value) (d : Option Addr) (oe : Obj) : Prop where
  hN : X.N = I.N
  sc : X.env.scope = I.sc
  fc : X.fn = I.fc
  nd : I.N.Nodup
  isi : I.blt.contains "isinstance" = true → X.mg "isinstance" = none
  su : ∀ c ∈ I.exs, ∃ C : Addr, X.mg c.x = some (.ref C) ∧ XSui X.K C ∧ PySem.W.findIn X.K (.ref C) c.f = some none
  cl : ∀ y ∈ I.cls, ClsOk X y
  zc : Zc cls d oe
  fl : ∃ vs, oe.data = .fields vs
abbrev CXE (I : Inf) (n : Str) (e : Expr) := { m : SE // ∀ X a oe cls d pn, SuX I X cls d oe → PE (X.suite a ((a, oe) :: pn)) e (tX (gx X) a cls d (ixOf n I.N 0) m) }
abbrev CXT (I : Inf) (n : Str) (e : Expr) := { m : ST // ∀ X a oe cls d pn, SuX I X cls d oe → PT (X.suite a ((a, oe) :: pn)) e (tXT (gx X) a cls d (ixOf n I.N 0) m) }
abbrev CXW (I : Inf) (n : Str) (e : Expr) := { m : ST // ∀ X a oe cls d pn, SuX I X cls d oe → PW (X.suite a ((a, oe) :: pn)) e (tXT (gx X) a cls d (ixOf n I.N 0) m) }
/-- a name that is read -/
def visOk (I : Inf) (x : Str) : Bool := !(x == ("__debug__" : Str)) && !(x == ("__classdict__" : Str)) && decide (I.N[ixOf x I.N 0]? = some x) && decide (I.sc.names.lookup x = some .local)
theorem visOk_of {I : Inf} {x : Str} (h : visOk I x = true) {X : Cx} {cls : Value} {d : Option Addr} {oe : Obj} (s : SuX I X cls d oe) : X.N[ixOf x I.N 0]? = some x ∧ Vis X.env.scope x ∧ (x == ("__debug__" : Str)) = false ∧ (x == ("__classdict__" : Str)) = false := by
  simp only [visOk, Bool.and_eq_true, Bool.not_eq_true', decide_eq_true_eq] at h
  exact ⟨by rw [s.hN]; exact h.1.2, by unfold Vis; rw [s.sc]; exact .inl h.2, h.1.1.1, h.1.1.2⟩
def fldsE (exs : List XcI) (f : Str) : SE := fun e _ => if (exs.any fun c => c.x == e.c && c.f == f) = true then (e.fn.zip e.fv).lookup f else none
theorem px_flds {I : Inf} {n f : Str} {p1 pos : Pos} (h : visOk I n = true) {X : Cx} {a : Addr} {oe : Obj} {cls : Value} {d : Option Addr} {pn : List (Addr × Obj)} (s : SuX I X cls d oe) (hb : attributeBase (.Name n p1) f X.env (eval (.Name n p1) X.env) = eval (.Name n p1) X.env) :
    PE (X.suite a ((a, oe) :: pn)) (.Attribute (.Name n p1) f pos) (tX (gx X) a cls d (ixOf n I.N 0) (fldsE I.exs f)) := by
  refine ⟨fun pins sh σ H Q iv ⟨O, F, δ, e, y, S, hy, q⟩ => ?_⟩
  unfold fldsE at hy
  split at hy
  · rename_i hh
    obtain ⟨c, hc, h2⟩ := List.any_eq_true.mp hh
    rw [Bool.and_eq_true, beq_iff_eq, beq_iff_eq] at h2
    obtain ⟨e1, e2⟩ := h2
    obtain ⟨C, hm, xs, hno⟩ := s.su c hc
    obtain ⟨v1, v2, v3, v4⟩ := visOk_of h s
    subst e2
    exact (px_field (x := c.x) xs hm hno v1 v2 v3 v4 s.zc s.fl hb).run pins sh σ H Q iv ⟨O, F, δ, e, y, S, by unfold fldE; rw [if_pos e1.symm]; exact hy, q⟩
  · cases hy
theorem pe_cls {X : Cx} {a : Addr} {oe : Obj} {pn : List (Addr × Obj)} {y : Str} {cc : V} {cv : Value} {pos : Pos} (hg : Gl X y) (hd : (y == ("__debug__" : Str)) = false) (h : (X.mg y = some cv ∧ RelV cc cv) ∨ (X.mg y = none ∧ bootBuiltins y = some cv ∧ RelV cc cv ∧ y ≠ "__name__")) : PE (X.suite a ((a, oe) :: pn)) (.Name y pos) (tC cc) := by
  rcases h with ⟨h1, r⟩ | ⟨h1, h2, r, h3⟩
  · exact pe_glob (X := X.suite a ((a, oe) :: pn)) hg h1 r hd
  · exact pe_bltn (X := X.suite a ((a, oe) :: pn)) hg h1 h2 r h3 hd
structure Rx (I : Inf) (n : Str) where
  E : ∀ e : Expr, Option (CXE I n e)
  T : ∀ e : Expr, Option (CXT I n e)
def xIsi (I : Inf) (n n' y f : Str) (p p1 p2 pos : Pos) : Option (CXE I n (.Call (.Name f p) [.Name n' p1, .Name y p2] [] pos)) :=
  if h : f = "isinstance" ∧ n' = n ∧ visOk I n = true ∧ I.blt.contains "isinstance" = true ∧ I.sc.names.lookup ("isinstance" : Str) = some .globalImplicit ∧ I.sc.names.lookup y = some .globalImplicit ∧ (y == ("__debug__" : Str)) = false then
    match hf : findC y I.cls with
    | some tb => some ⟨isiE tb, fun X a oe cls d pn s => by
        obtain ⟨rfl, rfl, h3, h4, h5, h6, h7⟩ := h
        obtain ⟨v1, v2, v3, v4⟩ := visOk_of h3 s
        obtain ⟨cc, cv, hcv, hn, htb, _⟩ := s.cl _ (findC_mem hf)
        have g1 : Gl X "isinstance" := by unfold Gl; rw [show X.env.kindOf "isinstance" = X.env.scope.names.lookup ("isinstance" : Str) from rfl, s.sc]; exact h5
        have g2 : Gl X y := by unfold Gl; rw [show X.env.kindOf y = X.env.scope.names.lookup y from rfl, s.sc]; exact h6
        exact px_isi g1 (s.isi h4) htb v1 v2 v3 v4 s.zc s.fl (pe_cls g2 h7 hn) hcv rfl rfl rfl⟩
    | none => none
  else none
def stepXE (I : Inf) (n : Str) (r : Rx I n) : ∀ e : Expr, Option (CXE I n e)
  | .Constant (.str k) j pos => some ⟨fun _ _ => some (.str k), fun X a oe cls d pn s => px_c (X := X) (pe_str (X := X.suite a ((a, oe) :: pn))) fun _ => .str k⟩
  | .Attribute (.Name n' p1) f pos => if h : n' = n ∧ visOk I n = true then some ⟨fldsE I.exs f, fun X a oe cls d pn s => by
      obtain ⟨rfl, h⟩ := h
      exact px_flds h s rfl⟩ else none
  | .Name x pos => if h : visOk I x = true then some ⟨fun _ δ => dAt δ (ixOf x I.N 0), fun X a oe cls d pn s => by
      obtain ⟨v1, v2, v3, v4⟩ := visOk_of h s
      exact px_name v1 v2 v3 v4⟩ else none
  | .Call (.Name f p) [.Name n' p1, .Name y p2] [] pos => xIsi I n n' y f p p1 p2 pos
  | .IfExp c x y pos => match r.T c, r.E x, r.E y with
    | some ⟨t, h⟩, some ⟨m, h1⟩, some ⟨m2, h2⟩ => some ⟨ifE t m m2, fun X a oe cls d pn s => px_if (h X a oe cls d pn s) (h1 X a oe cls d pn s) (h2 X a oe cls d pn s)⟩
    | _, _, _ => none
  | _ => none
def xAnd (I : Inf) (n : Str) (r : Rx I n) (pos : Pos) : ∀ es : List Expr, Option (CXW I n (.BoolOp .And es pos))
  | [] => none
  | [e] => match r.T e with
    | some ⟨t, h⟩ => some ⟨t, fun X a oe cls d pn s => px_and1 (h X a oe cls d pn s)⟩
    | none => none
  | e :: b :: es => match r.T e, xAnd I n r pos (b :: es) with
    | some ⟨t, h⟩, some ⟨t2, h2⟩ => some ⟨andE t t2, fun X a oe cls d pn s => px_and (h X a oe cls d pn s) (h2 X a oe cls d pn s)⟩
    | _, _ => none
def xOr (I : Inf) (n : Str) (r : Rx I n) (pos : Pos) : ∀ es : List Expr, Option (CXW I n (.BoolOp .Or es pos))
  | [] => none
  | [e] => match r.T e with
    | some ⟨t, h⟩ => some ⟨t, fun X a oe cls d pn s => px_or1 (h X a oe cls d pn s)⟩
    | none => none
  | e :: b :: es => match r.T e, xOr I n r pos (b :: es) with
    | some ⟨t, h⟩, some ⟨t2, h2⟩ => some ⟨orE' t t2, fun X a oe cls d pn s => px_or (h X a oe cls d pn s) (h2 X a oe cls d pn s)⟩
    | _, _ => none
def stepXT (I : Inf) (n : Str) (r : Rx I n) : ∀ e : Expr, Option (CXT I n e)
  | .UnaryOp .Not e pos => match r.T e with
    | some ⟨t, h⟩ => some ⟨fun e δ => (t e δ).map (!·), fun X a oe cls d pn s => px_not (h X a oe cls d pn s)⟩
    | none => none
  | .BoolOp .And es pos => match xAnd I n r pos es with
    | some ⟨t, h⟩ => some ⟨t, fun X a oe cls d pn s => (h X a oe cls d pn s).pt⟩
    | none => none
  | .BoolOp .Or es pos => match xOr I n r pos es with
    | some ⟨t, h⟩ => some ⟨t, fun X a oe cls d pn s => (h X a oe cls d pn s).pt⟩
    | none => none
  | .Call (.Name f p) [.Name n' p1, .Name y p2] [] pos => match xIsi I n n' y f p p1 p2 pos with
    | some ⟨m, h⟩ => some ⟨fun e δ => (m e δ).bind D.tru, fun X a oe cls d pn s => px_tru (h X a oe cls d pn s) fun _ => rfl⟩
    | none => none
  | _ => none
def rx (I : Inf) (n : Str) : Nat → Rx I n
  | 0 => ⟨fun _ => none, fun _ => none⟩
  | k + 1 => ⟨stepXE I n (rx I n k), stepXT I n (rx I n k)⟩
abbrev CXS (I : Inf) (n : Str) (es : List Stmt) := { su : List (Nat × SE) // ∀ X a oe cls d pn, SuX I X cls d oe → PSs (X.suite a ((a, oe) :: pn)) es (tXs (gx X) a cls d (ixOf n I.N 0) I.L su) }
def cSuite (I : Inf) (n : Str) : ∀ es : List Stmt, Option (CXS I n es)
  | [] => some ⟨[], fun X a oe cls d pn s => pxs_nil⟩
  | .Assign [.Name x px] e pos :: es => if h : (I.N[ixOf x I.N 0]? = some x ∧ I.sc.names.lookup x = some .local ∧ I.L.contains (ixOf x I.N 0) = false) ∧ ixOf x I.N 0 ≠ ixOf n I.N 0 ∧ notComp e = true then
      match (rx I n 12).E e, cSuite I n es with
      | some ⟨m, he⟩, some ⟨su, hr⟩ => some ⟨(ixOf x I.N 0, m) :: su, fun X a oe cls d pn s => by
          obtain ⟨⟨h1, h2, h3⟩, h4, h5⟩ := h
          have l2 : X.env.scope.names.lookup x = some .local := by rw [s.sc]; exact h2
          exact pxs_cons (by rw [s.hN]; exact s.nd) (by rw [s.hN]; exact h1) (.inl l2) (by simpa using h3) h4 (he X a oe cls d pn s) (swaps_of h5) (.inr l2) (hr X a oe cls d pn s)⟩
      | _, _ => none
    else none
  | _ => none
end Ev

set_option Elab.async false
set_option linter.all false
set_option maxRecDepth 100000
namespace Ev
open PySem PySem.Spec PyProof.Rows L2

theorem sole_of {e t : Expr} {l : Nat} {env : Env} (h : notComp e = true) : swapsWithSole [t] e l env = pure false := swaps_of (e := e) (t := some t) h
/-! ### statements -/
abbrev CSs (I : Inf) (es : List Stmt) := { m : M Fl // ∀ X E, InfOk I X E → PSs X es (tS (gx X) E I.L m) }
def cBody (rc : Rc) (I : Inf) : ∀ b : List Stmt, Option (CSs I b)
  | [] => some ⟨retM .next, fun X E ok => ps_nil'⟩
  | s :: r => match rc.S I s, cBody rc I r with
    | some ⟨m, h⟩, some ⟨n, k⟩ => some ⟨seqM m n, fun X E ok => ps_cons' (h X E ok) (k X E ok)⟩
    | _, _ => none
def swapLc (I : Inf) (y : Str) (py : Pos) (e : Expr) (scope : Scope) : Bool :=
  (dumEnv I.sc).blockKind == .function && (dumEnv I.sc).kindOf y == some .local && py.line == e.pos.line && !(scope.names.any fun (n, k) => n == y && (k == .local || k == .cell))
theorem swapLc_of {I : Inf} {y : Str} {py pos : Pos} {l : Nat} {elt : Expr} {gs : List Comprehension} {scope : Scope} {env : Env} {b : Bool} (h : swapLc I y py (.ListComp elt gs scope pos) scope = b) (he : env.scope = I.sc) : swapsWith (.ListComp elt gs scope pos) (some (.Name y py)) l env = pure b := by
  have : swapLc I y py (.ListComp elt gs scope pos) scope = (env.blockKind == .function && env.kindOf y == some .local && py.line == pos.line && !(scope.names.any fun (n, k) => n == y && (k == .local || k == .cell))) := by
    unfold swapLc Env.blockKind Env.kindOf
    rw [he]; rfl
  rw [← h, this]
  rfl
/-- x = e -/
def cSet (rc : Rc) (I : Inf) (x : Str) (px : Pos) (pos : Pos) : ∀ e : Expr, Option (CS I (.Assign [.Name x px] e pos))
  | .ListComp elt [⟨tg, iter, ifs, 0⟩] scope lp => if hs : storeOk I I.L x = true then
      if hsw : swapLc I x px (.ListComp elt [⟨tg, iter, ifs, 0⟩] scope lp) scope = true then
        if hl : I.sc.names.lookup x = some .local then match cLC rc I elt tg iter ifs scope with
          | some c => some ⟨setS (ixOf x I.N 0) c.m, fun X E ok => by
              obtain ⟨h1, h2, h3, h4⟩ := storeOk_of hs ok
              have hN : X.N.Nodup := by rw [ok.hN]; exact ok.nd
              refine pr_setLc ok.calm hN h1 (kind_of hl ok) h3 (swapLc_of hsw ok.sc) (c.hi X E ok) (by rw [ok.hN, ok.sc]; exact blkOk_by c.ok) (fun s H C cl fp => ?_) (fun s H C cl fp => c.ht _ _ (blk_ok ok scope s H C cl fp)) (fun s H C cl fp => pr_dat (c.he _ _ (blk_ok ok scope s H C cl fp))) (folded_of c.ns)
              have := c.hg _ _ (blk_ok ok scope s H C cl fp)
              rw [ok.hN]; exact this⟩
          | none => none
        else none
      else match rc.E I (.ListComp elt [⟨tg, iter, ifs, 0⟩] scope lp) with
        | some ⟨m, h⟩ => some ⟨setS (ixOf x I.N 0) m, fun X E ok => by
            obtain ⟨h1, h2, h3, h4⟩ := storeOk_of hs ok
            exact ps_set' (by rw [ok.hN]; exact ok.nd) h1 h2 h3 (h X E ok) (swapLc_of (Bool.eq_false_iff.mpr hsw) ok.sc) h4⟩
        | none => none
    else none
  | .ListComp elt [⟨tg, iter, ifs, 0⟩, ⟨tg1, iter1, ifs1, 0⟩] scope lp => if hs : storeOk I I.L x = true then
      if hsw : swapLc I x px (.ListComp elt [⟨tg, iter, ifs, 0⟩, ⟨tg1, iter1, ifs1, 0⟩] scope lp) scope = true then
        if hl : I.sc.names.lookup x = some .local then match cLC2 rc I elt tg iter ifs tg1 iter1 ifs1 scope with
          | some c => some ⟨setS (ixOf x I.N 0) c.m, fun X E ok => by
              obtain ⟨h1, h2, h3, h4⟩ := storeOk_of hs ok
              exact pr_setLc2 ok.calm (by rw [ok.hN]; exact ok.nd) h1 (kind_of hl ok) h3 (swapLc_of hsw ok.sc) (c.hi X E ok) (by rw [ok.hN, ok.sc]; exact blkOk_by c.ok) c.hv (c.pg ok) (fun s H C cl fp => c.ht _ _ (blk_ok ok scope s H C cl fp)) (fun s H C cl fp => c.hi1 _ _ (blk_ok ok scope s H C cl fp)) (c.pg1 ok) (fun s H C cl fp => c.ht1 _ _ (blk_ok ok scope s H C cl fp)) (fun s H C cl fp => pr_dat (c.he _ _ (blk_ok ok scope s H C cl fp))) (folded_of c.ns) (fun _ => folded_of c.ns1)⟩
          | none => none
        else none
      else match rc.E I (.ListComp elt [⟨tg, iter, ifs, 0⟩, ⟨tg1, iter1, ifs1, 0⟩] scope lp) with
        | some ⟨m, h⟩ => some ⟨setS (ixOf x I.N 0) m, fun X E ok => by
            obtain ⟨h1, h2, h3, h4⟩ := storeOk_of hs ok
            exact ps_set' (by rw [ok.hN]; exact ok.nd) h1 h2 h3 (h X E ok) (swapLc_of (Bool.eq_false_iff.mpr hsw) ok.sc) h4⟩
        | none => none
    else none
  | e => if hs : storeOk I I.L x = true ∧ notComp e = true then match rc.E I e with
    | some ⟨m, h⟩ => some ⟨setS (ixOf x I.N 0) m, fun X E ok => by
        obtain ⟨h1, h2, h3, h4⟩ := storeOk_of hs.1 ok
        exact ps_set' (by rw [ok.hN]; exact ok.nd) h1 h2 h3 (h X E ok) (swaps_of hs.2) h4⟩
    | none => none
    else none
/-- a, b = x, y -/
def locOk (I : Inf) (x : Str) : Bool := decide (I.N[ixOf x I.N 0]? = some x) && decide (I.sc.names.lookup x = some .local) && !I.L.contains (ixOf x I.N 0)
theorem locOk_of {I : Inf} {x : Str} (h : locOk I x = true) {X : Cx} {E : WS} (ok : InfOk I X E) : X.N[ixOf x I.N 0]? = some x ∧ X.env.scope.names.lookup x = some .local ∧ ixOf x I.N 0 ∉ I.L := by
  simp only [locOk, Bool.and_eq_true, decide_eq_true_eq, Bool.not_eq_true', List.contains_eq_mem, decide_eq_false_iff_not] at h
  exact ⟨by rw [ok.hN]; exact h.1.1, by rw [ok.sc]; exact h.1.2, h.2⟩
def cPar (rc : Rc) (I : Inf) (kt : Nat) (pt : Pos) (k2 : Nat) (pt2 : Pos) (pos : Pos) : ∀ ts vs : List Expr, Option (CS I (.Assign [.Tuple ts kt pt] (.Tuple vs k2 pt2) pos))
  | [.Name x px, .Name y py], [a, b] => if h : locOk I x = true ∧ locOk I y = true ∧ ixOf x I.N 0 ≠ ixOf y I.N 0 ∧ plainE a = true ∧ plainE b = true ∧ swapE (dumEnv I.sc) [.Name x px, .Name y py] [a, b] = true ∧ namesAt (dumEnv I.sc) [.Name x px, .Name y py] = [x, y] then
      match rc.E I a, rc.E I b with
      | some ⟨ma, ha⟩, some ⟨mb, hb⟩ => some ⟨parS [ixOf x I.N 0, ixOf y I.N 0] [ma, mb], fun X E ok => by
          obtain ⟨h1, h2, h3, h4, h5, h6, h7⟩ := h
          obtain ⟨a1, a2, a3⟩ := locOk_of h1 ok
          obtain ⟨b1, b2, b3⟩ := locOk_of h2 ok
          exact ps_parS ok.calm (by rw [ok.hN]; exact ok.nd) a1 b1 h3 a3 b3 a2 b2 (pp_cons (ha X E ok) (pp_cons (hb X E ok) pp_nil (star_of h5)) (star_of h4)) (by rw [swap_of h6 ok.sc, h7]) rfl⟩
      | _, _ => none
    else none
  | [.Name x px, .Name y py, .Name z pz], [a, b, c] => if h : (locOk I x = true ∧ locOk I y = true ∧ locOk I z = true) ∧ (ixOf x I.N 0 ≠ ixOf y I.N 0 ∧ ixOf x I.N 0 ≠ ixOf z I.N 0 ∧ ixOf y I.N 0 ≠ ixOf z I.N 0) ∧ (plainE a = true ∧ plainE b = true ∧ plainE c = true) ∧ swapE (dumEnv I.sc) [.Name x px, .Name y py, .Name z pz] [a, b, c] = true ∧ namesAt (dumEnv I.sc) [.Name x px, .Name y py, .Name z pz] = [x, y, z] then
      match rc.E I a, rc.E I b, rc.E I c with
      | some ⟨ma, ha⟩, some ⟨mb, hb⟩, some ⟨mc, hc⟩ => some ⟨parS [ixOf x I.N 0, ixOf y I.N 0, ixOf z I.N 0] [ma, mb, mc], fun X E ok => by
          obtain ⟨⟨h1, h2, h3⟩, ⟨d1, d2, d3⟩, ⟨p1, p2, p3⟩, h6, h7⟩ := h
          obtain ⟨a1, a2, a3⟩ := locOk_of h1 ok
          obtain ⟨b1, b2, b3⟩ := locOk_of h2 ok
          obtain ⟨c1, c2, c3⟩ := locOk_of h3 ok
          exact ps_parS3 ok.calm (by rw [ok.hN]; exact ok.nd) a1 b1 c1 d1 d2 d3 a3 b3 c3 a2 b2 c2 (pp_cons (ha X E ok) (pp_cons (hb X E ok) (pp_cons (hc X E ok) pp_nil (star_of p3)) (star_of p2)) (star_of p1)) (by rw [swap_of h6 ok.sc, h7]) rfl⟩
      | _, _, _ => none
    else none
  | _, _ => none
/-- a tuple of targets = e -/
def cUnp (rc : Rc) (I : Inf) (ts : List Expr) (kt : Nat) (pt : Pos) (pos : Pos) (e : Expr) (hw : ∀ env : Env, env.scope = I.sc → swappedStores [.Tuple ts kt pt] e env = pure none) : Option (CS I (.Assign [.Tuple ts kt pt] e pos)) :=
  if hc : notComp e = true then match cTg I I.L 5 (.Tuple ts kt pt), rc.E I e with
    | some ⟨T, hT⟩, some ⟨m, h⟩ => some ⟨asgM T m, fun X E ok => ps_asg' (h X E ok) (hT X E ok) (sole_of hc) (hw _ ok.sc) rfl⟩
    | _, _ => none
  else none
structure CN (I : Inf) (ts : List Expr) where
  is : List Nat
  len : is.length = ts.length
  plain : ts.all plainE = true
  out : ∀ i ∈ is, i ∉ I.L
  inn : ∀ i ∈ is, i < I.N.length
  pg : ∀ X E, InfOk I X E → PGs X ts (tNm is)
/-- targets that are names alone -/
def cNames (I : Inf) : ∀ ts : List Expr, Option (CN I ts)
  | [] => some ⟨[], rfl, rfl, (fun _ h => nomatch h), (fun _ h => nomatch h), fun X E ok => pgs_nm_nil⟩
  | .Name x px :: ts => if h : storeOk I I.L x = true ∧ ixOf x I.N 0 < I.N.length ∧ ixOf x I.N 0 ∉ I.L then match cNames I ts with
    | some c => some ⟨ixOf x I.N 0 :: c.is, by rw [List.length_cons, List.length_cons, c.len], by rw [List.all_cons, c.plain]; rfl, fun i hi => (List.mem_cons.mp hi).elim (fun e => by rw [e]; exact h.2.2) (c.out i), fun i hi => (List.mem_cons.mp hi).elim (fun e => by rw [e]; exact h.2.1) (c.inn i), fun X E ok => by
        obtain ⟨h1, h2, h3, h4⟩ := storeOk_of h.1 ok
        exact pgs_nm_cons (by rw [ok.hN]; exact ok.nd) h1 h2 h4 (c.pg X E ok)⟩
    | none => none
    else none
  | _ => none
def cUnpS (rc : Rc) (I : Inf) (ts : List Expr) (kt : Nat) (pt : Pos) (pos : Pos) (vs : List Expr) (k2 : Nat) (pt2 : Pos) (hw : ∀ env : Env, env.scope = I.sc → swappedStores [.Tuple ts kt pt] (.Tuple vs k2 pt2) env = pure none) : Option (CS I (.Assign [.Tuple ts kt pt] (.Tuple vs k2 pt2) pos)) :=
  match cNames I ts, cParts rc I vs with
  | some c, some ⟨ms, hl, hs⟩ => if h : c.is.Nodup ∧ c.is.length ≤ 1000 then some ⟨parS c.is ms, fun X E ok => ps_unpS ok.calm (c.pg X E ok) h.1 c.out (by rw [ok.hN]; exact c.inn) (by rw [assignEach_len, c.len]) (assignEach_noStar c.plain) (hs X E ok) h.2 (sole_of rfl) (hw _ ok.sc)⟩ else none
  | _, _ => none
def cAsg (rc : Rc) (I : Inf) (pos : Pos) : ∀ (t e : Expr), Option (CS I (.Assign [t] e pos))
  | .Name x px, e => cSet rc I x px pos e
  | .Tuple ts kt pt, .Tuple vs k2 pt2 => match cPar rc I kt pt k2 pt2 pos ts vs with
    | some c => some c
    | none => if h : noSwapE (dumEnv I.sc) ts vs = true then match cUnpS rc I ts kt pt pos vs k2 pt2 (fun env he => noSwap_of h he) with
      | some c => some c
      | none => cUnp rc I ts kt pt pos (.Tuple vs k2 pt2) fun env he => noSwap_of h he
      else none
  | .Tuple ts kt pt, e => if h : notTup e = true then cUnp rc I ts kt pt pos e fun env he => stores_of (.inr h) else none
  | .Subscript (.Name x p) i tp, e => if hd : (x == ("__debug__" : Str)) = false ∧ (x == ("__classdict__" : Str)) = false ∧ notSlice i = true ∧ notComp e = true then
      if hi : I.N[ixOf x I.N 0]? = some x then
        if hv : I.sc.names.lookup x = some .local ∨ I.sc.names.lookup x = some .cell ∨ I.sc.names.lookup x = some .free then
          match rc.E I e, rc.E I i with
          | some ⟨me, he⟩, some ⟨mi, hi'⟩ => some ⟨setIxS (ixOf x I.N 0) me mi, fun X E ok => by
              refine ps_setIxS ok.un (by rw [ok.hN]; exact hi) (by unfold Vis; rw [ok.sc]; exact hv) hd.1 hd.2.1 (he X E ok) (hi' X E ok) ?_ (sole_of hd.2.2.2) rfl rfl
              have hns := hd.2.2.1
              intro v
              cases i <;> first | rfl | cases hns⟩
          | _, _ => none
        else none
      else none
    else none
  | .Subscript (.Subscript o (.Constant (.str k) j kp) op) i tp, e => if hd : notSlice i = true ∧ notComp e = true then match rc.E I e, rc.E I (.Subscript o (.Constant (.str k) j kp) op), rc.E I i with
      | some ⟨me, he⟩, some ⟨mo, ho⟩, some ⟨mi, hi'⟩ => some ⟨setCell I.N.length me mo mi, fun X E ok => by
          refine ps_setCell (he X E ok) (ho X E ok) (hi' X E ok) ?_ (sole_of hd.2) rfl rfl
          have hns := hd.1
          intro v
          cases i <;> first | rfl | cases hns⟩
      | _, _, _ => none
    else none
  | _, _ => none
def cFor (rc : Rc) (I : Inf) (tg iter : Expr) (b : List Stmt) (pos : Pos) : Option (CS I (.For tg iter b [] pos)) :=
  if hn : notSet iter = true then match cTg I I.L 5 tg, cSrc rc I tg iter, cBody rc I b with
    | some ⟨T, hT⟩, some ⟨src, hs⟩, some ⟨m, h⟩ => some ⟨forS T src m, fun X E ok => ps_for' ok.pass ok.calm (hs X E ok) (hT X E ok) (h X E ok) (folded_of hn)⟩
    | _, _, _ => none
  else none
/-- the fuel of a while -/
def fuel : Nat := 1000000
def augF : Operator → Option (Int → Int → Int)
  | .Add => some fun i j => i + j
  | .Sub => some fun i j => i - j
  | _ => none
theorem augF_ok {op : Operator} {f : Int → Int → Int} (h : augF op = some f) {X : Cx} : PIp X op (ipI f) := by
  cases op <;> cases h
  · exact ip_add
  · exact ip_sub
def cAug (rc : Rc) (I : Inf) (x : Str) (p : Pos) (op : Operator) (e : Expr) (pos : Pos) : Option (CS I (.AugAssign (.Name x p) op e pos)) :=
  if hs : storeOk I I.L x = true then match ho : augF op, rc.E I e with
    | some f, some ⟨m, h⟩ => some ⟨augM (ixOf x I.N 0) f m, fun X E ok => by
        obtain ⟨h1, h2, h3, h4⟩ := storeOk_of hs ok
        exact ps_aug' (augF_ok ho) (by rw [ok.hN]; exact ok.nd) h1 h2 h3 (h X E ok) h4⟩
    | _, _ => none
  else none
/-! raise, try -/
def cRaise (rc : Rc) (I : Inf) (pos : Pos) : ∀ e : Expr, Option (CS I (.Raise (some e) none pos))
  | .Call (.Name x p) [e] [] pos2 => if h : I.rz = true ∧ I.sc.names.lookup x = some .globalImplicit ∧ (x == ("__debug__" : Str)) = false ∧ plainE e = true then
      match hf : findX x I.exs, rc.E I e with
      | some c, some ⟨m, k⟩ => if hz : c.z = false then some ⟨raisM c m, fun X E ok => by
          obtain ⟨h1, h2, h3, h4⟩ := h
          obtain ⟨hm, ex⟩ := findX_mem hf
          subst ex
          exact ps_raisM hz ok.calm (ok.xs h1).tk ((ok.xs h1).ex c hm) (Gl_of h2 ok) (k X E ok) h3 (star_of h4)⟩
        else none
      | _, _ => none
    else none
  | _ => none
theorem tr_ok {I : Inf} {X : Cx} {E : WS} (ok : InfOk I X E) (hz : I.rz = true) {W : WX} {pn : List (Addr × Obj)} {xe : Value → Shared → Prop} (tk : Takes (X.tr pn xe) W) (pass : PassesOwn (model X.prog X.w) X.A X.env xe) : InfOk I (X.tr pn xe) (fun σ c d H => W c d σ H) where
  hN := ok.hN
  sc := ok.sc
  fc := ok.fc
  nd := ok.nd
  calm := ok.calm
  un := ok.un
  blt := ok.blt
  imp := ok.imp
  con := ok.con
  fns := fun f hf p hp => by
    obtain ⟨h1, h2, _, h4⟩ := ok.fns f hf p hp
    exact ⟨h1, h2, fun σ => passAt tk σ, h4⟩
  pass := pass
  gd := ok.gd
  xs := fun _ => ⟨tk, (ok.xs hz).st, (ok.xs hz).fr, fun c hc => ⟨fun z => ⟨(((ok.xs hz).ex c hc).e0 z).ex⟩, ((ok.xs hz).ex c hc).ex⟩, (ok.xs hz).su, (ok.xs hz).cl⟩
def cTry (rc : Rc) (I : Inf) (body : List Stmt) (cx n : Str) (np pos' pos : Pos) (b₀ : Stmt) (suite : List Stmt) : Option (CS I (.Try body [.ExceptHandler (some (.Name cx np)) (some n) (b₀ :: suite) pos'] [] [] pos)) :=
  if h : I.rz = true ∧ (I.N[ixOf n I.N 0]? = some n ∧ I.sc.names.lookup n = some .local ∧ I.L.contains (ixOf n I.N 0) = false) ∧ I.sc.names.lookup cx = some .globalImplicit ∧ (cx == ("__debug__" : Str)) = false then
    match cBody rc I body, cSuite I n (b₀ :: suite), hf : findC cx I.cls with
    | some ⟨mb, hb⟩, some ⟨su, hs⟩, some tb => some ⟨tryM mb tb (ixOf n I.N 0) su, fun X E ok => by
        obtain ⟨h1, ⟨h2, h3, h4⟩, h5, h6⟩ := h
        have xo := ok.xs h1
        obtain ⟨cc, cv, hcv, hn, htb, hcb⟩ := xo.cl _ (findC_mem hf)
        exact ps_tryM xo.st xo.fr (by rw [ok.hN]; exact ok.nd) (by rw [ok.hN]; exact h2) (kind_of h3 ok) (by simpa using h4) ⟨Gl_of h5 ok, h6, hn.imp (·.1) fun z => ⟨z.1, z.2.1, z.2.2.2⟩⟩ xo.tk hcb
          (fun W pn xe tk pass => hb (X.tr pn xe) (fun σ c d H => W c d σ H) (tr_ok ok h1 tk pass))
          (fun a oe cls d pn hz hf' => hs X a oe cls d pn ⟨ok.hN, ok.sc, ok.fc, ok.nd, fun z => ok.blt _ (by simpa using z), xo.su, xo.cl, hz, hf'⟩)⟩
    | _, _, _ => none
  else none
def stepS (rc : Rc) (I : Inf) : ∀ s : Stmt, Option (CS I s)
  | .Assign [t] e pos => cAsg rc I pos t e
  | .AugAssign (.Name x p) op e pos => cAug rc I x p op e pos
  | .Expr e pos => if h : notComp e = true then match rc.E I e with
    | some ⟨m, k⟩ => some ⟨dropM m, fun X E ok => ps_expr' (k X E ok) (swaps_of h)⟩
    | none => none
    else none
  | .Return (some e) pos => match rc.E I e with
    | some ⟨m, k⟩ => some ⟨retS m, fun X E ok => ps_ret' (k X E ok)⟩
    | none => none
  | .Return none pos => some ⟨retM (.ret (.d .non)), fun X E ok => ps_retN'⟩
  | .If c p q pos => match rc.T I c, cBody rc I p, cBody rc I q with
    | some ⟨mc, hc⟩, some ⟨ma, ha⟩, some ⟨mb, hb⟩ => some ⟨ifS mc ma mb, fun X E ok => ps_if' (hc X E ok) (ha X E ok) (hb X E ok)⟩
    | _, _, _ => none
  | .For tg iter b [] pos => cFor rc I tg iter b pos
  | .While c b [] pos => match rc.T I c, cBody rc I b with
    | some ⟨mc, hc⟩, some ⟨m, h⟩ => some ⟨whileM fuel mc m, fun X E ok => ps_while' fuel ok.pass (hc X E ok) (h X E ok)⟩
    | _, _ => none
  | .Pass pos => some ⟨retM .next, fun X E ok => ps_pass'⟩
  | .Break pos => some ⟨retM .brk, fun X E ok => ps_break'⟩
  | .Continue pos => some ⟨retM .cont, fun X E ok => ps_cont'⟩
  | .Raise (some e) none pos => cRaise rc I pos e
  | .Try body [.ExceptHandler (some (.Name cx np)) (some n) (b₀ :: suite) pos'] [] [] pos => cTry rc I body cx n np pos' pos b₀ suite
  | _ => none
/-! what no rule serves is never come to -/
theorem pe_nope {X : Cx} {E : WS} {e : Expr} : PE X e (tR (gx X) E nopeM) := ⟨fun _ _ _ _ _ _ ⟨_, _, _, _, w⟩ => w.elim⟩
theorem pt_nope {X : Cx} {E : WS} {e : Expr} : PT X e (tT (gx X) E nopeM) := ⟨fun _ _ _ _ _ _ ⟨_, _, _, _, w⟩ => w.elim⟩
theorem ps_nope {X : Cx} {E : WS} {L : List Nat} {e : Stmt} : PS X e (tS (gx X) E L nopeM) := ⟨fun _ _ _ _ _ _ ⟨_, _, _, _, w⟩ => w.elim⟩
def orE {I : Inf} {e : Expr} : Option (CE I e) → Option (CE I e)
  | some c => some c
  | none => some ⟨nopeM, fun X E ok => pe_nope⟩
def orT {I : Inf} {e : Expr} : Option (CT I e) → Option (CT I e)
  | some c => some c
  | none => some ⟨nopeM, fun X E ok => pt_nope⟩
def orS {I : Inf} {e : Stmt} : Option (CS I e) → Option (CS I e)
  | some c => some c
  | none => some ⟨nopeM, fun X E ok => ps_nope⟩
def rcs : Nat → Rc
  | 0 => ⟨fun _ _ => none, fun _ _ => none, fun _ _ => none⟩
  | n + 1 => ⟨fun I e => orE (stepE (rcs n) I e), fun I e => orT (stepT (rcs n) I e), fun I s => orS (stepS (rcs n) I s)⟩

/-! ### a def -/
structure DefI where
  x : Str
  qual : Str
  ps : List Str
  N : List Str
  L : List Nat
def infOf (d : DefI) (sc : Scope) (fns : List FnI) (blt : List Str) (imp : List (Str × String)) (con : List (Str × D)) (exs : List XcI := []) (cls : List (Str × List (Str × Bool)) := []) : Inf := ⟨d.N, sc, fun _ => true, d.L, fns, blt, imp, con, exs, cls, true⟩
/-- the def's body, compiled -/
def cDef (d : DefI) (st : Stmt) (fns : List FnI) (blt : List Str) (imp : List (Str × String)) (con : List (Str × D)) (exs : List XcI := []) (cls : List (Str × List (Str × Bool)) := []) : Option (CSs (infOf d (defScope st) fns blt imp con exs cls) (defBody st)) := cBody (rcs 24) (infOf d (defScope st) fns blt imp con exs cls) (defBody st)
def scopeOk (d : DefI) (sc : Scope) : Bool :=
  (match sc.kind with | .function => true | _ => false) && !sc.isCoroutine && !sc.isGenerator && decide d.N.Nodup && decide (d.N.take d.ps.length = d.ps) &&
  (d.ps.all fun x => decide (sc.names.lookup x = some .local) || decide (sc.names.lookup x = some .cell)) && (sc.names.all fun y => match y.2 with | .free => false | _ => true)
theorem scopeOk_of {d : DefI} {sc : Scope} (h : scopeOk d sc = true) : FnScope d.N d.ps sc := by
  simp only [scopeOk, Bool.and_eq_true, Bool.not_eq_true', decide_eq_true_eq, List.all_eq_true, Bool.or_eq_true] at h
  obtain ⟨⟨⟨⟨⟨⟨h1, h2⟩, h3⟩, h4⟩, h5⟩, h6⟩, h7⟩ := h
  refine ⟨?_, h2, h3, h4, h5, h6, fun y hy z => ?_⟩
  · cases e : sc.kind <;> rw [e] at h1 <;> first | rfl | cases h1
  · have := h7 y hy
    rw [z] at this; cases this
/-- a global def as it stands: what it does, and how it may be called -/
structure Glob (P : Program) (w : World) (K : PySem.W.Frag) (mg : Str → Option Value) (base : Heap) (k : Nat) (f : FnI) : Prop where
  ex : ∃ (a : Addr) (fd : FuncData) (ps : List Str), FnG P w K mg base k a fd ps (spOf ⟨K, mg, w⟩ f.n f.fn) ∧ ps.length = f.n ∧ mg f.x = some (.ref a) ∧ PySem.W.keepIn K (.ref a) = true ∧
    ∀ p ∈ f.pats, (∃ (dvs : List V) (ds : List Value), Vals dvs ds ∧ (∀ F, RpA ⟨K, mg, w⟩ F dvs p.2.2.1) ∧ ∀ (s : Shared) (us ws : List Value), K.In s.heap → us.length = p.1 → ws.length = p.2.1.length → BindsTo s fd ⟨us, p.2.1.zip ws⟩ (ps.zip (pick p.2.2.2 (us ++ ws ++ ds)))) ∧
      ∀ {α : Type} (l : List α), l.length = p.1 + p.2.1.length + p.2.2.1.length → (pick p.2.2.2 l).length = f.n
theorem Glob.mono {P : Program} {w : World} {K : PySem.W.Frag} {mg : Str → Option Value} {base : Heap} {k j : Nat} {f : FnI} (g : Glob P w K mg base k f) (h : k ≤ j) : Glob P w K mg base j f := by
  obtain ⟨a, fd, ps, h1, h2⟩ := g.ex
  exact ⟨a, fd, ps, h1.mono h, h2⟩
end Ev

set_option Elab.async false
set_option linter.all false
set_option maxRecDepth 100000
namespace Ev
open PySem PySem.Spec PyProof.Rows L2

/-! ### the head: facts by names, one Bool more, the dicts of the module by their keys -/
/-- a dict of the module: its name, its keys, its values -/
abbrev TabI : Type := Str × List Str × List D
def gaM (K : PySem.W.Frag) (x : Str) : Addr := match PySem.W.nsIn K mainGlobals x with
  | some (some (.ref a)) => a
  | _ => 0
abbrev AlE : Type := He.AlD × Bool × List (Option (List (Option (Str × Int))))
def obsE (fa : List He.Fa) (fn : List He.DefD) (ex : PySem.W.Frag → Bool) (tb : List TabI) (K : PySem.W.Frag) : AlE := (He.obsD fa fn K, ex K, tb.map fun t => He.dicW K (gaM K t.1))
def SaysE (fa : List He.Fa) (fn : List He.DefD) (ex : PySem.W.Frag → Bool) (tb : List TabI) (w : World) (K : PySem.W.Frag) : Prop := obsE fa fn ex tb K = (He.valD fn, true, tb.map fun t => some (He.keysIn w.params t.2.1))
section
variable {fa : List He.Fa} {fn : List He.DefD} {ex' : PySem.W.Frag → Bool} {tb' : List TabI} {w : World} {K : PySem.W.Frag}
theorem SaysE.d (c : SaysE fa fn ex' tb' w K) : He.SaysD fa fn K := congrArg (fun z : AlE => z.1) c
theorem SaysE.ex (c : SaysE fa fn ex' tb' w K) : ex' K = true := congrArg (fun z : AlE => z.2.1) c
theorem SaysE.tb (c : SaysE fa fn ex' tb' w K) {i : Nat} {t : TabI} (h : tb'[i]? = some t) : He.dicW K (gaM K t.1) = some (He.keysIn w.params t.2.1) := by
  have e : (tb'.map fun t => He.dicW K (gaM K t.1)) = tb'.map fun t => some (He.keysIn w.params t.2.1) := congrArg (fun z : AlE => z.2.2) c
  have e2 := congrArg (fun l : List (Option (List (Option (Str × Int)))) => l[i]?) e
  simp only [List.getElem?_map, h, Option.map_some] at e2
  exact Option.some.inj e2
end
/-- names that stand for built-in functions -/
def impB (l : List (Str × String)) (K : PySem.W.Frag) : Bool := l.all fun p => He.eqO (PySem.W.nsIn K mainGlobals p.1) (some (some (.builtin p.2)))

/-! names that stand for plain data -/
mutual
def kIs (K : PySem.W.Frag) : D → Value → Bool
  | .non, .none => true
  | .bl b, .bool c => decide (b = c)
  | .int i, .int j _ => decide (i = j)
  | .str x, .str y _ => decide (x = y)
  | .tup ds, .ref a => match K.lookup a with
    | some ⟨c, _, .seq its _, _⟩ => decide (c = .type "tuple") && decide (its.size ≤ sizeLine) && kIsA K ds its.toList
    | _ => false
  | .scr ds, .ref a => match K.lookup a with
    | some ⟨c, dd, .seq its _, _⟩ => decide (c = .type "list") && decide (dd = none) && decide (its.size ≤ sizeLine) && kIsA K ds its.toList
    | _ => false
  | _, _ => false
def kIsA (K : PySem.W.Frag) : List D → List Value → Bool
  | [], [] => true
  | d :: ds, u :: us => kIs K d u && kIsA K ds us
  | _, _ => false
end
def conB (l : List (Str × D)) (K : PySem.W.Frag) : Bool := l.all fun p => match PySem.W.nsIn K mainGlobals p.1 with
  | some (some u) => kIs K p.2 u
  | _ => false
/-- the values of a dict of the module -/
def kVals (K : PySem.W.Frag) (a : Addr) : List Str → List D → Bool
  | [], [] => true
  | k :: ks, d :: ds => (match PySem.W.nsIn K a k with
    | some (some u) => kIs K d u
    | _ => false) && kVals K a ks ds
  | _, _ => false
def tabB (l : List TabI) (K : PySem.W.Frag) : Bool := l.all fun t => match PySem.W.nsIn K mainGlobals t.1 with
  | some (some (.ref a)) => kVals K a t.2.1 t.2.2
  | _ => false
def exB (l : List (Str × String)) (c : List (Str × D)) (t : List TabI) (K : PySem.W.Frag) : Bool := impB l K && (conB c K && tabB t K)
mutual
theorem kIs_ok {K : PySem.W.Frag} : ∀ (d : D) (u : Value), kIs K d u = true → ∃ v, RelV v u ∧ ∀ mg F, Rp ⟨K, mg, w⟩ F v d
  | .non, u, h => by
    cases u <;> first | (exact ⟨.non, rfl, fun _ _ => .non⟩) | (simp [kIs] at h)
  | .bl b, u, h => by
    cases u <;> first | (simp only [kIs, decide_eq_true_eq] at h; subst h; exact ⟨.bl b, rfl, fun _ _ => .bl b⟩) | (simp [kIs] at h)
  | .int i, u, h => by
    cases u <;> first | (simp only [kIs, decide_eq_true_eq] at h; subst h; exact ⟨.int i, ⟨_, rfl⟩, fun _ _ => .int i⟩) | (simp [kIs] at h)
  | .str x, u, h => by
    cases u <;> first | (simp only [kIs, decide_eq_true_eq] at h; subst h; exact ⟨.str x, ⟨_, rfl⟩, fun _ _ => .str x⟩) | (simp [kIs] at h)
  | .tup ds, u, h => by
    cases u with
    | ref a =>
      simp only [kIs] at h
      split at h
      · rename_i hl
        simp only [Bool.and_eq_true, decide_eq_true_eq] at h
        obtain ⟨vs, r, q⟩ := kIsA_ok ds _ h.2
        exact ⟨.ref a, rfl, fun mg F => .tup (.inr ⟨_, _, _, hl, h.1.1, rfl, h.1.2, r⟩) (q mg F)⟩
      · cases h
    | _ => simp [kIs] at h
  | .scr ds, u, h => by
    cases u with
    | ref a =>
      simp only [kIs] at h
      split at h
      · rename_i hl
        simp only [Bool.and_eq_true, decide_eq_true_eq] at h
        obtain ⟨vs, r, q⟩ := kIsA_ok ds _ h.2
        exact ⟨.ref a, rfl, fun mg F => .scr (.inr ⟨_, _, _, hl, h.1.1.1, h.1.1.2, rfl, h.1.2, r⟩) (q mg F)⟩
      · cases h
    | _ => simp [kIs] at h
  | .ty _, u, h => by simp [kIs] at h
  | .cls _, u, h => by simp [kIs] at h
  | .lst _, u, h => by simp [kIs] at h
  | .dct _ _, u, h => by simp [kIs] at h
  | .loc _, u, h => by simp [kIs] at h
  | .exc _ _ _, u, h => by simp [kIs] at h
theorem kIsA_ok {K : PySem.W.Frag} : ∀ (ds : List D) (us : List Value), kIsA K ds us = true → ∃ vs, Vals vs us ∧ ∀ mg F, RpA ⟨K, mg, w⟩ F vs ds
  | [], [], _ => ⟨[], .nil, fun _ _ => .nil⟩
  | d :: ds, u :: us, h => by
    simp only [kIsA, Bool.and_eq_true] at h
    obtain ⟨v, r, q⟩ := kIs_ok d u h.1
    obtain ⟨vs, rs, qs⟩ := kIsA_ok ds us h.2
    exact ⟨v :: vs, .cons r rs, fun mg F => .cons (q mg F) (qs mg F)⟩
  | [], _ :: _, h => by simp [kIsA] at h
  | _ :: _, [], h => by simp [kIsA] at h
end
theorem con_ok {K : PySem.W.Frag} {mg : Str → Option Value} {l : List (Str × D)} {h : Heap} (c : conB l K = true) (X : K.In h) (G : h.Ns mainGlobals mg) : ∀ p ∈ l, ConOk ⟨K, mg, w⟩ p := fun p hp => by
  have e := List.all_eq_true.mp c p hp
  split at e
  · rename_i u hu
    obtain ⟨v, r, q⟩ := kIs_ok p.2 u e
    exact ⟨v, u, PySem.W.mg_of X G hu, r, q mg⟩
  · cases e
theorem exB_imp {K : PySem.W.Frag} {l : List (Str × String)} {c : List (Str × D)} {t : List TabI} (h : exB l c t K = true) : impB l K = true := (Bool.and_eq_true_iff.mp h).1
theorem exB_con {K : PySem.W.Frag} {l : List (Str × String)} {c : List (Str × D)} {t : List TabI} (h : exB l c t K = true) : conB c K = true := (Bool.and_eq_true_iff.mp (Bool.and_eq_true_iff.mp h).2).1
theorem exB_tab {K : PySem.W.Frag} {l : List (Str × String)} {c : List (Str × D)} {t : List TabI} (h : exB l c t K = true) : tabB t K = true := (Bool.and_eq_true_iff.mp (Bool.and_eq_true_iff.mp h).2).2
section
variable {K : PySem.W.Frag} {w : World} {a : Addr} {es : Array DictEntry} {n : Nat}
theorem dic_keys {ks : List Str} (D : KDict K w a es n) (h : He.dicW K a = some (He.keysIn w.params ks)) : es.toList.map He.keyOf = He.keysIn w.params ks := by
  unfold He.dicW at h
  rw [D.at_] at h
  simpa [D.low] using h
theorem keys_find {P : Params} {z : Str} : ∀ {l : List DictEntry} {ks : List Str}, l.map He.keyOf = He.keysIn P ks → z ∉ ks → (l.find? fun e => e.key.isStr z) = none ∧ l.any (·.refKey) = false
  | [], _, _, _ => ⟨rfl, rfl⟩
  | e :: r, [], h, _ => by cases h
  | e :: r, k :: ks, h, hz => by
    have h1 : He.keyOf e :: r.map He.keyOf = some (k, PyData.keyHash P k) :: He.keysIn P ks := h
    injection h1 with h2 h3
    simp only [List.mem_cons, not_or] at hz
    obtain ⟨q1, q2⟩ := keys_find h3 hz.2
    unfold He.keyOf at h2
    split at h2
    · rename_i x t q
      have h4 := Option.some.inj h2
      obtain ⟨h5, h6⟩ := Prod.mk.inj h4
      subst h5
      refine ⟨?_, ?_⟩
      · rw [List.find?_cons, q]
        have : Value.isStr (.str x t) z = false := by
          rw [PySem.W.isStr_of]
          simp [Value.isStrOf]
          exact fun e => hz.1 e.symm
        rw [this]; exact q1
      · rw [List.any_cons, q2, Bool.or_false]
        simp [DictEntry.refKey, q]
    · cases h2
theorem kVals_ok {mg : Str → Option Value} (hk : ∀ d u, kIs K d u = true → ∃ v, RelV v u ∧ ∀ F, Rp ⟨K, mg, w⟩ F v d) : ∀ {ks : List Str} {ds : List D}, kVals K a ks ds = true → ∃ vs : List V, vs.length = ks.length ∧ (∀ F, RpA ⟨K, mg, w⟩ F vs ds) ∧
    ∀ z : Str, z ∈ ks → ∃ u v, PySem.W.nsIn K a z = some (some u) ∧ RelV v u ∧ valV ((ks.map Sum.inr : List Key).zip vs) (.inr z) = some v
  | [], [], _ => ⟨[], rfl, fun _ => .nil, fun z h => nomatch h⟩
  | k :: ks, d :: ds, h => by
    simp only [kVals, Bool.and_eq_true] at h
    obtain ⟨h1, h2⟩ := h
    split at h1
    · rename_i u hu
      obtain ⟨v, r, q⟩ := hk d u h1
      obtain ⟨vs, l, rs, m⟩ := kVals_ok hk h2
      refine ⟨v :: vs, by simp [l], fun F => .cons (q F) (rs F), fun z hz => ?_⟩
      by_cases e : k = z
      · subst e
        exact ⟨u, v, hu, r, by rw [List.map_cons, List.zip_cons_cons]; exact valV_pos rfl⟩
      · obtain ⟨u', v', m1, m2, m3⟩ := m z ((List.mem_cons.mp hz).resolve_left fun q => e q.symm)
        refine ⟨u', v', m1, m2, ?_⟩
        rw [List.map_cons, List.zip_cons_cons, valV_neg (fun q => e (Sum.inr.inj q))]
        exact m3
    · cases h1
  | [], _ :: _, h => by simp [kVals] at h
  | _ :: _, [], h => by simp [kVals] at h
theorem zip_none {z : Str} : ∀ {ks : List Str} {vs : List V}, z ∉ ks → valV ((ks.map Sum.inr : List Key).zip vs) (.inr z) = none
  | [], _, _ => by simp [valV_nil]
  | _ :: _, [], _ => by simp [valV_nil]
  | k :: ks, v :: vs, h => by
    simp only [List.mem_cons, not_or] at h
    rw [List.map_cons, List.zip_cons_cons, valV_neg (fun q => h.1 (Sum.inr.inj q).symm)]
    exact zip_none h.2
theorem tab_ok {mg : Str → Option Value} {l : List TabI} {h : Heap} {t : TabI} {i : Nat} (c : tabB l K = true) (X : K.In h) (G : h.Ns mainGlobals mg) (e : l[i]? = some t) (hd : He.dicW K (gaM K t.1) = some (He.keysIn w.params t.2.1)) : ConOk ⟨K, mg, w⟩ (t.1, .dct (t.2.1.map Sum.inr) t.2.2) := by
  have q := List.all_eq_true.mp c t (List.mem_of_getElem? e)
  split at q
  · rename_i a hu
    have ea : gaM K t.1 = a := by unfold gaM; rw [hu]
    rw [ea] at hd
    obtain ⟨es, n, D⟩ := He.dicW_ok hd
    obtain ⟨vs, l1, rs, m⟩ := kVals_ok (w := w) (mg := mg) (fun d u hk => by
      obtain ⟨v, r, q⟩ := kIs_ok (w := w) d u hk
      exact ⟨v, r, q mg⟩) q
    refine ⟨.ref a, .ref a, PySem.W.mg_of X G hu, rfl, fun F => .dct (kvs := (t.2.1.map Sum.inr : List Key).zip vs) (.inr ⟨es, n, D, fun z => ?_⟩) ?_ ?_⟩
    · by_cases hz : z ∈ t.2.1
      · obtain ⟨u, v, m1, m2, m3⟩ := m z hz
        exact ⟨some u, m1, by rw [m3]; exact m2⟩
      · obtain ⟨q1, q2⟩ := keys_find (dic_keys D hd) hz
        refine ⟨none, ?_, by rw [zip_none hz]; trivial⟩
        unfold PySem.W.nsIn
        rw [D.at_]
        simp only [q1, q2]
        rfl
    · rw [List.map_fst_zip]; simp [l1]
    · rw [List.map_snd_zip (by simp [l1])]; exact rs F
  · cases q
theorem co_tab {mg : Str → Option Value} {fa : List He.Fa} {fn : List He.DefD} {ex : PySem.W.Frag → Bool} {l : List TabI} {h : Heap} {t : TabI} {p : Str × D} (c : SaysE fa fn ex l w K) (ct : tabB l K = true) (X : K.In h) (G : h.Ns mainGlobals mg) (i : Nat) (e : l[i]? = some t) (ep : p = (t.1, .dct (t.2.1.map Sum.inr) t.2.2)) : ConOk ⟨K, mg, w⟩ p := by
  subst ep
  exact tab_ok ct X G e (c.tb e)
end
/-! ### a def as it stands, and how it may be called -/
def defD (d : DefI) (st : Stmt) (dfl : List He.Dv) (kwd : List (Str × He.Dv)) : He.DefD := ⟨(d.x, none), d.x, d.qual, defArgs st, defBody st, defScope st, dfl, kwd⟩
section
variable {P : Program} {w : World} {K : PySem.W.Frag} {mg : Str → Option Value} {base : Heap}
/-- a way to call a def: how its arguments are bound -/
def PatOk (w : World) (K : PySem.W.Frag) (mg : Str → Option Value) (fd : FuncData) (ps : List Str) (p : Nat × List Str × List D × List Nat) : Prop :=
  (∃ (dvs : List V) (ds : List Value), Vals dvs ds ∧ (∀ F, RpA ⟨K, mg, w⟩ F dvs p.2.2.1) ∧ ∀ (s : Shared) (us ws : List Value), K.In s.heap → us.length = p.1 → ws.length = p.2.1.length → BindsTo s fd ⟨us, p.2.1.zip ws⟩ (ps.zip (pick p.2.2.2 (us ++ ws ++ ds)))) ∧
      ∀ {α : Type} (l : List α), l.length = p.1 + p.2.1.length + p.2.2.1.length → (pick p.2.2.2 l).length = ps.length
theorem pick_len {α : Type} {sel : List Nat} {l : List α} {n : Nat} (h : sel.all (· < n) = true) (hl : l.length = n) : (pick sel l).length = sel.length := by
  unfold pick
  induction sel with
  | nil => rfl
  | cons a r ih =>
    rw [List.all_cons, Bool.and_eq_true, decide_eq_true_eq] at h
    obtain ⟨x, hx⟩ := idx (l := l) (i := a) (by rw [hl]; exact h.1)
    rw [List.filterMap_cons, hx, List.length_cons, List.length_cons, ih h.2]
/-- every parameter is written -/
theorem pat_plain {x qual : Str} {a : Arguments} {b : List Stmt} {sc : Scope} {dvs : List V} {kws : List (Str × V)} {f : Addr} {fd : FuncData} {ps : List Str} {np : Nat} {ks : List Str} {sel : List Nat} (F : FunD K x qual a b sc dvs kws f fd) (hd : dvs = [])
    (h : ∀ (kV doc pm : Value) (an : Option Addr) (cdv ct : Value) (us ws : List Value), us.length = np → ws.length = ks.length → bindArgs (PySem.W.fnOf x qual a b sc .none kV doc pm an cdv ct) ⟨us, ks.zip ws⟩ = pure (ps.zip (pick sel (us ++ ws ++ []))))
    (hs : sel.all (· < np + ks.length) = true) (hl : sel.length = ps.length) : PatOk w K mg fd ps (np, ks, [], sel) := by
  obtain ⟨oc, od, dV, kV, doc, pm, an, cdv, ct, osl, rfl, _, _, hD, _⟩ := F.ex
  have e : dV = .none := by
    rcases hD with ⟨_, e⟩ | ⟨z, _⟩
    · exact e
    · exact absurd hd z
  subst e
  refine ⟨⟨[], [], .nil, fun _ => .nil, fun s us ws X h1 h2 => .of_eq (h kV doc pm an cdv ct us ws h1 h2)⟩, fun l hl' => ?_⟩
  rw [pick_len hs (by simpa using hl'), hl]
/-- the last defaults fill up -/
theorem pat_dfl {x qual : Str} {a : Arguments} {b : List Stmt} {sc : Scope} {dvs : List V} {kws : List (Str × V)} {f : Addr} {fd : FuncData} {ps : List Str} {np : Nat} {ks : List Str} {sel : List Nat} {dd : List D} (F : FunD K x qual a b sc dvs kws f fd) (j : Nat) (hd : dvs ≠ [])
    (hr : ∀ F, RpA ⟨K, mg, w⟩ F (dvs.drop j) dd)
    (h : ∀ (T : Addr) (kV doc pm : Value) (an : Option Addr) (cdv ct : Value) (us ws its : List Value), us.length = np → ws.length = ks.length → its.length = dvs.length → ∃ k, bindArgs (PySem.W.fnOf x qual a b sc (.ref T) kV doc pm an cdv ct) ⟨us, ks.zip ws⟩ = seqItems? (.ref T) >>= k ∧ k (some its.toArray) = pure (ps.zip (pick sel (us ++ ws ++ its.drop j))))
    (hs : sel.all (· < np + ks.length + dd.length) = true) (hl : sel.length = ps.length) : PatOk w K mg fd ps (np, ks, dd, sel) := by
  obtain ⟨oc, od, dV, kV, doc, pm, an, cdv, ct, osl, rfl, lk, hcd, hD, hK⟩ := F.ex
  rcases hD with ⟨e, _⟩ | ⟨_, T, o, its, m, rfl, lT, oT, rT⟩
  · exact absurd e hd
  · refine ⟨⟨dvs.drop j, its.drop j, rT.drop j, hr, fun s us ws X h1 h2 => ?_⟩, fun l hl' => ?_⟩
    · obtain ⟨k, e1, e2⟩ := h T kV doc pm an cdv ct us ws its h1 h2 rT.length.symm
      refine BindsTo.of_looks fun M => ?_
      rw [e1]
      exact looks_items X lT oT (PySem.W.Looks.of_pure e2)
    · rw [pick_len hs (by simpa using hl'), hl]
theorem fn_okD {x qual : Str} {st : Stmt} {f : Addr} {fd : FuncData} {N ps : List Str} {k nk : Nat} {L : List Nat} {m : M Fl} {dvs : List V} {kws : List (Str × V)} (Fu : FunD K x qual (defArgs st) (defBody st) (defScope st) dvs kws f fd) (Sc : FnScope N ps (defScope st))
    (hbody : ∀ (cdv : Value) (A : Around) (outer : List Env) (s : Shared) (H : Hp) (E : XK), Room k (A.deeper (envOfC qual (defScope st) s.heap.objs.size f cdv)) → A.guards = some [] →
      PSs (cxOf (L2.CX P w) P w K mg base N qual (defScope st) f cdv A outer s H E) (defBody st) (tS ⟨K, mg, w⟩ (fun _ => E) L m)) :
    FnG P w K mg base (k + 1) f fd ps (spOf ⟨K, mg, w⟩ ps.length (bodyFn ps.length nk L m)) := by
  obtain ⟨_, _, _, _, _, _, _, cdv, _, _, efd, hlook, hcode, _⟩ := Fu.ex
  refine ⟨fun vs H Q E h => h.1, fun A outer s H args us vs Q E room quiet e0 bnd rel pr => ?_⟩
  have old : ∀ b o, base.get? b = some o → s.heap.get? b = some o := fun b o e => (e0.bs b o e).1
  have inK := e0.mod.kin.keeps old
  subst efd
  have bound : ∀ y ∈ ps.zip us, (defScope st).names.lookup y.1 = some .local ∨ ((defScope st).names.lookup y.1 = some .cell ∧ ((cellsFrom (s.heap.objs.size + 1) (defScope st).names []).lookup y.1).isSome = true) := by
    rintro ⟨nm, u⟩ hy
    have hmem := (List.of_mem_zip hy).1
    cases Sc.par nm hmem with
    | inl q => exact Or.inl q
    | inr q => exact Or.inr ⟨q, PySem.W.cellsFrom_some _ _ _ (Or.inl q)⟩
  apply codeAny_call_function room.depth (inK _ _ hlook) rfl Sc.co Sc.gen rfl (PySem.W.codeRec_of inK hcode)
  apply bnd
  apply wpAny_newFunctionEnv_cells Sc.kind bound
  intro env henv s1 laid
  subst henv
  have inv := inv_start (CX := L2.CX P w) (E := E) Sc room.hd e0 (show vs.length = ps.length from pr.1) rel laid
  refine ⟨(e0.mod.nolimit.keeps old).keeps laid.toInCall.keep, codeAny_func ?_⟩
  have run := (hbody cdv A outer s H E (room.deeper _) quiet).run [] s1 (L2.start N vs) H { nx := fun _ H' => Q .non H', rt := Q } inv (body_end pr)
  refine wpAny_mono run (fun fl s2 end_ => ?_) (fun _ _ q => q)
  match fl, end_ with
  | .ret u, ⟨v, _, H', J, rv, q⟩ => exact ⟨v, H', J.os, J.bare, J.base, J.hok, rv, q⟩
  | .next, ⟨_, H', J, q⟩ => exact ⟨V.non, H', J.os, J.bare, J.base, J.hok, rfl, q⟩
  | .brk, ⟨_, _, _, q⟩ => exact q.elim
  | .cont, ⟨_, _, _, q⟩ => exact q.elim
/-- an own class of exceptions as it stands: made by its __init__ at level k, read in a suite -/
structure ExG (P : Program) (w : World) (K : PySem.W.Frag) (mg : Str → Option Value) (base : Heap) (k : Nat) (c : XcI) : Prop where
  su : ∃ C : Addr, mg c.x = some (.ref C) ∧ XSui K C ∧ PySem.W.findIn K (.ref C) c.f = some none
  e0 : c.z = true → ∃ (C : Addr) (bz : List Value) (B nw ni : String), ExcBaseFacts B nw ni bz ∧ PySem.W.excIn K C bz nw = true ∧ mg c.x = some (.ref C) ∧ PySem.W.keepIn K (.ref C) = true
  ex : c.z = false → ∃ (C fI : Addr) (fd : FuncData) (ps : List Str) (j : Nat), j + 1 ≤ k ∧ XCls K C ∧ PySem.W.takerIn K C c.f = some none ∧ PySem.W.findIn K (.ref C) "__init__" = some (some (.ref fI)) ∧ PySem.W.typeIn K (.ref fI) = some (.type "function") ∧
    FnOk P w K mg base (L2.CX P w) j fI fd ps (spX K c.f) ∧ (∀ (s : Shared) (us : List Value), K.In s.heap → us.length = ps.length → BindsTo s fd ⟨us, []⟩ (ps.zip us)) ∧ mg c.x = some (.ref C) ∧ ∀ (s : Shared) (a b : Value), K.In s.heap → BindsTo s fd ⟨[a], [(c.p, b)]⟩ (ps.zip [a, b])
/-- a class that is asked about -/
def ClsG (K : PySem.W.Frag) (mg : Str → Option Value) (y : Str × List (Str × Bool)) : Prop := ∃ (cc : V) (cv : Value), (∀ u, RelV cc u → u = cv) ∧ ((mg y.1 = some cv ∧ RelV cc cv) ∨ (mg y.1 = none ∧ bootBuiltins y.1 = some cv ∧ RelV cc cv ∧ y.1 ≠ "__name__")) ∧
  ∀ x b, y.2.lookup x = some b → ∃ D : Addr, mg x = some (.ref D) ∧ XSui K D ∧ PySem.W.kitOne K (.ref D) cv = some b ∧ PySem.W.exmOne K (.ref D) cv = some b
/-- THE RULE: a def of the text, compiled -/
theorem fnok_ofX {d : DefI} {st : Stmt} {a : Addr} {fd : FuncData} {fns : List FnI} {blt : List Str} {imp : List (Str × String)} {con : List (Str × D)} {exs : List XcI} {cls : List (Str × List (Str × Bool))} {k : Nat} {m : M Fl} {dvs : List V} {kws : List (Str × V)} (Fu : FunD K d.x d.qual (defArgs st) (defBody st) (defScope st) dvs kws a fd) (hs : scopeOk d (defScope st) = true)
    (hblt : ∀ x ∈ blt, mg x = none) (himp : ∀ p ∈ imp, mg p.1 = some (.builtin p.2)) (hcon : ∀ p ∈ con, ConOk ⟨K, mg, w⟩ p) (hex : ∀ c ∈ exs, ExG P w K mg base k c) (hcl : ∀ y ∈ cls, ClsG K mg y) (hfn : ∀ g ∈ fns, Glob P w K mg base k g) (hc : (cDef d st fns blt imp con exs cls).map (·.1) = some m) (nk : Nat) :
    FnG P w K mg base (k + 1) a fd d.ps (spOf ⟨K, mg, w⟩ d.ps.length (bodyFn d.ps.length nk d.L m)) := by
  rw [Option.map_eq_some_iff] at hc
  obtain ⟨c, hc, rfl⟩ := hc
  have Sc := scopeOk_of hs
  refine fn_okD Fu Sc fun cdv A outer s H E hr hq => ?_
  refine c.2 (cxOf (L2.CX P w) P w K mg base d.N d.qual (defScope st) a cdv A outer s H E) (fun _ => E) ?_
  have tk : Takes (cxOf (L2.CX P w) P w K mg base d.N d.qual (defScope st) a cdv A outer s H E) (fun cls dd _ H => E cls dd H) := takes_of rfl rfl rfl rfl
  refine ⟨rfl, rfl, rfl, Sc.nd, rfl, hr.units, hblt, himp, hcon, fun g hg p hp => ?_, PassesOwn.leaving, hq, fun _ => ⟨tk, rfl, rfl, fun e he => ?_, fun e he => ?_, fun y hy => ?_⟩⟩
  · obtain ⟨a', fd', ps', h1, h2, h3, h4, h5⟩ := (hfn g hg).ex
    obtain ⟨⟨dvs', ds', r1, r2, r3⟩, sl⟩ := h5 p hp
    exact ⟨⟨a', fd', ps', k, dvs', ds', h1, h2, hr, h3, h4, r1, r2, r3⟩, sl, fun σ => passAt tk σ, hq⟩
  · refine ⟨fun z => ⟨(hex e he).e0 z⟩, fun z => ?_⟩
    obtain ⟨C, fI, fd', ps', j, hj, h1, h2, h3, h4, h5, h6, h7, h8⟩ := (hex e he).ex z
    exact ⟨C, fI, fd', ps', j, h1, h2, h3, h4, h5, hr.mono hj, h6, h7, h8⟩
  · exact (hex e he).su
  · obtain ⟨cc, cv, h1, h2, h3⟩ := hcl y hy
    exact ⟨cc, cv, h1, h2, fun x b hb => (h3 x b hb).imp fun D z => ⟨z.1, z.2.1, z.2.2.1⟩, fun x b hb => (h3 x b hb).imp fun D z => ⟨z.1, z.2.2.2⟩⟩
theorem fnok_of {d : DefI} {st : Stmt} {a : Addr} {fd : FuncData} {fns : List FnI} {blt : List Str} {imp : List (Str × String)} {con : List (Str × D)} {k : Nat} {m : M Fl} {dvs : List V} {kws : List (Str × V)} (Fu : FunD K d.x d.qual (defArgs st) (defBody st) (defScope st) dvs kws a fd) (hs : scopeOk d (defScope st) = true)
    (hblt : ∀ x ∈ blt, mg x = none) (himp : ∀ p ∈ imp, mg p.1 = some (.builtin p.2)) (hcon : ∀ p ∈ con, ConOk ⟨K, mg, w⟩ p) (hfn : ∀ g ∈ fns, Glob P w K mg base k g) (hc : (cDef d st fns blt imp con).map (·.1) = some m) (nk : Nat) :
    FnG P w K mg base (k + 1) a fd d.ps (spOf ⟨K, mg, w⟩ d.ps.length (bodyFn d.ps.length nk d.L m)) :=
  fnok_ofX (exs := []) (cls := []) Fu hs hblt himp hcon (fun _ h => nomatch h) (fun _ h => nomatch h) hfn hc nk
/-- .. as it may be called -/
theorem glob_of {d : DefI} {st : Stmt} {a : Addr} {fd : FuncData} {fns : List FnI} {blt : List Str} {imp : List (Str × String)} {con : List (Str × D)} {k : Nat} {m : M Fl} {dvs : List V} {kws : List (Str × V)} (pats : List (Nat × List Str × List D × List Nat)) (Fu : FunD K d.x d.qual (defArgs st) (defBody st) (defScope st) dvs kws a fd) (hs : scopeOk d (defScope st) = true)
    (hblt : ∀ x ∈ blt, mg x = none) (himp : ∀ p ∈ imp, mg p.1 = some (.builtin p.2)) (hcon : ∀ p ∈ con, ConOk ⟨K, mg, w⟩ p) (hfn : ∀ g ∈ fns, Glob P w K mg base k g) (hc : (cDef d st fns blt imp con).map (·.1) = some m) (hm : mg d.x = some (.ref a)) (hp : ∀ p ∈ pats, PatOk w K mg fd d.ps p) (nk : Nat) (lent : List Nat) :
    Glob P w K mg base (k + 1) ⟨d.x, d.ps.length, lent, pats, bodyFn d.ps.length nk d.L m, false⟩ :=
  ⟨a, fd, d.ps, fnok_of Fu hs hblt himp hcon hfn hc nk, rfl, hm, Fu.kp, hp⟩
/-- .. as it may be called -/
theorem glob_ofX {d : DefI} {st : Stmt} {a : Addr} {fd : FuncData} {fns : List FnI} {blt : List Str} {imp : List (Str × String)} {con : List (Str × D)} {exs : List XcI} {cls : List (Str × List (Str × Bool))} {k : Nat} {m : M Fl} {dvs : List V} {kws : List (Str × V)} (pats : List (Nat × List Str × List D × List Nat)) (Fu : FunD K d.x d.qual (defArgs st) (defBody st) (defScope st) dvs kws a fd) (hs : scopeOk d (defScope st) = true)
    (hblt : ∀ x ∈ blt, mg x = none) (himp : ∀ p ∈ imp, mg p.1 = some (.builtin p.2)) (hcon : ∀ p ∈ con, ConOk ⟨K, mg, w⟩ p) (hex : ∀ c ∈ exs, ExG P w K mg base k c) (hcl : ∀ y ∈ cls, ClsG K mg y) (hfn : ∀ g ∈ fns, Glob P w K mg base k g) (hc : (cDef d st fns blt imp con exs cls).map (·.1) = some m) (hm : mg d.x = some (.ref a)) (hp : ∀ p ∈ pats, PatOk w K mg fd d.ps p) (nk : Nat) (lent : List Nat) :
    Glob P w K mg base (k + 1) ⟨d.x, d.ps.length, lent, pats, bodyFn d.ps.length nk d.L m, false⟩ :=
  ⟨a, fd, d.ps, fnok_ofX Fu hs hblt himp hcon hex hcl hfn hc nk, rfl, hm, Fu.kp, hp⟩
/-- a def that is never come to -/
theorem glob_none {x : Str} {n : Nat} {lent : List Nat} {pats : List (Nat × List Str × List D × List Nat)} {a : Addr} {fd : FuncData} {ps : List Str} (hm : mg x = some (.ref a)) (hk : PySem.W.keepIn K (.ref a) = true) (hn : ps.length = n) (hp : ∀ p ∈ pats, PatOk w K mg fd ps p) (k : Nat) : Glob P w K mg base k ⟨x, n, lent, pats, fun _ => none, false⟩ := by
  subst hn
  refine ⟨a, fd, ps, ⟨fun vs H Q E h => h.1, fun A outer s H args us vs Q E hr _ e0 hb r h => ?_⟩, rfl, hm, hk, hp⟩
  obtain ⟨_, O, F, ss, cs, _, _, z⟩ := h
  exact z.elim
end
/-! short words for the generated rows -/
section
variable {P : Program} {w : World} {K : PySem.W.Frag} {mg : Str → Option Value} {base : Heap} {k : Nat}
theorem Glob.lend {f : FnI} (h : Glob P w K mg base k f) : Glob P w K mg base k f.lend := ⟨h.ex⟩
theorem gl_nil : ∀ g ∈ ([] : List FnI), Glob P w K mg base k g := fun _ h => nomatch h
theorem gl_cons {f : FnI} {fs : List FnI} (h : Glob P w K mg base k f) (r : ∀ g ∈ fs, Glob P w K mg base k g) : ∀ g ∈ f :: fs, Glob P w K mg base k g := fun g hg => (List.mem_cons.mp hg).elim (fun e => e ▸ h) (r g)
theorem bl_nil : ∀ x ∈ ([] : List Str), mg x = none := fun _ h => nomatch h
theorem bl_cons {x : Str} {xs : List Str} (h : mg x = none) (r : ∀ y ∈ xs, mg y = none) : ∀ y ∈ x :: xs, mg y = none := fun y hy => (List.mem_cons.mp hy).elim (fun e => e ▸ h) (r y)
theorem im_nil : ∀ p ∈ ([] : List (Str × String)), mg p.1 = some (.builtin p.2) := fun _ h => nomatch h
theorem co_nil : ∀ p ∈ ([] : List (Str × D)), ConOk ⟨K, mg, w⟩ p := fun _ h => nomatch h
theorem co_cons {p : Str × D} {l : List (Str × D)} (h : ConOk ⟨K, mg, w⟩ p) (r : ∀ q ∈ l, ConOk ⟨K, mg, w⟩ q) : ∀ q ∈ p :: l, ConOk ⟨K, mg, w⟩ q := fun q hq => (List.mem_cons.mp hq).elim (fun e => e ▸ h) (r q)
theorem co_at {l : List (Str × D)} {h : Heap} {p : Str × D} (c : conB l K = true) (X : K.In h) (G : h.Ns mainGlobals mg) (i : Nat) (e : l[i]? = some p) : ConOk ⟨K, mg, w⟩ p := con_ok c X G p (List.mem_of_getElem? e)
theorem pt_nil {fd : FuncData} {ps : List Str} : ∀ p ∈ ([] : List (Nat × List Str × List D × List Nat)), PatOk w K mg fd ps p := fun _ h => nomatch h
theorem pt_cons {fd : FuncData} {ps : List Str} {p : Nat × List Str × List D × List Nat} {l : List (Nat × List Str × List D × List Nat)} (h : PatOk w K mg fd ps p) (r : ∀ q ∈ l, PatOk w K mg fd ps q) : ∀ q ∈ p :: l, PatOk w K mg fd ps q := fun q hq => (List.mem_cons.mp hq).elim (fun e => e ▸ h) (r q)
theorem imp_ok {l : List (Str × String)} {h : Heap} (c : impB l K = true) (X : K.In h) (G : h.Ns mainGlobals mg) : ∀ p ∈ l, mg p.1 = some (.builtin p.2) := fun p hp => PySem.W.mg_of X G (He.eqO_ok (List.all_eq_true.mp c p hp))
end
theorem scrA {g : Gx} {F : Hp} : ∀ ns : List Int, RpA g F (ns.map V.int) (ns.map D.int)
  | [] => .nil
  | n :: r => .cons (.int n) (scrA r)
/-- what the law is to do -/
def spLaw (K : PySem.W.Frag) : Sp := fun vs H Q _ => ∃ (a : Addr) (ns : List Int), vs = [.ref a] ∧ SqL K H a (ns.map V.int) ∧ ns.length ≤ 63 ∧ (∀ z ∈ ns, Builtin.Int.intBits z ≤ 1048576) ∧ ∀ H', Q (.bl true) H'
/-- the law's def by data is true of every script -/
def TrueFn (fn : Fn) : Prop := ∀ ns : List Int, ns.length ≤ 63 → (∀ z ∈ ns, Builtin.Int.intBits z ≤ 1048576) → ∃ δ', fn [.d (.scr (ns.map D.int)), .mem []] = some (.ok (.d (.bl true)) δ')
/-- the heap without what looks like a mark -/
def noMk (H : Hp) : Hp := fun b => match H b with
  | some o => if isMk o then none else some o
  | none => none
theorem noMk_some {H : Hp} {a : Addr} {o : HO} (h : noMk H a = some o) : H a = some o ∧ isMk o = false := by
  unfold noMk at h
  cases e : H a with
  | none => rw [e] at h; cases h
  | some u =>
    rw [e] at h
    simp only at h
    cases m : isMk u with
    | true => rw [m, if_pos rfl] at h; cases h
    | false => rw [m, if_neg Bool.false_ne_true] at h; cases h; exact ⟨rfl, m⟩
theorem noMk_of {H : Hp} {a : Addr} {o : HO} (h : H a = some o) (m : isMk o = false) : noMk H a = some o := by
  unfold noMk; rw [h]; simp only [m]; rfl
theorem law_sp {g : Gx} {fn : Fn} (hm : TrueFn fn) (vs : List V) (H : Hp) (Q : VK) (E : XK) (h : spLaw g.K vs H Q E) : spOf g 1 fn vs H Q E := by
  obtain ⟨a, ns, rfl, hS, hl, hb, hQ⟩ := h
  obtain ⟨δ', h⟩ := hm ns hl hb
  have hS' : SqL g.K (noMk H) a (ns.map V.int) := by
    rcases hS with (h | ⟨o, h⟩) | h
    · exact .inl (.inl (noMk_of h rfl))
    · exact .inl (.inr ⟨o, noMk_of h rfl⟩)
    · exact .inr h
  refine ⟨rfl, fun _ => none, noMk H, [.d (.scr (ns.map D.int))], [], rfl, ⟨⟨fun b o e _ => (noMk_some e).1, fun b e => ?_⟩, (fun _ _ z => nomatch z), fun _ => .inr rfl, fun i s hi hm => ?_, fun i j s t v h1 h2 o1 => ?_, fun i cs hi => ⟨fun b n e => ?_, fun n xs e => ?_, fun b d n e => ?_⟩, fun i j cs ds h1 h2 => ?_⟩, ?_⟩
  · cases q : noMk H b with
    | none => exact absurd q e
    | some o => rw [(noMk_some q).1]; exact fun z => nomatch z
  · match i, hi with
    | 0, hi => cases hi; exact ⟨_, rfl, .scr hS' (scrA ns)⟩
    | 1, hi => cases hi; cases hm
    | i + 2, hi => simp at hi
  · match i, h1 with
    | 0, h1 => cases h1; cases o1
    | 1, h1 => cases h1; cases o1
    | i + 2, h1 => simp at h1
  · have := (noMk_some e).2; cases this
  · match i, hi with
    | 0, hi => cases hi
    | 1, hi => cases hi; simp at e
    | i + 2, hi => simp at hi
  · have := (noMk_some e).2; cases this
  · match i, h1 with
    | 0, h1 => cases h1
    | i + 2, h1 => simp at h1
    | 1, _ => match j, h2 with
      | 0, h2 => cases h2
      | j + 2, h2 => simp at h2
      | 1, _ => rfl
  · unfold wp
    simp only [List.cons_append, List.nil_append, h]
    intro F' H' s M v hv
    cases hv; exact hQ _
theorem walk {l : PySem.W.OpenLaw} {q : Program} {loose : List Str} {XP : (Str → Option Value) → Heap → Prop} {YP : World → Heap → Prop} {d : DefRec} {K : Params → PySem.W.Frag} {k : Nat} {x : Str} (hn : l.most = some 63) (hdf : d.params.defaults = []) (hr : Room k callerA)
    (hY : ∀ (w : World) (h : Heap), YP w h → (K w.params).In h)
    (F : ∀ (w : World) (mg : Str → Option Value) (fa : Addr) (h : Heap), (K w.params).In h → h.Ns mainGlobals mg → mg d.name = some (.ref fa) →
      ∃ fd : FuncData, (∀ (s : Shared) (u : Value), BindsTo s fd ⟨[u], []⟩ [(x, u)]) ∧ ∀ base : Heap, FnOk l.prog w (K w.params) mg base (L2.CX l.prog w) k fa fd [x] (spLaw (K w.params))) :
    PySem.W.WalkO q loose XP YP l.row.toRowW d [] (fun f vs => PySem.call f vs) :=
  L2.walk_ofB (n := 63) (k := k) (x := x) (CX := fun w => L2.CX l.prog w) (sp := fun w => spLaw (K w.params)) hn (by decide) hdf hr hY (fun w mg fa h X G hm => by
    obtain ⟨fd, h1, h2⟩ := F w mg fa h X G hm
    exact ⟨fd, h1, fun base _ _ => h2 base⟩) (fun w H a ns hl hb _ hS => ⟨a, ns, rfl, hS, hl, hb, fun _ => rfl⟩) fun w H s e s' h => by
    obtain ⟨_, _, _, _, _, _, _, _, _, _, _, _, z⟩ := h
    exact z
end Ev

set_option Elab.async false
set_option linter.all false
set_option maxRecDepth 100000
namespace Ev
open PySem PySem.Spec PyProof.Rows L2
/-! ### the law's def called from the top, where nothing is being shown -/
def GoodEnd (s1 : Shared) (r : Result) (s2 : Shared) : Prop := r = .ok (.ret (.bool true)) ∧ OldK s1.heap s2.heap ∧ s2.os = s1.os ∧ AllBare s2.gens
section
variable {P : Program} {w : World} {K : PySem.W.Frag} {mg mb : Str → Option Value} {k : Nat} {fa a : Addr} {fd : FuncData} {x : Str} {s1 : Shared} {vs : List Value} {ns : List Int}
/-- the call, from an abstract heap that tracks the script alone, or nothing -/
theorem top_core (KX : K.In s1.heap) (main : s1.heap.Ns mainGlobals mg) (blt : s1.heap.Ns builtinsNs mb) (boot : ∀ y : Str, y ≠ "__name__" → mb y = bootBuiltins y) (lim : s1.heap.NoLimit) (gens : s1.gens = #[])
    (obj : s1.heap.get? a = some { cls := .type "list", data := .seq vs.toArray }) (room : Room k callerA) (F : ∀ base : Heap, FnG P w K mg base k fa fd [x] (spLaw K)) (bnd : ∀ (s : Shared) (u : Value), BindsTo s fd ⟨[u], []⟩ [(x, u)])
    (short : ns.length ≤ 63) (bits : ∀ z ∈ ns, Builtin.Int.intBits z ≤ 1048576) {H : Hp} (only : Only H) (seq : SqL K H a (ns.map V.int)) (ok : HOk P w H s1.heap) (lone : ∀ b, b ≠ a → H b = none) (apart : H a ≠ none → K.lookup a = none) :
    codeAny (model P w) callerA (.call (.ref fa) ⟨[.ref a], []⟩) (GoodEnd s1) s1 := by
  have isDict : ∀ {b : Addr} {o : Obj} {es : Array DictEntry} {n : Nat}, s1.heap.get? b = some o → o.data = .dict es n → b ≠ a := by
    intro b o es n e d z
    rw [z, obj] at e
    have e := Option.some.inj e
    rw [← e] at d
    exact nomatch d
  have space : ∀ {b : Addr} {m : Str → Option Value}, s1.heap.Ns b m → (hidT s1.heap H).Ns b m := by
    rintro b m ⟨o, es, n, e, d, rest⟩
    exact ⟨o, es, n, hidT_get e (lone b (isDict e d)), d, rest⟩
  have inK : K.In (hidT s1.heap H) := by
    intro b o e
    refine hidT_get (KX b o e) ?_
    by_cases hb : b = a
    · cases q : H b with
      | none => rfl
      | some u =>
        rw [hb] at q e
        rw [apart (fun z => by rw [z] at q; cases q)] at e
        cases e
    · exact lone b hb
  obtain ⟨mc, lim1, lim2⟩ := lim
  have mod : Mod K mg (hidT s1.heap H) := ⟨inK, space main, ⟨mb, space blt, boot⟩, ⟨mc, space lim1, lim2⟩⟩
  have env : Env0 P w K mg (hidT s1.heap H) callerA [] s1 H := ⟨rfl, mod, fun b o e => of_hidT e, Nat.le_of_eq (hidT_size _ _), trivial, fun b hb => absurd hb (List.not_mem_nil), ok, .of_eq gens⟩
  have run := (F (hidT s1.heap H)).go callerA [] s1 H ⟨[.ref a], []⟩ [.ref a] [.ref a] (fun v _ => v = .bl true) (fun _ _ _ => False) room rfl env (bnd s1 (.ref a)) (.cons rfl .nil) ⟨a, ns, rfl, seq, short, bits, fun _ => rfl⟩
  refine codeAny_mono run fun r s2 got => ?_
  match r, got with
  | .error e, got =>
    obtain ⟨_, _, _, _, _, _, _, _, _, _, _, _, z⟩ := got
    exact z.elim
  | .ok (.ret u), ⟨v, H2, os, bare, un, ok2, rel, q⟩ =>
    subst q
    have eu : u = Value.bool true := rel
    subst eu
    refine ⟨rfl, OldK.of_keep fun b o e => ?_, os, bare⟩
    cases q : H b with
    | none => exact un.keep b o e q (List.not_mem_nil) (List.not_mem_nil)
    | some u =>
      rcases only b with z | ⟨ob, xs, z⟩
      · rw [z] at q; cases q
      · have there := (ok b _ z).1
        have still := (ok2 b _ (un.frzs b ob _ z)).1
        rw [e] at there
        cases there
        exact still
theorem top_call (KX : K.In s1.heap) (main : s1.heap.Ns mainGlobals mg) (blt : s1.heap.Ns builtinsNs mb) (boot : ∀ y : Str, y ≠ "__name__" → mb y = bootBuiltins y) (lim : s1.heap.NoLimit) (gens : s1.gens = #[])
    (obj : s1.heap.get? a = some { cls := .type "list", data := .seq vs.toArray }) (are : IntsAre vs ns) (room : Room k callerA) (F : ∀ base : Heap, FnG P w K mg base k fa fd [x] (spLaw K)) (bnd : ∀ (s : Shared) (u : Value), BindsTo s fd ⟨[u], []⟩ [(x, u)])
    (short : ns.length ≤ 63) (bits : ∀ z ∈ ns, Builtin.Int.intBits z ≤ 1048576) : codeAny (model P w) callerA (.call (.ref fa) ⟨[.ref a], []⟩) (GoodEnd s1) s1 := by
  have small : ns.length ≤ sizeLine := Nat.le_trans short (by decide)
  have same := are.length
  cases hk : K.lookup a with
  | some o =>
    have eo : o = { cls := .type "list", data := .seq vs.toArray } := Option.some.inj ((KX a o hk).symm.trans obj)
    subst eo
    exact top_core KX main blt boot lim gens obj room F bnd short bits (H := fun _ => none) (fun _ => .inl rfl) (.inr ⟨_, vs.toArray, _, hk, rfl, rfl, rfl, by rw [List.size_toArray, same]; exact small, by simpa using vals_ints are⟩)
      (fun _ _ z => nomatch z) (fun _ _ => rfl) (fun z => absurd rfl z)
  | none =>
    let H : Hp := upd (fun _ => none) a (.frz { cls := .type "list", data := .seq vs.toArray } (.lst (ns.map V.int)))
    have Ha : H a = some (.frz { cls := .type "list", data := .seq vs.toArray } (.lst (ns.map V.int))) := upd_same
    have Hn : ∀ b, b ≠ a → H b = none := fun b hb => upd_ne hb
    refine top_core KX main blt boot lim gens obj room F bnd short bits (H := H) (fun b => ?_) (.inl (.inr ⟨_, Ha⟩)) (fun b u z => ?_) Hn (fun _ => hk)
    · by_cases hb : b = a
      · rw [hb]; exact .inr ⟨_, _, Ha⟩
      · exact .inl (Hn b hb)
    · by_cases hb : b = a
      · subst hb
        rw [Ha] at z
        cases z
        exact ⟨obj, by rw [List.length_map]; exact small, vs, _, vals_ints are, obj⟩
      · rw [Hn b hb] at z; cases z
end
theorem walkG {l : PySem.W.OpenLaw} {q : Program} {loose : List Str} {XP : (Str → Option Value) → Heap → Prop} {YP : World → Heap → Prop} {d : DefRec} {K : Params → PySem.W.Frag} {k : Nat} {x : Str} (hn : l.most = some 63) (hdf : d.params.defaults = []) (hr : Room k callerA)
    (hY : ∀ (w : World) (h : Heap), YP w h → (K w.params).In h)
    (F : ∀ (w : World) (mg : Str → Option Value) (fa : Addr) (h : Heap), (K w.params).In h → h.Ns mainGlobals mg → mg d.name = some (.ref fa) →
      ∃ fd : FuncData, (∀ (s : Shared) (u : Value), BindsTo s fd ⟨[u], []⟩ [(x, u)]) ∧ ∀ base : Heap, FnG l.prog w (K w.params) mg base k fa fd [x] (spLaw (K w.params))) :
    PySem.W.WalkO q loose XP YP l.row.toRowW d [] (fun f vs => PySem.call f vs) := by
  refine Att.attach_callB hn hdf fun w s0 s1 mg mb fa o pm cd doc a vs ns G Y ho hd hcd hmg hobj hints hlen hbits hg => ?_
  obtain ⟨fd, bnd, FF⟩ := F w mg fa _ (hY w _ Y) G.T.g hmg
  exact top_call (hY w _ Y) G.T.g G.T.b G.T.builtins G.T.nolimit hg hobj hints hr FF bnd hlen hbits
end Ev

set_option Elab.async false
set_option linter.all false
set_option maxRecDepth 100000
namespace Ev
open PySem PySem.Spec PyProof.Rows L2
/-! ### the text's classes of exceptions, read off the frozen heap -/
abbrev keyRow : List Value := [.type "KeyError", .type "LookupError", .type "Exception", .type "BaseException", .type "object"]
theorem key_store : StoreFacts "KeyError" keyRow "object.__setattr__" "object" := by
  have r : mroOf (.type "KeyError") = pure keyRow := by kernel_rfl
  have b := F.store_LookupError
  refine ⟨r, ?_, b.entry, b.kind, b.split, by decide +kernel, b.args, fun self => by kernel_rfl⟩
  refine .of (owner := "object") (n := "__setattr__") ?_ ?_ ?_ ?_ ?_ ?_
  · rw [typeLookup_type, builtinLookup_eq_fast]; kernel_rfl
  · decide +kernel
  · decide +kernel
  · decide +kernel
  · first
      | exact .inl (by decide +kernel)
      | exact .inr (by decide +kernel)
  · rw [isSubtype_type]; kernel_rfl
def clsInit (st : Stmt) : Stmt := match st with
  | .ClassDef _ _ _ body _ _ _ _ _ _ _ => body.getD 0 (.Pass ⟨0, 0, 0, 0⟩)
  | _ => .Pass ⟨0, 0, 0, 0⟩
def defI (c : XcI) (qual : Str) (st : Stmt) : He.DefD := ⟨(c.x, some "__init__"), "__init__", qual, defArgs (clsInit st), defBody (clsInit st), defScope (clsInit st), [], []⟩
def xsB (K : PySem.W.Frag) (C : Addr) : Bool := xfB K C && ((PySem.W.clsIn K C).isSome && (decide (PySem.W.findIn K (.ref C) "__class__" = some (some (.builtin "object.__class__"))) && (decide (PySem.W.specialIn K (.builtin "object.__class__") "__get__" = some (some (.builtin "getset_descriptor.__get__"))) &&
  (decide (PySem.W.takesIn K (.builtin "object.__class__") = some true) && decide (PySem.W.mroIn K C (.type "object") = some true)))))
theorem xsB_ok {K : PySem.W.Frag} {C : Addr} (h : xsB K C = true) : XSui K C := by
  simp only [xsB, Bool.and_eq_true, decide_eq_true_eq] at h
  obtain ⟨h1, h2, h3, h4, h5, h6⟩ := h
  exact ⟨xfB_ok h1, h2, h3, h4, h5, h6⟩
def xcB (K : PySem.W.Frag) (bm : List Value) (nw : String) (c : XcI) : Bool := He.eqO (PySem.W.nsIn K mainGlobals c.x) (some (some (.ref (He.ga K c.x)))) && (PySem.W.excInitIn K (He.ga K c.x) bm nw && (PySem.W.excOver K (He.ga K c.x) bm && (decide (PySem.W.findIn K (.ref (He.ga K c.x)) "__setattr__" = some (some (.builtin "object.__setattr__"))) &&
  (decide (PySem.W.subIn K (.ref (He.ga K c.x)) (.type "BaseException") = some true) && (decide (PySem.W.typeIn K (.ref (He.ga K c.x)) = some (.type "type")) && (PySem.W.keepIn K (.ref (He.ga K c.x)) && (PySem.W.hasDictIn K (He.ga K c.x) && (decide (PySem.W.takerIn K (He.ga K c.x) c.f = some none) &&
  (decide (PySem.W.findIn K (.ref (He.ga K c.x)) "__init__" = some (some (.ref (He.fAd K (c.x, some "__init__"))))) && (decide (PySem.W.typeIn K (.ref (He.fAd K (c.x, some "__init__"))) = some (.type "function")) && (decide (PySem.W.findIn K (.ref (He.ga K c.x)) c.f = some none) && xsB K (He.ga K c.x))))))))))))
def clV (K : PySem.W.Frag) (T : Option String) (y : Str) : Value := match T with
  | none => .ref (He.ga K y)
  | some T => .type T
def clB (K : PySem.W.Frag) (T : Option String) (y : Str × List (Str × Bool)) : Bool := (match T with
  | none => He.eqO (PySem.W.nsIn K mainGlobals y.1) (some (some (.ref (He.ga K y.1))))
  | some _ => He.eqO (PySem.W.nsIn K mainGlobals y.1) (some none)) && y.2.all fun p => He.eqO (PySem.W.nsIn K mainGlobals p.1) (some (some (.ref (He.ga K p.1)))) && (xsB K (He.ga K p.1) &&
  (decide (PySem.W.kitOne K (.ref (He.ga K p.1)) (clV K T y.1) = some p.2) && decide (PySem.W.exmOne K (.ref (He.ga K p.1)) (clV K T y.1) = some p.2)))
section
variable {P : Program} {w : World} {K : PySem.W.Frag} {mg : Str → Option Value} {base : Heap} {h : Heap}
theorem exg_of {c : XcI} {B nw ni SB : String} {bz bm : List Value} {nm qual slf par : Str} {params : Arguments} {sc : Scope} {fd : FuncData} {p1 p2 p3 p4 : Pos} (FB : ExcBaseFacts B nw ni bz) (row : PySem.EvX.RowX bm B) (SF : StoreFacts SB bm "object.__setattr__" "object") (X : K.In h) (G : h.Ns mainGlobals mg) (hz : c.z = false) (ck : xcB K bm nw c = true)
    (F : FunD K nm qual params [.Assign [.Attribute (.Name slf p1) c.f p2] (.Name par p3) p4] sc [] [] (He.fAd K (c.x, some "__init__")) fd) (S : FnScope [slf, par] [slf, par] sc)
    (l0 : sc.names.lookup slf = some .local) (l1 : sc.names.lookup par = some .local) (d0 : (slf == ("__debug__" : Str)) = false ∧ (slf == ("__classdict__" : Str)) = false) (d1 : (par == ("__debug__" : Str)) = false ∧ (par == ("__classdict__" : Str)) = false)
    (hb : ∀ (kV doc pm : Value) (an : Option Addr) (cdv ct a b : Value), bindArgs (PySem.W.fnOf nm qual params [.Assign [.Attribute (.Name slf p1) c.f p2] (.Name par p3) p4] sc .none kV doc pm an cdv ct) ⟨[a, b], []⟩ = pure [(slf, a), (par, b)])
    (hbk : ∀ (kV doc pm : Value) (an : Option Addr) (cdv ct a b : Value), bindArgs (PySem.W.fnOf nm qual params [.Assign [.Attribute (.Name slf p1) c.f p2] (.Name par p3) p4] sc .none kV doc pm an cdv ct) ⟨[a], [(c.p, b)]⟩ = pure [(slf, a), (par, b)]) :
    ExG P w K mg base 2 c := by
  simp only [xcB, Bool.and_eq_true, decide_eq_true_eq] at ck
  obtain ⟨g1, g2, g3, g4, g5, g6, g7, g8, g9, g10, g11, g12, g13⟩ := ck
  obtain ⟨oc, od, dV, kV, doc, pm, an, cdv, ct, osl, efd, _, _, hD, _⟩ := F.ex
  have e : dV = .none := by
    rcases hD with ⟨_, e⟩ | ⟨z, _⟩
    · exact e
    · exact absurd rfl z
  subst e
  refine ⟨⟨_, PySem.W.mg_of X G (He.eqO_ok g1), xsB_ok g13, g12⟩, fun z => (by rw [hz] at z; cases z), fun _ => ⟨_, _, fd, [slf, par], 1, Nat.le_refl _, ⟨⟨B, nw, ni, SB, bz, bm, FB, row, SF, g2, g3⟩, g4, g5, g6, g7, g8⟩, g9, g10, g11, init_ok F S l0 l1 d0 d1 0, fun s us _ hl => ?_, PySem.W.mg_of X G (He.eqO_ok g1), fun s a b _ => ?_⟩⟩
  · match us, hl with
    | [a, b], _ =>
      subst efd
      exact .of_eq (hb kV doc pm an cdv ct a b)
  · subst efd
    exact .of_eq (hbk kV doc pm an cdv ct a b)
/-- .. without an own __init__ -/
def xc0B (K : PySem.W.Frag) (bz : List Value) (nw : String) (c : XcI) : Bool := He.eqO (PySem.W.nsIn K mainGlobals c.x) (some (some (.ref (He.ga K c.x)))) && (PySem.W.excIn K (He.ga K c.x) bz nw && (PySem.W.keepIn K (.ref (He.ga K c.x)) && (decide (PySem.W.findIn K (.ref (He.ga K c.x)) c.f = some none) && xsB K (He.ga K c.x))))
theorem exg0_of {c : XcI} {B nw ni : String} {bz : List Value} (FB : ExcBaseFacts B nw ni bz) (X : K.In h) (G : h.Ns mainGlobals mg) (hz : c.z = true) (ck : xc0B K bz nw c = true) : ExG P w K mg base 2 c := by
  simp only [xc0B, Bool.and_eq_true, decide_eq_true_eq] at ck
  obtain ⟨g1, g2, g3, g4, g5⟩ := ck
  have hm := PySem.W.mg_of X G (He.eqO_ok g1)
  exact ⟨⟨_, hm, xsB_ok g5, g4⟩, fun _ => ⟨_, bz, B, nw, ni, FB, g2, hm, g3⟩, fun z => by rw [hz] at z; cases z⟩
theorem clsg_rows {T : Option String} {y : Str × List (Str × Bool)} (X : K.In h) (G : h.Ns mainGlobals mg) (ck : clB K T y = true) : ∀ x b, y.2.lookup x = some b → ∃ D : Addr, mg x = some (.ref D) ∧ XSui K D ∧ PySem.W.kitOne K (.ref D) (clV K T y.1) = some b ∧ PySem.W.exmOne K (.ref D) (clV K T y.1) = some b := fun x b hx => by
  unfold clB at ck
  rw [Bool.and_eq_true] at ck
  have := List.all_eq_true.mp ck.2 (x, b) (PySem.mem_of_lookup hx)
  simp only [Bool.and_eq_true, decide_eq_true_eq] at this
  exact ⟨_, PySem.W.mg_of X G (He.eqO_ok this.1), xsB_ok this.2.1, this.2.2.1, this.2.2.2⟩
theorem clsg_own {y : Str × List (Str × Bool)} (X : K.In h) (G : h.Ns mainGlobals mg) (ck : clB K none y = true) : ClsG K mg y :=
  ⟨.ref (He.ga K y.1), .ref (He.ga K y.1), fun u r => r, .inl ⟨PySem.W.mg_of X G (He.eqO_ok (Bool.and_eq_true_iff.mp ck).1), rfl⟩, clsg_rows X G ck⟩
theorem clsg_blt {T : String} {y : Str × List (Str × Bool)} (X : K.In h) (G : h.Ns mainGlobals mg) (ck : clB K (some T) y = true) (hb : bootBuiltins y.1 = some (.type T)) (hn : y.1 ≠ "__name__") : ClsG K mg y :=
  ⟨.ty T, .type T, fun u r => r, .inr ⟨PySem.W.mg_none_of X G (He.eqO_ok (Bool.and_eq_true_iff.mp ck).1), hb, rfl, hn⟩, clsg_rows X G ck⟩
theorem ex_nil {k : Nat} : ∀ c ∈ ([] : List XcI), ExG P w K mg base k c := fun _ h => nomatch h
theorem ExG.mono {k j : Nat} {c : XcI} (h : ExG P w K mg base k c) (l : k ≤ j) : ExG P w K mg base j c := by
  refine ⟨h.su, h.e0, fun z => ?_⟩
  obtain ⟨C, fI, fd, ps, i, hi, r⟩ := h.ex z
  exact ⟨C, fI, fd, ps, i, Nat.le_trans hi l, r⟩
theorem ex_cons {k : Nat} {c : XcI} {l : List XcI} (h : ExG P w K mg base k c) (r : ∀ c ∈ l, ExG P w K mg base k c) : ∀ e ∈ c :: l, ExG P w K mg base k e := fun e he => (List.mem_cons.mp he).elim (fun z => z ▸ h) (r e)
theorem cl_nil : ∀ y ∈ ([] : List (Str × List (Str × Bool))), ClsG K mg y := fun _ h => nomatch h
theorem cl_cons {y : Str × List (Str × Bool)} {l : List (Str × List (Str × Bool))} (h : ClsG K mg y) (r : ∀ z ∈ l, ClsG K mg z) : ∀ e ∈ y :: l, ClsG K mg e := fun e he => (List.mem_cons.mp he).elim (fun z => z ▸ h) (r e)
end
/-- all that's asked of the frozen heap -/
def exB3 (l : List (Str × String)) (c : List (Str × D)) (t : List TabI) (xs : List (XcI × List Value × String)) (ys : List (Option String × Str × List (Str × Bool))) (K : PySem.W.Frag) : Bool := exB l c t K && (xs.all (fun p => if p.1.z then xc0B K p.2.1 p.2.2 p.1 else xcB K p.2.1 p.2.2 p.1) && ys.all fun p => clB K p.1 p.2)
theorem exB3_b {K : PySem.W.Frag} {l : List (Str × String)} {c : List (Str × D)} {t : List TabI} {xs : List (XcI × List Value × String)} {ys : List (Option String × Str × List (Str × Bool))} (h : exB3 l c t xs ys K = true) : exB l c t K = true := (Bool.and_eq_true_iff.mp h).1
theorem exB3_x {K : PySem.W.Frag} {l : List (Str × String)} {c : List (Str × D)} {t : List TabI} {xs : List (XcI × List Value × String)} {ys : List (Option String × Str × List (Str × Bool))} (h : exB3 l c t xs ys K = true) {i : Nat} {x : XcI} {bm : List Value} {nw : String} (e : xs[i]? = some (x, bm, nw)) (hz : x.z = false) : xcB K bm nw x = true := by
  have := List.all_eq_true.mp (Bool.and_eq_true_iff.mp (Bool.and_eq_true_iff.mp h).2).1 _ (List.mem_of_getElem? e)
  simp only [hz] at this
  exact this
theorem exB3_x0 {K : PySem.W.Frag} {l : List (Str × String)} {c : List (Str × D)} {t : List TabI} {xs : List (XcI × List Value × String)} {ys : List (Option String × Str × List (Str × Bool))} (h : exB3 l c t xs ys K = true) {i : Nat} {x : XcI} {bm : List Value} {nw : String} (e : xs[i]? = some (x, bm, nw)) (hz : x.z = true) : xc0B K bm nw x = true := by
  have := List.all_eq_true.mp (Bool.and_eq_true_iff.mp (Bool.and_eq_true_iff.mp h).2).1 _ (List.mem_of_getElem? e)
  simp only [hz] at this
  exact this
theorem exB3_y {K : PySem.W.Frag} {l : List (Str × String)} {c : List (Str × D)} {t : List TabI} {xs : List (XcI × List Value × String)} {ys : List (Option String × Str × List (Str × Bool))} (h : exB3 l c t xs ys K = true) {i : Nat} {T : Option String} {y : Str × List (Str × Bool)} (e : ys[i]? = some (T, y)) : clB K T y = true :=
  List.all_eq_true.mp (Bool.and_eq_true_iff.mp (Bool.and_eq_true_iff.mp h).2).2 _ (List.mem_of_getElem? e)
end Ev

set_option Elab.async false
set_option linter.all false
set_option maxRecDepth 10000
namespace Ev
open PySem PySem.Spec PyProof.Rows L2
/-! ### loops by an invariant -/
/-- one turn of a loop -/
def itM {α : Type} (T : Tg) (d : D) (body : M α) : M α := fun δ => match asgT T d δ with
  | none => none
  | some δ1 => body δ1
theorem forM_inv {T : Tg} {body : M Fl} (I : Nat → Dl → Prop) : ∀ (ds : List D) (k : Nat) (δ : Dl), I k δ → (∀ i d δ, ds[i]? = some d → I (k + i) δ → ∃ δ2, itM T d body δ = some (.ok .next δ2) ∧ I (k + i + 1) δ2) → ∃ δ', forM T body ds δ = some (.ok .next δ') ∧ I (k + ds.length) δ'
  | [], k, δ, h, _ => ⟨δ, rfl, h⟩
  | d :: ds, k, δ, h, st => by
    obtain ⟨δ2, e, h2⟩ := st 0 d δ rfl h
    obtain ⟨δ', e', h'⟩ := forM_inv (T := T) (body := body) I ds (k + 1) δ2 h2 (fun i d δ hi hI => by
      have := st (i + 1) d δ (by simpa using hi) (by rw [show k + (i + 1) = k + 1 + i by omega]; exact hI)
      rw [show k + (i + 1) + 1 = k + 1 + i + 1 by omega] at this
      exact this)
    refine ⟨δ', ?_, by rw [List.length_cons, show k + (ds.length + 1) = k + 1 + ds.length by omega]; exact h'⟩
    unfold itM at e
    unfold forM
    cases ea : asgT T d δ with
    | none => rw [ea] at e; cases e
    | some δ1 =>
      rw [ea] at e
      simp only at e ⊢
      unfold bindM
      rw [e]
      exact e'
theorem forM0 {T : Tg} {body : M Fl} (I : Nat → Dl → Prop) (ds : List D) (δ : Dl) (h : I 0 δ) (st : ∀ i d δ, ds[i]? = some d → I i δ → ∃ δ2, itM T d body δ = some (.ok .next δ2) ∧ I (i + 1) δ2) : ∃ δ', forM T body ds δ = some (.ok .next δ') ∧ I ds.length δ' := by
  obtain ⟨δ', e, h'⟩ := forM_inv (T := T) (body := body) I ds 0 δ h (fun i d δ hi hI => by simpa using st i d δ hi (by simpa using hI))
  exact ⟨δ', e, by simpa using h'⟩
/-- a comprehension without a condition -/
theorem compGo_inv {vs : List Nat} {T : Tg} {te : M D} (I : Nat → List D → Dl → Prop) : ∀ (ds : List D) (k : Nat) (acc : List D) (δ : Dl), I k acc δ → (acc.length + ds.length ≤ sizeLine) → (∀ i d acc δ, ds[i]? = some d → I (k + i) acc δ → ∃ y δ2, itM T d te δ = some (.ok y δ2) ∧ I (k + i + 1) (acc ++ [y]) (wipeD δ2 vs)) → ∃ out δ', compGo vs T (retM true) te ds acc δ = some (.ok out δ') ∧ out.length = acc.length + ds.length ∧ I (k + ds.length) out δ'
  | [], k, acc, δ, h, _, _ => ⟨acc, δ, rfl, rfl, h⟩
  | d :: ds, k, acc, δ, h, hl, st => by
    obtain ⟨y, δ2, e, h2⟩ := st 0 d acc δ rfl h
    rw [List.length_cons] at hl
    obtain ⟨out, δ', e', l', h'⟩ := compGo_inv (vs := vs) (T := T) (te := te) I ds (k + 1) (acc ++ [y]) (wipeD δ2 vs) h2 (by rw [List.length_append]; simp only [List.length_cons, List.length_nil]; omega) (fun i d acc δ hi hI => by
      have := st (i + 1) d acc δ (by simpa using hi) (by rw [show k + (i + 1) = k + 1 + i by omega]; exact hI)
      rw [show k + (i + 1) + 1 = k + 1 + i + 1 by omega] at this
      exact this)
    refine ⟨out, δ', ?_, by rw [l', List.length_append, List.length_cons]; simp only [List.length_cons, List.length_nil]; omega, by rw [List.length_cons, show k + (ds.length + 1) = k + 1 + ds.length by omega]; exact h'⟩
    unfold itM at e
    unfold compGo
    cases ea : asgT T d δ with
    | none => rw [ea] at e; cases e
    | some δ1 =>
      rw [ea] at e
      simp only at e ⊢
      unfold bindM retM
      simp only [if_true]
      rw [e]
      simp only
      rw [if_pos (by omega)]
      exact e'
theorem compM_inv {vs : List Nat} {T : Tg} {src : M (List D)} {te : M D} {δ δs : Dl} {ds : List D} (hs : src δ = some (.ok ds δs)) (hn : noOwn δs vs = true) (I : Nat → List D → Dl → Prop) (h : I 0 [] (wipeD δs vs)) (hl : ds.length ≤ sizeLine)
    (st : ∀ i d acc δ, ds[i]? = some d → I i acc δ → ∃ y δ2, itM T d te δ = some (.ok y δ2) ∧ I (i + 1) (acc ++ [y]) (wipeD δ2 vs)) : ∃ out δe, compM vs T src (retM true) te δ = some (.ok (.own out) (backD δs δe vs)) ∧ out.length = ds.length ∧ I ds.length out δe := by
  obtain ⟨out, δe, e, l, h'⟩ := compGo_inv (vs := vs) (T := T) (te := te) I ds 0 [] (wipeD δs vs) h (by simpa using hl) (fun i d acc δ hi hI => by simpa using st i d acc δ hi (by simpa using hI))
  refine ⟨out, δe, ?_, by simpa using l, by simpa using h'⟩
  unfold compM bindM
  rw [hs]
  simp only [hn, if_true, e]
theorem rngD_len (lo : Int) (n : Nat) : (rngD lo n).length = n := by simp [rngD]
theorem rngD_at {lo : Int} {n i : Nat} {d : D} (h : (rngD lo n)[i]? = some d) : d = .int (lo + i) ∧ i < n := by
  unfold rngD at h
  rw [List.getElem?_map] at h
  cases e : (List.range n)[i]? with
  | none => rw [e] at h; cases h
  | some j =>
    rw [e] at h
    have hj := List.getElem?_eq_some_iff.mp e
    obtain ⟨hl, hj⟩ := hj
    rw [List.getElem_range] at hj
    rw [List.length_range] at hl
    subst hj
    cases h
    exact ⟨rfl, hl⟩
/-! ### readings at a state -/
def thn {α β : Type} (r : Option (Rs α)) (f : α → M β) : Option (Rs β) := match r with
  | none => none
  | some (.err e δ) => some (.err e δ)
  | some (.ok a δ) => f a δ
section
variable {α β : Type} (δ : Dl)
theorem thn_ok (a : α) (f : α → M β) : thn (some (.ok a δ)) f = f a δ := id rfl
theorem thn_err (e : Ex) (f : α → M β) : thn (some (.err e δ)) f = some (.err e δ) := id rfl
theorem bindM_a (m : M α) (f : α → M β) : bindM m f δ = thn (m δ) f := id rfl
theorem retM_a (a : α) : retM a δ = some (.ok a δ) := id rfl
def seqK (b : M Fl) (fl : Fl) : M Fl := match fl with
  | .next => b
  | x => retM x
theorem seqK_n (b : M Fl) : seqK b .next δ = b δ := id rfl
theorem seqK_r (b : M Fl) (s : S) : seqK b (.ret s) δ = some (.ok (.ret s) δ) := id rfl
theorem seqK_b (b : M Fl) : seqK b .brk δ = some (.ok .brk δ) := id rfl
theorem seqK_c (b : M Fl) : seqK b .cont δ = some (.ok .cont δ) := id rfl
theorem seqM_a (a b : M Fl) : seqM a b δ = thn (a δ) (seqK b) := by
  unfold seqM bindM thn seqK; cases a δ with
  | none => rfl
  | some r => cases r with
    | err => rfl
    | ok fl => cases fl <;> rfl
theorem setS_a (i : Nat) (a : M R) : setS i a δ = thn (a δ) (putM i) := id rfl
theorem putM_d (i : Nat) (x : D) : putM i (.d x) δ = some (.ok .next (δ.set i (some (.d x)))) := id rfl
theorem putM_o (i : Nat) (xs : List D) : putM i (.own xs) δ = some (.ok .next (δ.set i (some (.own xs)))) := id rfl
theorem putM_s (i j : Nat) : putM i (.slot j) δ = (match δ[j]? with
    | some (some (.d x)) => some (.ok .next (δ.set i (some (.d x))))
    | some (some (.own xs)) => some (.ok .next ((δ.set j (some (.d (.lst xs)))).set i (some (.d (.lst xs)))))
    | some (some (.od ks xs)) => some (.ok .next ((δ.set j (some (.d (.dct ks xs)))).set i (some (.d (.dct ks xs)))))
    | _ => none) := id rfl
theorem putM_w (i : Nat) (ks : List Key) (xs : List D) : putM i (.od ks xs) δ = some (.ok .next (δ.set i (some (.od ks xs)))) := id rfl
theorem slotM_a (i : Nat) : slotM i δ = (match δ[i]? with
  | some (some (.mem _)) => none
  | some (some _) => some (.ok (.slot i) δ)
  | _ => none) := id rfl
def opdK (r : R) : M Op := match r with
  | .d x => retM (.d x)
  | .slot i => retM (.slot i)
  | .own xs => retM (.d (.lst xs))
  | .od ks xs => retM (.d (.dct ks xs))
theorem opdK_w (ks : List Key) (xs : List D) : opdK (.od ks xs) δ = some (.ok (.d (.dct ks xs)) δ) := id rfl
theorem opdM_a (m : M R) : opdM m δ = thn (m δ) opdK := id rfl
theorem opdK_d (x : D) : opdK (.d x) δ = some (.ok (.d x) δ) := id rfl
theorem opdK_s (i : Nat) : opdK (.slot i) δ = some (.ok (.slot i) δ) := id rfl
theorem opdK_o (xs : List D) : opdK (.own xs) δ = some (.ok (.d (.lst xs)) δ) := id rfl
def datK (r : R) : M D := match r with
  | .d x => retM x
  | .slot i => fun δ => match δ[i]? with
    | some (some (.d x)) => some (.ok x δ)
    | some (some (.own xs)) => some (.ok (.lst xs) (δ.set i (some (.d (.lst xs)))))
    | some (some (.od ks xs)) => some (.ok (.dct ks xs) (δ.set i (some (.d (.dct ks xs)))))
    | _ => none
  | .own xs => retM (.lst xs)
  | .od ks xs => retM (.dct ks xs)
theorem datK_w (ks : List Key) (xs : List D) : datK (.od ks xs) δ = some (.ok (.dct ks xs) δ) := id rfl
theorem datM_a (m : M R) : datM m δ = thn (m δ) datK := id rfl
theorem datK_d (x : D) : datK (.d x) δ = some (.ok x δ) := id rfl
theorem datK_s (i : Nat) : datK (.slot i) δ = (match δ[i]? with
    | some (some (.d x)) => some (.ok x δ)
    | some (some (.own xs)) => some (.ok (.lst xs) (δ.set i (some (.d (.lst xs)))))
    | some (some (.od ks xs)) => some (.ok (.dct ks xs) (δ.set i (some (.d (.dct ks xs)))))
    | _ => none) := id rfl
theorem datK_o (xs : List D) : datK (.own xs) δ = some (.ok (.lst xs) δ) := id rfl
def resK (r : R) : M S := match r with
  | .d x => retM (.d x)
  | .own xs => retM (.own xs)
  | .od ks xs => retM (.od ks xs)
  | .slot i => fun δ => match δ[i]? with
    | some (some (.d x)) => some (.ok (.d x) δ)
    | some (some (.own xs)) => some (.ok (.own xs) (δ.set i none))
    | some (some (.od ks xs)) => some (.ok (.od ks xs) (δ.set i none))
    | _ => none
theorem resM_a (m : M R) : resM m δ = thn (m δ) resK := id rfl
theorem resK_d (x : D) : resK (.d x) δ = some (.ok (.d x) δ) := id rfl
theorem resK_s (i : Nat) : resK (.slot i) δ = (match δ[i]? with
    | some (some (.d x)) => some (.ok (.d x) δ)
    | some (some (.own xs)) => some (.ok (.own xs) (δ.set i none))
    | some (some (.od ks xs)) => some (.ok (.od ks xs) (δ.set i none))
    | _ => none) := id rfl
theorem resK_w (ks : List Key) (xs : List D) : resK (.od ks xs) δ = some (.ok (.od ks xs) δ) := id rfl
theorem resK_o (xs : List D) : resK (.own xs) δ = some (.ok (.own xs) δ) := id rfl
theorem retS_a (m : M R) : retS m δ = thn (resM m δ) (fun s => retM (.ret s)) := id rfl
theorem argsM_n : argsM [] δ = some (.ok [] δ) := id rfl
theorem argsM_c (m : M R) (ms : List (M R)) : argsM (m :: ms) δ = thn (datM m δ) (fun x => bindM (argsM ms) fun xs => retM (x :: xs)) := id rfl
theorem opsM_n : opsM [] δ = some (.ok [] δ) := id rfl
theorem opsM_c (m : M R) (ms : List (M R)) : opsM (m :: ms) δ = thn (opdM m δ) (fun x => bindM (opsM ms) fun xs => retM (x :: xs)) := id rfl
theorem tupM_a (ms : List (M R)) : tupM ms δ = thn (argsM ms δ) (fun xs => retM (.d (.tup xs))) := id rfl
theorem lstM_a (ms : List (M R)) : lstM ms δ = thn (argsM ms δ) (fun xs => retM (.own xs)) := id rfl
theorem liftOp_a (r : Option S) : liftOp r δ = r.map fun s => .ok s.toR δ := id rfl
def app2 (f : D → D → Option S) (x y : Option D) : M R := match x, y with
  | some d, some e => liftOp (f d e)
  | _, _ => fun _ => none
theorem app2_s (f : D → D → Option S) (d e : D) : app2 f (some d) (some e) δ = (f d e).map fun s => .ok s.toR δ := id rfl
theorem op2_a (f : D → D → Option S) (ma mb : M R) : op2 f ma mb δ = thn (opdM ma δ) (fun x => bindM (opdM mb) fun y => fun δ => app2 f (x.val δ) (y.val δ) δ) := by
  unfold op2 bindM thn app2
  cases opdM ma δ with
  | none => rfl
  | some r => cases r with
    | err => rfl
    | ok x δ1 =>
      simp only
      cases opdM mb δ1 with
      | none => rfl
      | some r => cases r with
        | err => rfl
        | ok y δ2 =>
          simp only
          cases x.val δ2 <;> cases y.val δ2 <;> rfl
def app1 (f : D → Option S) (x : Option D) : M R := match x with
  | some d => liftOp (f d)
  | none => fun _ => none
theorem app1_s (f : D → Option S) (d : D) : app1 f (some d) δ = (f d).map fun s => .ok s.toR δ := id rfl
theorem op1_a (f : D → Option S) (ma : M R) : op1 f ma δ = thn (opdM ma δ) (fun x => fun δ => app1 f (x.val δ) δ) := by
  unfold op1 bindM thn app1
  cases opdM ma δ with
  | none => rfl
  | some r => cases r with
    | err => rfl
    | ok x δ1 =>
      simp only
      cases x.val δ1 <;> rfl
def appN (f : List D → Option S) (x : Option (List D)) : M R := match x with
  | some d => liftOp (f d)
  | none => fun _ => none
theorem appN_s (f : List D → Option S) (d : List D) : appN f (some d) δ = (f d).map fun s => .ok s.toR δ := id rfl
theorem opN_a (f : List D → Option S) (ms : List (M R)) : opN f ms δ = thn (opsM ms δ) (fun x => fun δ => appN f (vals δ x) δ) := by
  unfold opN bindM thn appN
  cases opsM ms δ with
  | none => rfl
  | some r => cases r with
    | err => rfl
    | ok x δ1 =>
      simp only
      cases vals δ1 x <;> rfl
def iteK {α : Type} (a b : M α) (x : Bool) : M α := if x then a else b
theorem iteK_t {α : Type} (a b : M α) : iteK a b true δ = a δ := id rfl
theorem iteK_f {α : Type} (a b : M α) : iteK a b false δ = b δ := id rfl
theorem ifS_a (c : M Bool) (a b : M Fl) : ifS c a b δ = thn (c δ) (iteK a b) := id rfl
theorem ifM_a (c : M Bool) (a b : M α) : ifM c a b δ = thn (c δ) (iteK a b) := id rfl
theorem optM_a (o : Option α) : optM o δ = o.map fun a => .ok a δ := id rfl
theorem blM_a (m : M R) : blM m δ = thn (m δ) (fun r => optM (isBl r)) := id rfl
theorem isBl_b (b : Bool) : isBl (.d (.bl b)) = some b := id rfl
def truK (x : Option Bool) : M Bool := match x with
  | some b => retM b
  | none => fun _ => none
theorem truK_s (b : Bool) : truK (some b) δ = some (.ok b δ) := id rfl
theorem truM_a (m : M R) : truM m δ = thn (opdM m δ) (fun o => fun δ => truK ((o.val δ).bind D.tru) δ) := by
  unfold truM bindM thn truK
  cases opdM m δ with
  | none => rfl
  | some r => cases r with
    | err => rfl
    | ok x δ1 =>
      simp only
      cases (x.val δ1).bind D.tru <;> rfl
theorem notM_a (a : M Bool) : notM a δ = thn (a δ) (fun x => retM (!x)) := id rfl
theorem andM_a (a b : M Bool) : andM a b δ = thn (a δ) (iteK b (retM false)) := id rfl
theorem orM_a (a b : M Bool) : orM a b δ = thn (a δ) (iteK (retM true) b) := id rfl
def andK (mb : M R) (r : R) (x : Option Bool) : M R := match x with
  | some true => mb
  | some false => fun δ => some (.ok r δ)
  | none => fun _ => none
theorem andK_t (mb : M R) (r : R) : andK mb r (some true) δ = mb δ := id rfl
theorem andK_f (mb : M R) (r : R) : andK mb r (some false) δ = some (.ok r δ) := id rfl
theorem andV_a (ma mb : M R) : andV ma mb δ = thn (opdM ma δ) (fun x => fun δ => andK mb x.toR ((x.val δ).bind D.tru) δ) := by
  unfold andV bindM thn andK
  cases opdM ma δ with
  | none => rfl
  | some r => cases r with
    | err => rfl
    | ok x δ1 =>
      simp only
      cases x.val δ1 with
      | none => rfl
      | some d => cases hd : d.tru with
        | none => simp [hd]
        | some b => cases b <;> simp [hd]
def orK (mb : M R) (r : R) (x : Option Bool) : M R := match x with
  | some false => mb
  | some true => fun δ => some (.ok r δ)
  | none => fun _ => none
theorem orK_f (mb : M R) (r : R) : orK mb r (some false) δ = mb δ := id rfl
theorem orK_t (mb : M R) (r : R) : orK mb r (some true) δ = some (.ok r δ) := id rfl
theorem orV_a (ma mb : M R) : orV ma mb δ = thn (opdM ma δ) (fun x => fun δ => orK mb x.toR ((x.val δ).bind D.tru) δ) := by
  unfold orV bindM thn orK
  cases opdM ma δ with
  | none => rfl
  | some r => cases r with
    | err => rfl
    | ok x δ1 =>
      simp only
      cases x.val δ1 with
      | none => rfl
      | some d => cases hd : d.tru with
        | none => simp [hd]
        | some b => cases b <;> simp [hd]
def notK (x : Option Bool) : M R := match x with
  | some b => retM (.d (.bl (!b)))
  | none => fun _ => none
theorem notK_s (b : Bool) : notK (some b) δ = some (.ok (.d (.bl (!b))) δ) := id rfl
theorem notV_a (m : M R) : notV m δ = thn (opdM m δ) (fun o => fun δ => notK ((o.val δ).bind D.tru) δ) := by
  unfold notV bindM thn notK
  cases opdM m δ with
  | none => rfl
  | some r => cases r with
    | err => rfl
    | ok x δ1 =>
      simp only
      cases (x.val δ1).bind D.tru <;> rfl
theorem cD_a (d : D) : cD d δ = some (.ok (.d d) δ) := id rfl
theorem dropM_a (m : M R) : dropM m δ = thn (m δ) (fun _ => retM .next) := id rfl
theorem agsM_n : agsM [] δ = some (.ok [] δ) := id rfl
theorem agsM_v (m : M R) (r : List Ag) : agsM (.val m :: r) δ = thn (datM m δ) (fun x => bindM (agsM r) fun xs => retM (.d x :: xs)) := id rfl
theorem agsM_r (j : Nat) (r : List Ag) : agsM (.rf j :: r) δ = thn (opdM (slotM j) δ) (fun x => bindM (agsM r) fun xs => retM (x :: xs)) := id rfl
theorem callG_a (mi : Nat) (fn : Fn) (sel : List Nat) (dd : List D) (as : List Ag) (kw : List (M R)) : callG mi fn sel dd as kw δ = thn (agsM as δ) (fun os => bindM (argsM kw) fun zs => callEnd mi fn (pick sel (os ++ zs.map Op.d ++ dd.map Op.d))) := id rfl
def callRet (mi : Nat) (os : List Op) (r : Option (Rs S)) : M R := fun δ => match r with
  | none => none
  | some (.ok s δo) => (callFin os mi δ δo).map fun δ' => .ok s.toR δ'
  | some (.err e δo) => (callFin os mi δ δo).map fun δ' => .err e δ'
theorem callRet_s (mi : Nat) (os : List Op) (s : S) (δo : Dl) : callRet mi os (some (.ok s δo)) δ = (callFin os mi δ δo).map fun δ' => .ok s.toR δ' := id rfl
def callK (mi : Nat) (fn : Fn) (os : List Op) (cs : Option (Option S)) (ss : Option (List S)) : M R := fun δ => match cs, ss with
  | some (some (.mem cs)), some ss => if ndp (slotsIn os) then callRet mi os (fn (ss ++ [.mem cs])) δ else none
  | _, _ => none
theorem callK_s (mi : Nat) (fn : Fn) (os : List Op) (cs : List (List D)) (ss : List S) : callK mi fn os (some (some (.mem cs))) (some ss) δ = if ndp (slotsIn os) then callRet mi os (fn (ss ++ [.mem cs])) δ else none := id rfl
theorem callEnd_a (mi : Nat) (fn : Fn) (os : List Op) : callEnd mi fn os δ = callK mi fn os δ[mi]? (ssOf δ os) δ := by
  unfold callEnd callK callRet
  cases δ[mi]? with
  | none => rfl
  | some q => cases q with
    | none => rfl
    | some s => cases s <;> first | rfl | (cases ssOf δ os <;> rfl)
theorem callFin_m (os : List Op) (mi : Nat) (δo : Dl) (cs : List (List D)) (h : δo[os.length]? = some (some (.mem cs))) : callFin os mi δ δo = some (putBack os δo (δ.set mi (some (.mem cs)))) := by
  unfold callFin; rw [h]
theorem setIx_a (j : Nat) (val ix : M R) : setIx j val ix δ = thn (datM val δ) (fun d => bindM (opdM (slotM j)) fun _ => bindM (opdM ix) fun k => fun δ => match δ[j]?, k.val δ with
  | some (some (.own xs)), some (.int i) => match ixN xs.length i with
    | some n => some (.ok .next (δ.set j (some (.own (xs.set n d)))))
    | none => none
  | _, _ => none) := id rfl
theorem ownM_a (j : Nat) : ownM j δ = (match δ[j]? with
  | some (some (.own _)) => some (.ok () δ)
  | _ => none) := id rfl
theorem meth_a (j : Nat) (f : List D → List D → Option (D × List D)) (ms : List (M R)) : meth j f ms δ = thn (opdM (slotM j) δ) (fun _ => bindM (ownM j) fun _ => bindM (argsM ms) fun ds => fun δ => match δ[j]? with
  | some (some (.own xs)) => match f xs ds with
    | some (d, ys) => some (.ok (.d d) (δ.set j (some (.own ys))))
    | none => none
  | _ => none) := id rfl
def nextK (o : Option Dl) : Option (Rs Fl) := match o with
  | some δ' => some (.ok .next δ')
  | none => none
theorem nextK_s : nextK (some δ) = some (.ok .next δ) := id rfl
def asgK (T : Tg) (d : D) : M Fl := fun δ => nextK (asgT T d δ)
theorem asgK_n (i : Nat) (d : D) : asgK (.nm i) d δ = some (.ok .next (δ.set i (some (.d d)))) := id rfl
theorem asgK_t (ts : List Tg) (xs : List D) : asgK (.tup ts) (.tup xs) δ = nextK (asgTs ts xs δ) := by unfold asgK; rw [asgT]
theorem asgM_a (T : Tg) (a : M R) : asgM T a δ = thn (datM a δ) (asgK T) := by
  unfold asgM bindM thn asgK nextK
  cases datM a δ with
  | none => rfl
  | some r => cases r with
    | err => rfl
    | ok d δ1 =>
      simp only
      cases asgT T d δ1 <;> rfl
theorem parM_a (is : List Nat) (ms : List (M R)) : parM is ms δ = thn (argsM ms δ) (fun ds => fun δ => if ds.length = is.length then some (.ok .next ((is.zip ds).foldl (fun δ p => δ.set p.1 (some (.d p.2))) δ)) else none) := id rfl
theorem partsM_n : partsM [] δ = some (.ok [] δ) := id rfl
theorem partsM_c (m : M R) (ms : List (M R)) : partsM (m :: ms) δ = thn (keepM m δ) (fun s => bindM (partsM ms) fun ss => retM (s :: ss)) := id rfl
def keepK (m : M R) (r : Option (Rs R)) : M S := fun δ => match r with
  | some (.ok (.own xs) δ') => some (.ok (.own xs) δ')
  | _ => bindM (datM m) (fun x => retM (S.d x)) δ
theorem keepM_a (m : M R) : keepM m δ = keepK m (m δ) δ := id rfl
theorem keepK_o (m : M R) (xs : List D) (δ' : Dl) : keepK m (some (.ok (.own xs) δ')) δ = some (.ok (.own xs) δ') := id rfl
theorem keepK_d (m : M R) (x : D) (δ' : Dl) : keepK m (some (.ok (.d x) δ')) δ = thn (datM m δ) (fun x => retM (S.d x)) := id rfl
theorem keepK_s (m : M R) (i : Nat) (δ' : Dl) : keepK m (some (.ok (.slot i) δ')) δ = thn (datM m δ) (fun x => retM (S.d x)) := id rfl
theorem keepK_w (m : M R) (ks : List Key) (xs : List D) (δ' : Dl) : keepK m (some (.ok (.od ks xs) δ')) δ = thn (datM m δ) (fun x => retM (S.d x)) := id rfl
theorem parS_a (is : List Nat) (ms : List (M R)) : parS is ms δ = thn (partsM ms δ) (fun ss => fun δ => if ss.length = is.length then some (.ok .next (setAll is ss δ)) else none) := id rfl
theorem setAll_c (i : Nat) (is : List Nat) (s : S) (ss : List S) : setAll (i :: is) (s :: ss) δ = setAll is ss (δ.set i (some s)) := id rfl
theorem setAll_n (ss : List S) : setAll [] ss δ = δ := by cases ss <;> rfl
theorem forS_a (T : Tg) (src : M (List D)) (body : M Fl) : forS T src body δ = thn (src δ) (fun ds => forM T body ds) := id rfl
def rngK (ds : List D) : M (List D) := fun δ => match ds with
  | [.int n] => if -(2 ^ 62) ≤ n ∧ n < 2 ^ 62 then some (.ok (rngD 0 n.toNat) δ) else none
  | _ => none
theorem rngM_a (a : M R) : rngM a δ = thn (argsM [a] δ) rngK := id rfl
theorem rngK_n (n : Int) (m : Nat) (h : n = m) (hm : m < 1000000) : rngK [.int n] δ = some (.ok (rngD 0 m) δ) := by
  subst h
  unfold rngK
  simp only
  rw [if_pos ⟨by omega, by omega⟩]
  rfl
theorem enumM_a (a : M R) : enumM a δ = thn (argsM [a] δ) (fun ds => fun δ => match ds with
  | [d] => d.seqL.map fun xs => .ok (enumD xs) δ
  | _ => none) := id rfl
def zipK (ds : List D) : M (List D) := fun δ => match ds with
  | [.tup xs, .tup ys] => some (.ok (zipD xs ys) δ)
  | [d, e] => match d.seqL, e.seqL with
    | some xs, some ys => some (.ok (zipD xs ys) δ)
    | _, _ => none
  | _ => none
theorem zipK_tt (xs ys : List D) : zipK [.tup xs, .tup ys] δ = some (.ok (zipD xs ys) δ) := id rfl
theorem zipK_ll (xs ys : List D) : zipK [.lst xs, .lst ys] δ = some (.ok (zipD xs ys) δ) := id rfl
theorem zipM_a (a b : M R) : zipM a b δ = thn (argsM [a, b] δ) zipK := id rfl
theorem zipM_x (a b : M R) : zipM a b δ = thn (argsM [a, b] δ) (fun ds => fun δ => match ds with
  | [.tup xs, .tup ys] => some (.ok (zipD xs ys) δ)
  | [d, e] => match d.seqL, e.seqL with
    | some xs, some ys => some (.ok (zipD xs ys) δ)
    | _, _ => none
  | _ => none) := id rfl
theorem srcM_a (a : M R) : srcM a δ = thn (datM a δ) (fun d => optM (srcD d)) := id rfl
theorem slM_a (ma : M R) (lo hi : Option (M R)) (f : D → Option Int → Option Int → Option S) : slM ma lo hi f δ = thn (opdM ma δ) (fun x => bindM (partM lo) fun l => bindM (partM hi) fun h => fun δ => match x.val δ with
  | some d => liftOp (f d l h) δ
  | none => none) := id rfl
theorem partM_n : partM none δ = some (.ok none δ) := id rfl
theorem partM_s (m : M R) : partM (some m) δ = thn (opdM m δ) (fun x => fun δ => match x.val δ with
    | some (.int i) => some (.ok (some i) δ)
    | _ => none) := id rfl
theorem itM_a {α : Type} (T : Tg) (d : D) (body : M α) : itM T d body δ = (match asgT T d δ with
  | none => none
  | some δ1 => body δ1) := id rfl
def bodyK (as : List S) (k : Nat) (r : Option (Rs Fl)) : Option (Rs S) := match r with
  | some (.ok (.ret s) δ) => (bodyEnd as k δ).map fun o => .ok s o
  | some (.ok .next δ) => (bodyEnd as k δ).map fun o => .ok (.d .non) o
  | some (.err e δ) => (bodyEnd as k δ).map fun o => .err e o
  | _ => none
theorem bodyK_r (as : List S) (k : Nat) (s : S) : bodyK as k (some (.ok (.ret s) δ)) = (bodyEnd as k δ).map fun o => .ok s o := id rfl
theorem bodyK_n (as : List S) (k : Nat) : bodyK as k (some (.ok .next δ)) = (bodyEnd as k δ).map fun o => .ok (.d .non) o := id rfl
def bodyGo (n k : Nat) (L : List Nat) (m : M Fl) (ss : List S) (c : Option S) : Option (Rs S) := match c with
  | some (.mem cs) => if ss.length = n + 1 ∧ lentIs L 0 (ss.take n) = true then bodyK (ss.take n) k (m ((ss.take n).map some ++ List.replicate k none ++ [some (.mem cs)])) else none
  | _ => none
theorem bodyGo_m (n k : Nat) (L : List Nat) (m : M Fl) (ss : List S) (cs : List (List D)) : bodyGo n k L m ss (some (.mem cs)) = if ss.length = n + 1 ∧ lentIs L 0 (ss.take n) = true then bodyK (ss.take n) k (m ((ss.take n).map some ++ List.replicate k none ++ [some (.mem cs)])) else none := id rfl
theorem bodyFn_a (n k : Nat) (L : List Nat) (m : M Fl) (ss : List S) : bodyFn n k L m ss = bodyGo n k L m ss ss[n]? := by
  unfold bodyFn bodyGo bodyK
  cases ss[n]? with
  | none => rfl
  | some s => cases s <;> rfl
def ixK (mi : Nat) (x y : Option D) : M R := fun δ => match x, y with
  | some (.loc n), some (.int i) => match δ[mi]? with
    | some (some (.mem cs)) => match cs[n]? with
      | some xs => (atI xs i).map fun d => .ok (.d d) δ
      | none => none
    | _ => none
  | some d, some e => liftOp (ixD d e) δ
  | _, _ => none
theorem ixM_a (mi : Nat) (ma mb : M R) : ixM mi ma mb δ = thn (opdM ma δ) (fun x => bindM (opdM mb) fun y => fun δ => ixK mi (x.val δ) (y.val δ) δ) := id rfl
theorem ixK_t (mi : Nat) (xs : List D) (e : D) : ixK mi (some (.tup xs)) (some e) δ = liftOp (ixD (.tup xs) e) δ := by unfold ixK; cases e <;> rfl
theorem ixK_l (mi : Nat) (xs : List D) (e : D) : ixK mi (some (.lst xs)) (some e) δ = liftOp (ixD (.lst xs) e) δ := by unfold ixK; cases e <;> rfl
theorem ixK_c (mi : Nat) (xs : List D) (e : D) : ixK mi (some (.scr xs)) (some e) δ = liftOp (ixD (.scr xs) e) δ := by unfold ixK; cases e <;> rfl
theorem ixK_s (mi : Nat) (x : Str) (e : D) : ixK mi (some (.str x)) (some e) δ = liftOp (ixD (.str x) e) δ := by unfold ixK; cases e <;> rfl
theorem ixK_w (mi : Nat) (ks : List Key) (xs : List D) (e : D) : ixK mi (some (.dct ks xs)) (some e) δ = liftOp (ixD (.dct ks xs) e) δ := by unfold ixK; cases e <;> rfl
theorem ixK_m (mi n : Nat) (i : Int) : ixK mi (some (.loc n)) (some (.int i)) δ = (match δ[mi]? with
    | some (some (.mem cs)) => match cs[n]? with
      | some xs => (atI xs i).map fun d => .ok (.d d) δ
      | none => none
    | _ => none) := id rfl
theorem dispM_a (ks : List Str) (ms : List (M D)) : dispM ks ms δ = thn (dispM.seqD ms δ) (fun xs => retM (.od (ks.map Sum.inr) xs)) := id rfl
theorem seqD_n : dispM.seqD [] δ = some (.ok [] δ) := id rfl
theorem seqD_c (m : M D) (ms : List (M D)) : dispM.seqD (m :: ms) δ = thn (m δ) (fun x => bindM (dispM.seqD ms) fun xs => retM (x :: xs)) := id rfl
theorem setCell_a (mi : Nat) (val mo ix : M R) : setCell mi val mo ix δ = thn (datM val δ) (fun d => bindM (opdM mo) fun x => bindM (opdM ix) fun k => fun δ => match x.val δ, k.val δ, δ[mi]? with
  | some (.loc n), some (.int i), some (some (.mem cs)) => match cs[n]? with
    | some xs => (ixN xs.length i).map fun j => .ok .next (δ.set mi (some (.mem (cs.set n (xs.set j d)))))
    | none => none
  | _, _, _ => none) := id rfl
theorem setIxS_a (j : Nat) (val ix : M R) : setIxS j val ix δ = thn (datM val δ) (fun d => bindM (opdM (slotM j)) fun _ => bindM (opdM ix) fun k => fun δ => match δ[j]?, k.val δ with
  | some (some s), some kd => (putAtS s kd d).map fun t => .ok .next (δ.set j (some t))
  | _, _ => none) := id rfl
theorem putAtS_o (xs : List D) (i : Int) (d : D) : putAtS (.own xs) (.int i) d = (ixN xs.length i).map fun n => .own (xs.set n d) := id rfl
def chK (f f' : D → D → Option S) (mc : M R) (y : Op) (r : Option S) : M R := fun δ => match r with
  | some (.d (.bl true)) => bindM (opdM mc) (fun z => fun δ => app2 f' (y.val δ) (z.val δ) δ) δ
  | some (.d (.bl false)) => some (.ok (.d (.bl false)) δ)
  | _ => none
theorem chK_t (f f' : D → D → Option S) (mc : M R) (y : Op) : chK f f' mc y (some (.d (.bl true))) δ = thn (opdM mc δ) (fun z => fun δ => app2 f' (y.val δ) (z.val δ) δ) := id rfl
theorem chK_f (f f' : D → D → Option S) (mc : M R) (y : Op) : chK f f' mc y (some (.d (.bl false))) δ = some (.ok (.d (.bl false)) δ) := id rfl
def chG (f f' : D → D → Option S) (mc : M R) (y : Op) (a b : Option D) : M R := fun δ => match a, b with
  | some d, some e => chK f f' mc y (f d e) δ
  | _, _ => none
theorem chG_s (f f' : D → D → Option S) (mc : M R) (y : Op) (d e : D) : chG f f' mc y (some d) (some e) δ = chK f f' mc y (f d e) δ := id rfl
theorem chainM_a (f f' : D → D → Option S) (ma mb mc : M R) : chainM f f' ma mb mc δ = thn (opdM ma δ) (fun x => bindM (opdM mb) fun y => fun δ => chG f f' mc y (x.val δ) (y.val δ) δ) := by
  unfold chainM bindM thn
  cases opdM ma δ with
  | none => rfl
  | some r => cases r with
    | err => rfl
    | ok x δ1 =>
      simp only
      cases opdM mb δ1 with
      | none => rfl
      | some r => cases r with
        | err => rfl
        | ok y δ2 =>
          simp only [chG]
          cases x.val δ2 with
          | none => rfl
          | some d => cases y.val δ2 with
            | none => rfl
            | some e =>
              simp only [chK, bindM, app2]
              cases f d e with
              | none => rfl
              | some s => cases s with
                | d z => cases z with
                  | bl b => cases b with
                    | false => rfl
                    | true =>
                      simp only
                      cases opdM mc δ2 with
                      | none => rfl
                      | some r => cases r with
                        | err => rfl
                        | ok z δ3 =>
                          simp only
                          cases y.val δ3 <;> cases z.val δ3 <;> rfl
                  | _ => rfl
                | _ => rfl
theorem subD_i (i j : Int) : subD (.int i) (.int j) = some (.d (.int (i - j))) := id rfl
theorem mulD_i (i j : Int) : mulD (.int i) (.int j) = if mulC i j then some (.d (.int (i * j))) else none := id rfl
theorem fdivD_i (i j : Int) : fdivD (.int i) (.int j) = if fdivC i j then some (.d (.int (i / j))) else none := id rfl
theorem modD_i (i j : Int) : modD (.int i) (.int j) = if 0 < j then some (.d (.int (i % j))) else none := by
  show (if decide (0 < j) = true then _ else _) = _
  by_cases h : 0 < j
  · rw [if_pos h, if_pos (decide_eq_true h)]
  · rw [if_neg h, if_neg (by simpa using h)]
theorem powD_i (i j : Int) : powD (.int i) (.int j) = if powC i j then some (.d (.int (i ^ j.toNat))) else none := id rfl
theorem shrD_i (i j : Int) : shrD (.int i) (.int j) = if 0 ≤ j then some (.d (.int (i / 2 ^ j.toNat))) else none := by
  show (if decide (0 ≤ j) = true then _ else _) = _
  by_cases h : 0 ≤ j
  · rw [if_pos h, if_pos (decide_eq_true h)]
  · rw [if_neg h, if_neg (by simpa using h)]
theorem andD_i (i j : Int) : andD (.int i) (.int j) = some (.d (.int (Builtin.bitAnd i j))) := id rfl
end
end Ev

set_option Elab.async false
set_option linter.all false
set_option maxRecDepth 100000
namespace Ev
open PySem PySem.Spec PyProof.Rows L2
theorem isi_non_dict  : isi1D "dict" (.non) = some (.d (.bl false)) := id rfl
theorem isi_non_list  : isi1D "list" (.non) = some (.d (.bl false)) := id rfl
theorem isi_non_tuple  : isi1D "tuple" (.non) = some (.d (.bl false)) := id rfl
theorem isi_non_bool  : isi1D "bool" (.non) = some (.d (.bl false)) := id rfl
theorem isi_non_str  : isi1D "str" (.non) = some (.d (.bl false)) := id rfl
theorem isi_non_int  : isi1D "int" (.non) = some (.d (.bl false)) := id rfl
theorem isi_non_lt  : isiD ["list", "tuple"] (.non) = some (.d (.bl false)) := id rfl
theorem is_non_non  : isD (.non) .non = some (.d (.bl true)) := id rfl
theorem isi_int_dict (i : Int) : isi1D "dict" (.int i) = some (.d (.bl false)) := id rfl
theorem isi_int_list (i : Int) : isi1D "list" (.int i) = some (.d (.bl false)) := id rfl
theorem isi_int_tuple (i : Int) : isi1D "tuple" (.int i) = some (.d (.bl false)) := id rfl
theorem isi_int_bool (i : Int) : isi1D "bool" (.int i) = some (.d (.bl false)) := id rfl
theorem isi_int_str (i : Int) : isi1D "str" (.int i) = some (.d (.bl false)) := id rfl
theorem isi_int_int (i : Int) : isi1D "int" (.int i) = some (.d (.bl true)) := id rfl
theorem isi_int_lt (i : Int) : isiD ["list", "tuple"] (.int i) = some (.d (.bl false)) := id rfl
theorem is_int_non (i : Int) : isD (.int i) .non = some (.d (.bl false)) := id rfl
theorem isi_bl_dict (i : Bool) : isi1D "dict" (.bl i) = some (.d (.bl false)) := id rfl
theorem isi_bl_list (i : Bool) : isi1D "list" (.bl i) = some (.d (.bl false)) := id rfl
theorem isi_bl_tuple (i : Bool) : isi1D "tuple" (.bl i) = some (.d (.bl false)) := id rfl
theorem isi_bl_bool (i : Bool) : isi1D "bool" (.bl i) = some (.d (.bl true)) := id rfl
theorem isi_bl_str (i : Bool) : isi1D "str" (.bl i) = some (.d (.bl false)) := id rfl
theorem isi_bl_int (i : Bool) : isi1D "int" (.bl i) = some (.d (.bl true)) := id rfl
theorem isi_bl_lt (i : Bool) : isiD ["list", "tuple"] (.bl i) = some (.d (.bl false)) := id rfl
theorem is_bl_non (i : Bool) : isD (.bl i) .non = some (.d (.bl false)) := id rfl
theorem isi_str_dict (i : Str) : isi1D "dict" (.str i) = some (.d (.bl false)) := id rfl
theorem isi_str_list (i : Str) : isi1D "list" (.str i) = some (.d (.bl false)) := id rfl
theorem isi_str_tuple (i : Str) : isi1D "tuple" (.str i) = some (.d (.bl false)) := id rfl
theorem isi_str_bool (i : Str) : isi1D "bool" (.str i) = some (.d (.bl false)) := id rfl
theorem isi_str_str (i : Str) : isi1D "str" (.str i) = some (.d (.bl true)) := id rfl
theorem isi_str_int (i : Str) : isi1D "int" (.str i) = some (.d (.bl false)) := id rfl
theorem isi_str_lt (i : Str) : isiD ["list", "tuple"] (.str i) = some (.d (.bl false)) := id rfl
theorem is_str_non (i : Str) : isD (.str i) .non = some (.d (.bl false)) := id rfl
theorem isi_tup_dict (i : List D) : isi1D "dict" (.tup i) = some (.d (.bl false)) := id rfl
theorem isi_tup_list (i : List D) : isi1D "list" (.tup i) = some (.d (.bl false)) := id rfl
theorem isi_tup_tuple (i : List D) : isi1D "tuple" (.tup i) = some (.d (.bl true)) := id rfl
theorem isi_tup_bool (i : List D) : isi1D "bool" (.tup i) = some (.d (.bl false)) := id rfl
theorem isi_tup_str (i : List D) : isi1D "str" (.tup i) = some (.d (.bl false)) := id rfl
theorem isi_tup_int (i : List D) : isi1D "int" (.tup i) = some (.d (.bl false)) := id rfl
theorem isi_tup_lt (i : List D) : isiD ["list", "tuple"] (.tup i) = some (.d (.bl true)) := id rfl
theorem is_tup_non (i : List D) : isD (.tup i) .non = some (.d (.bl false)) := id rfl
theorem isi_lst_dict (i : List D) : isi1D "dict" (.lst i) = some (.d (.bl false)) := id rfl
theorem isi_lst_list (i : List D) : isi1D "list" (.lst i) = some (.d (.bl true)) := id rfl
theorem isi_lst_tuple (i : List D) : isi1D "tuple" (.lst i) = some (.d (.bl false)) := id rfl
theorem isi_lst_bool (i : List D) : isi1D "bool" (.lst i) = some (.d (.bl false)) := id rfl
theorem isi_lst_str (i : List D) : isi1D "str" (.lst i) = some (.d (.bl false)) := id rfl
theorem isi_lst_int (i : List D) : isi1D "int" (.lst i) = some (.d (.bl false)) := id rfl
theorem isi_lst_lt (i : List D) : isiD ["list", "tuple"] (.lst i) = some (.d (.bl true)) := id rfl
theorem is_lst_non (i : List D) : isD (.lst i) .non = some (.d (.bl false)) := id rfl
theorem isi_scr_dict (i : List D) : isi1D "dict" (.scr i) = some (.d (.bl false)) := id rfl
theorem isi_scr_list (i : List D) : isi1D "list" (.scr i) = some (.d (.bl true)) := id rfl
theorem isi_scr_tuple (i : List D) : isi1D "tuple" (.scr i) = some (.d (.bl false)) := id rfl
theorem isi_scr_bool (i : List D) : isi1D "bool" (.scr i) = some (.d (.bl false)) := id rfl
theorem isi_scr_str (i : List D) : isi1D "str" (.scr i) = some (.d (.bl false)) := id rfl
theorem isi_scr_int (i : List D) : isi1D "int" (.scr i) = some (.d (.bl false)) := id rfl
theorem isi_scr_lt (i : List D) : isiD ["list", "tuple"] (.scr i) = some (.d (.bl true)) := id rfl
theorem is_scr_non (i : List D) : isD (.scr i) .non = some (.d (.bl false)) := id rfl
theorem eqD_bl (a b : Bool) : eqD (.bl a) (.bl b) = some (.d (.bl (a == b))) := by cases a <;> cases b <;> rfl
theorem neD_bl (a b : Bool) : neD (.bl a) (.bl b) = some (.d (.bl (a != b))) := by cases a <;> cases b <;> rfl
theorem eqD_int (a b : Int) : eqD (.int a) (.int b) = some (.d (.bl (a == b))) := by
  simp [eqD, eqvD, D.pd, SeqAt.shaped, PyData.canLay0, PyData.depth, PyData.eqv]
theorem eqD_int' (a b : Int) : eqD (.int a) (.int b) = some (.d (.bl (decide (a = b)))) := by
  have : (a == b) = decide (a = b) := by by_cases h : a = b <;> simp [h]
  rw [eqD_int, this]
theorem neD_int (a b : Int) : neD (.int a) (.int b) = some (.d (.bl (!decide (a = b)))) := by
  have : (a == b) = decide (a = b) := by by_cases h : a = b <;> simp [h]
  simp [neD, eqvD, D.pd, SeqAt.shaped, PyData.canLay0, PyData.depth, PyData.eqv, this]
theorem isD_ty (a b : String) : isD (.ty a) (.ty b) = some (.d (.bl (decide (a = b)))) := id rfl
theorem nisD_ty (a b : String) : nisD (.ty a) (.ty b) = some (.d (.bl (!decide (a = b)))) := id rfl
theorem tyn_non : D.tyn .non = some "NoneType" := id rfl
theorem tyn_bl (b : Bool) : D.tyn (.bl b) = some "bool" := id rfl
theorem tyn_int (i : Int) : D.tyn (.int i) = some "int" := id rfl
theorem tyn_str (x : Str) : D.tyn (.str x) = some "str" := id rfl
theorem tyn_tup (xs : List D) : D.tyn (.tup xs) = some "tuple" := id rfl
theorem tyn_lst (xs : List D) : D.tyn (.lst xs) = some "list" := id rfl
theorem typeF_a (d : D) : typeF [d] = d.tyn.map fun n => .d (.ty n) := id rfl
theorem sumLM_a (ms : List (M R)) (δ : Dl) : sumLM ms δ = thn (argsM ms δ) (fun ds => optM ((sumLs ds).map R.d)) := id rfl
theorem compM2_a (vs vs1 : List Nat) (T : Tg) (src : M (List D)) (tt : M Bool) (src1 : M (List D)) (T1 : Tg) (tt1 : M Bool) (te : M D) (δ : Dl) : compM2 vs vs1 T src tt src1 T1 tt1 te δ = thn (src δ) (fun ds => fun δ => if noOwn δ vs then match compGo2 vs vs1 T tt src1 T1 tt1 te ds [] (wipeD δ vs) with
    | some (.ok out δe) => some (.ok (.own out) (backD δ δe vs))
    | _ => none
  else none) := id rfl
theorem lsts_map : ∀ yss : List (List D), lsts (yss.map D.lst) = some yss
  | [] => rfl
  | a :: r => by rw [List.map_cons, lsts, lsts_map r]; rfl
theorem sumLs_a (yss : List (List D)) (ys : List D) (h : ys.length + yss.flatten.length ≤ sizeLine) : sumLs [.lst (yss.map D.lst), .lst ys] = some (.lst (ys ++ yss.flatten)) := by
  unfold sumLs
  simp only [lsts_map, Option.bind_some, h, if_true]
theorem enumTM_a (a : M R) (δ : Dl) : enumTM a δ = thn (argsM [a] δ) (fun ds => optM (enumL1 ds)) := id rfl
theorem enumL1_t (xs : List D) : enumL1 [.tup xs] = some (enumFD 0 xs) := id rfl
theorem enumL1_l (xs : List D) : enumL1 [.lst xs] = some (enumFD 0 xs) := id rfl
theorem enumFD_at {xs : List D} {i : Nat} {d : D} (h : (enumFD 0 xs)[i]? = some d) : ∃ e, xs[i]? = some e ∧ d = .tup [D.int i, e] := by
  unfold enumFD at h
  rw [List.getElem?_map] at h
  cases e : (List.range xs.length)[i]? with
  | none => rw [e] at h; cases h
  | some j =>
    rw [e] at h
    obtain ⟨hl, hj⟩ := List.getElem?_eq_some_iff.mp e
    rw [List.getElem_range] at hj
    rw [List.length_range] at hl
    subst hj
    cases h
    refine ⟨xs[i], List.getElem?_eq_getElem hl, ?_⟩
    show D.tup [D.int (0 + (i : Int)), xs.getD i D.non] = _
    rw [List.getD_eq_getElem?_getD, List.getElem?_eq_getElem hl, Int.zero_add]; rfl
theorem enumFD_len (k : Int) (xs : List D) : (enumFD k xs).length = xs.length := by unfold enumFD; simp
end Ev

set_option Elab.async false
set_option linter.all false
set_option maxRecDepth 10000
namespace Ev
open PySem PySem.Spec PyProof.Rows L2
/-! ### raise, try: readings at a state -/
section
variable {α β : Type} (δ : Dl)
theorem raiseM_a (e : Ex) : (raiseM e : M α) δ = some (.err e δ) := id rfl
theorem raisM_a (c : XcI) (m : M R) : raisM c m δ = thn (datM m δ) (fun d => raiseM ⟨c.x, [c.f], [d]⟩) := id rfl
theorem callRet_e (mi : Nat) (os : List Op) (e : Ex) (δo : Dl) : callRet mi os (some (.err e δo)) δ = (callFin os mi δ δo).map fun δ' => .err e δ' := id rfl
theorem bodyK_e (as : List S) (k : Nat) (e : Ex) : bodyK as k (some (.err e δ)) = (bodyEnd as k δ).map fun o => .err e o := id rfl
def tryE (e : Ex) (i : Nat) (su : List (Nat × SE)) (b : Option Bool) : Option (Rs Fl) := match b with
  | some true => (runX su e (δ.set i none)).map fun δ2 => .ok .next (δ2.set i none)
  | some false => some (.err e δ)
  | none => none
theorem tryE_t (e : Ex) (i : Nat) (su : List (Nat × SE)) : tryE δ e i su (some true) = (runX su e (δ.set i none)).map fun δ2 => .ok .next (δ2.set i none) := id rfl
theorem tryE_f (e : Ex) (i : Nat) (su : List (Nat × SE)) : tryE δ e i su (some false) = some (.err e δ) := id rfl
def tryK (tb : List (Str × Bool)) (i : Nat) (su : List (Nat × SE)) (r : Option (Rs Fl)) : Option (Rs Fl) := match r with
  | some (.err e δ1) => tryE δ1 e i su (tb.lookup e.c)
  | r => r
theorem tryK_o (tb : List (Str × Bool)) (i : Nat) (su : List (Nat × SE)) (fl : Fl) : tryK tb i su (some (.ok fl δ)) = some (.ok fl δ) := id rfl
theorem tryK_e (tb : List (Str × Bool)) (i : Nat) (su : List (Nat × SE)) (e : Ex) : tryK tb i su (some (.err e δ)) = tryE δ e i su (tb.lookup e.c) := id rfl
theorem tryM_a (mb : M Fl) (tb : List (Str × Bool)) (i : Nat) (su : List (Nat × SE)) : tryM mb tb i su δ = tryK tb i su (mb δ) := by
  unfold tryM tryK tryE
  cases mb δ with
  | none => rfl
  | some r => cases r with
    | ok => rfl
    | err e δ1 => rfl
theorem runX_n (e : Ex) : runX [] e δ = some δ := id rfl
theorem runX_c (j : Nat) (m : SE) (r : List (Nat × SE)) (e : Ex) : runX ((j, m) :: r) e δ = (m e δ).bind fun x => runX r e (δ.set j (some (.d x))) := id rfl
end
end Ev

set_option Elab.async false
set_option linter.all false
set_option maxRecDepth 10000
namespace Ev
open PySem PySem.Spec PyProof.Rows L2
/-! ### a call that lends, read at a state -/
section
variable (δ : Dl)
theorem callL_a (mi : Nat) (fn : Fn) (sel : List Nat) (dd : List D) (as : List Ag) (kw : List (M R)) : callL mi fn sel dd as kw δ = thn (agsM as δ) (fun os => bindM (argsM kw) fun zs => lendEnd mi fn (pick sel (os ++ zs.map Op.d ++ dd.map Op.d))) := id rfl
def lendRet2 (mi : Nat) (r : D) (cs : List (List D)) (o : Option (Option S)) : M R := fun δ => match o with
  | some (some (.mem cs')) => if r.flat = true ∧ flatCs cs' = true ∧ cs'.length = cs.length then some (.ok (.d r) (δ.set mi (some (.mem cs')))) else none
  | _ => none
theorem lendRet2_s (mi : Nat) (r : D) (cs cs' : List (List D)) : lendRet2 mi r cs (some (some (.mem cs'))) δ = if r.flat = true ∧ flatCs cs' = true ∧ cs'.length = cs.length then some (.ok (.d r) (δ.set mi (some (.mem cs')))) else none := id rfl
def lendRet (mi : Nat) (os : List Op) (cs : List (List D)) (r : Option (Rs S)) : M R := fun δ => match r with
  | some (.ok (.d r) δo) => lendRet2 mi r cs δo[os.length]? δ
  | _ => none
theorem lendRet_s (mi : Nat) (os : List Op) (cs : List (List D)) (r : D) (δo : Dl) : lendRet mi os cs (some (.ok (.d r) δo)) δ = lendRet2 mi r cs δo[os.length]? δ := id rfl
def lendK (mi : Nat) (fn : Fn) (os : List Op) (cs : Option (Option S)) (ds : Option (List D)) : M R := fun δ => match cs, ds with
  | some (some (.mem cs)), some ds => lendRet mi os cs (fn (ds.map S.d ++ [.mem cs])) δ
  | _, _ => none
theorem lendK_s (mi : Nat) (fn : Fn) (os : List Op) (cs : List (List D)) (ds : List D) : lendK mi fn os (some (some (.mem cs))) (some ds) δ = lendRet mi os cs (fn (ds.map S.d ++ [.mem cs])) δ := id rfl
theorem lendEnd_a (mi : Nat) (fn : Fn) (os : List Op) : lendEnd mi fn os δ = lendK mi fn os δ[mi]? (vals δ os) δ := by
  unfold lendEnd lendK
  cases δ[mi]? with
  | none => rfl
  | some q =>
    cases q with
    | none => rfl
    | some q =>
      cases q with
      | mem cs =>
        cases vals δ os with
        | none => rfl
        | some ds =>
          simp only
          unfold lendRet
          cases fn (ds.map S.d ++ [.mem cs]) with
          | none => rfl
          | some r => cases r with
            | err => rfl
            | ok s δo => cases s with
              | d x =>
                simp only
                unfold lendRet2
                cases δo[os.length]? with
                | none => rfl
                | some q => cases q with
                  | none => rfl
                  | some q => cases q <;> rfl
              | _ => rfl
      | _ => rfl
end
end Ev

set_option Elab.async false
set_option linter.all false
set_option maxRecDepth 100000
namespace Ev
open PySem PySem.Spec PyProof.Rows L2
def lessD := ltD (fun i j => decide (i < j)) fun i j => decide (i.cps.toList < j.cps.toList)
def lesseqD := ltD (fun i j => decide (i ≤ j)) fun i j => !decide (j.cps.toList < i.cps.toList)
def moreD := ltD (fun i j => decide (j < i)) fun i j => decide (j.cps.toList < i.cps.toList)
def moreeqD := ltD (fun i j => decide (j ≤ i)) fun i j => !decide (i.cps.toList < j.cps.toList)
def topS (i : Nat) : Stmt := PySem.Challenge.pw_brookworks_k01_refusals_and_limits.main.body.getD i (.Pass ⟨0, 0, 0, 0⟩)
def k_WIDE : D := (.int 24)
def k_SIZE : D := (.int 8)
def k_MOST_WAYS : D := (.int 300)
def k_MOST_BOXES : D := (.int 120)
def k_KEYWORDS : D := (.tup [(.str "fixed"), (.str "sum"), (.str "less"), (.str "by"), (.str "pick"), (.str "late"), (.str "half"), (.str "twice"), (.str "most"), (.str "least"), (.str "over"), (.str "spring"), (.str "brook"), (.str "out"), (.str "beat")])
def k_FINE : D := (.int 6)
def k_FIGURES : D := (.int 8)
def x_BadText : XcI := ⟨"BadText", "text", "text", false⟩
def x_BadWord : XcI := ⟨"BadWord", "at", "at", false⟩
def x_BadRow : XcI := ⟨"BadRow", "row", "row", false⟩
def x_BadName : XcI := ⟨"BadName", "name", "name", false⟩
def x_BadTerm : XcI := ⟨"BadTerm", "thing", "thing", false⟩
def x_BadNumbers : XcI := ⟨"BadNumbers", "thing", "thing", false⟩
def x_BadDeed : XcI := ⟨"BadDeed", "number", "number", false⟩
def x_Clash : XcI := ⟨"Clash", "number", "number", false⟩
def x_Loose : XcI := ⟨"Loose", "place", "place", false⟩
def x_Round : XcI := ⟨"Round", "ring", "ring", false⟩
def x_NoBrook : XcI := ⟨"NoBrook", "name", "name", false⟩
def x_NoSpring : XcI := ⟨"NoSpring", "name", "name", false⟩
def x_NoName : XcI := ⟨"NoName", "name", "name", false⟩
def x_NoOut : XcI := ⟨"NoOut", "out", "out", false⟩
def x_NotGiven : XcI := ⟨"NotGiven", "name", "name", false⟩
def x_NoPath : XcI := ⟨"NoPath", "path", "path", false⟩
def x_Dry : XcI := ⟨"Dry", "name", "name", false⟩
def x_NotNow : XcI := ⟨"NotNow", "at", "at", false⟩
def x_Used : XcI := ⟨"Used", "other", "other", false⟩
def x_LastOut : XcI := ⟨"LastOut", "name", "name", false⟩
def x_IsOut : XcI := ⟨"IsOut", "name", "name", false⟩
def x_NotOut : XcI := ⟨"NotOut", "name", "name", false⟩
def x_Unsure : XcI := ⟨"Unsure", "node", "node", false⟩
def x_TooFar : XcI := ⟨"TooFar", "place", "place", false⟩
def x_TooFew : XcI := ⟨"TooFew", "need", "need", false⟩
def x_Small : XcI := ⟨"Small", "place", "place", false⟩
def x_TooMany : XcI := ⟨"TooMany", "most", "most", false⟩
def x_TooBig : XcI := ⟨"TooBig", "", "", true⟩
def tb_TooFew : List (Str × Bool) := [(("BadText" : Str), false), (("BadWord" : Str), false), (("BadRow" : Str), false), (("BadName" : Str), false), (("BadTerm" : Str), false), (("BadNumbers" : Str), false), (("BadDeed" : Str), false), (("Clash" : Str), false), (("Loose" : Str), false), (("Round" : Str), false), (("NoBrook" : Str), false), (("NoSpring" : Str), false), (("NoName" : Str), false), (("NoOut" : Str), false), (("NotGiven" : Str), false), (("NoPath" : Str), false), (("Dry" : Str), false), (("NotNow" : Str), false), (("Used" : Str), false), (("LastOut" : Str), false), (("IsOut" : Str), false), (("NotOut" : Str), false), (("Unsure" : Str), false), (("TooFar" : Str), false), (("TooFew" : Str), true), (("Small" : Str), false), (("TooMany" : Str), false), (("TooBig" : Str), false)]
def tb_Small : List (Str × Bool) := [(("BadText" : Str), false), (("BadWord" : Str), false), (("BadRow" : Str), false), (("BadName" : Str), false), (("BadTerm" : Str), false), (("BadNumbers" : Str), false), (("BadDeed" : Str), false), (("Clash" : Str), false), (("Loose" : Str), false), (("Round" : Str), false), (("NoBrook" : Str), false), (("NoSpring" : Str), false), (("NoName" : Str), false), (("NoOut" : Str), false), (("NotGiven" : Str), false), (("NoPath" : Str), false), (("Dry" : Str), false), (("NotNow" : Str), false), (("Used" : Str), false), (("LastOut" : Str), false), (("IsOut" : Str), false), (("NotOut" : Str), false), (("Unsure" : Str), false), (("TooFar" : Str), false), (("TooFew" : Str), false), (("Small" : Str), true), (("TooMany" : Str), false), (("TooBig" : Str), false)]
def tb_TooMany : List (Str × Bool) := [(("BadText" : Str), false), (("BadWord" : Str), false), (("BadRow" : Str), false), (("BadName" : Str), false), (("BadTerm" : Str), false), (("BadNumbers" : Str), false), (("BadDeed" : Str), false), (("Clash" : Str), false), (("Loose" : Str), false), (("Round" : Str), false), (("NoBrook" : Str), false), (("NoSpring" : Str), false), (("NoName" : Str), false), (("NoOut" : Str), false), (("NotGiven" : Str), false), (("NoPath" : Str), false), (("Dry" : Str), false), (("NotNow" : Str), false), (("Used" : Str), false), (("LastOut" : Str), false), (("IsOut" : Str), false), (("NotOut" : Str), false), (("Unsure" : Str), false), (("TooFar" : Str), false), (("TooFew" : Str), false), (("Small" : Str), false), (("TooMany" : Str), true), (("TooBig" : Str), false)]
def tb_TooBig : List (Str × Bool) := [(("BadText" : Str), false), (("BadWord" : Str), false), (("BadRow" : Str), false), (("BadName" : Str), false), (("BadTerm" : Str), false), (("BadNumbers" : Str), false), (("BadDeed" : Str), false), (("Clash" : Str), false), (("Loose" : Str), false), (("Round" : Str), false), (("NoBrook" : Str), false), (("NoSpring" : Str), false), (("NoName" : Str), false), (("NoOut" : Str), false), (("NotGiven" : Str), false), (("NoPath" : Str), false), (("Dry" : Str), false), (("NotNow" : Str), false), (("Used" : Str), false), (("LastOut" : Str), false), (("IsOut" : Str), false), (("NotOut" : Str), false), (("Unsure" : Str), false), (("TooFar" : Str), false), (("TooFew" : Str), false), (("Small" : Str), false), (("TooMany" : Str), false), (("TooBig" : Str), true)]
def tb_NotOut : List (Str × Bool) := [(("BadText" : Str), false), (("BadWord" : Str), false), (("BadRow" : Str), false), (("BadName" : Str), false), (("BadTerm" : Str), false), (("BadNumbers" : Str), false), (("BadDeed" : Str), false), (("Clash" : Str), false), (("Loose" : Str), false), (("Round" : Str), false), (("NoBrook" : Str), false), (("NoSpring" : Str), false), (("NoName" : Str), false), (("NoOut" : Str), false), (("NotGiven" : Str), false), (("NoPath" : Str), false), (("Dry" : Str), false), (("NotNow" : Str), false), (("Used" : Str), false), (("LastOut" : Str), false), (("IsOut" : Str), false), (("NotOut" : Str), true), (("Unsure" : Str), false), (("TooFar" : Str), false), (("TooFew" : Str), false), (("Small" : Str), false), (("TooMany" : Str), false), (("TooBig" : Str), false)]
def tb_Unsure : List (Str × Bool) := [(("BadText" : Str), false), (("BadWord" : Str), false), (("BadRow" : Str), false), (("BadName" : Str), false), (("BadTerm" : Str), false), (("BadNumbers" : Str), false), (("BadDeed" : Str), false), (("Clash" : Str), false), (("Loose" : Str), false), (("Round" : Str), false), (("NoBrook" : Str), false), (("NoSpring" : Str), false), (("NoName" : Str), false), (("NoOut" : Str), false), (("NotGiven" : Str), false), (("NoPath" : Str), false), (("Dry" : Str), false), (("NotNow" : Str), false), (("Used" : Str), false), (("LastOut" : Str), false), (("IsOut" : Str), false), (("NotOut" : Str), false), (("Unsure" : Str), true), (("TooFar" : Str), false), (("TooFew" : Str), false), (("Small" : Str), false), (("TooMany" : Str), false), (("TooBig" : Str), false)]
def tb_TooFar : List (Str × Bool) := [(("BadText" : Str), false), (("BadWord" : Str), false), (("BadRow" : Str), false), (("BadName" : Str), false), (("BadTerm" : Str), false), (("BadNumbers" : Str), false), (("BadDeed" : Str), false), (("Clash" : Str), false), (("Loose" : Str), false), (("Round" : Str), false), (("NoBrook" : Str), false), (("NoSpring" : Str), false), (("NoName" : Str), false), (("NoOut" : Str), false), (("NotGiven" : Str), false), (("NoPath" : Str), false), (("Dry" : Str), false), (("NotNow" : Str), false), (("Used" : Str), false), (("LastOut" : Str), false), (("IsOut" : Str), false), (("NotOut" : Str), false), (("Unsure" : Str), false), (("TooFar" : Str), true), (("TooFew" : Str), false), (("Small" : Str), false), (("TooMany" : Str), false), (("TooBig" : Str), false)]
def tb_NotNow : List (Str × Bool) := [(("BadText" : Str), false), (("BadWord" : Str), false), (("BadRow" : Str), false), (("BadName" : Str), false), (("BadTerm" : Str), false), (("BadNumbers" : Str), false), (("BadDeed" : Str), false), (("Clash" : Str), false), (("Loose" : Str), false), (("Round" : Str), false), (("NoBrook" : Str), false), (("NoSpring" : Str), false), (("NoName" : Str), false), (("NoOut" : Str), false), (("NotGiven" : Str), false), (("NoPath" : Str), false), (("Dry" : Str), false), (("NotNow" : Str), true), (("Used" : Str), false), (("LastOut" : Str), false), (("IsOut" : Str), false), (("NotOut" : Str), false), (("Unsure" : Str), false), (("TooFar" : Str), false), (("TooFew" : Str), false), (("Small" : Str), false), (("TooMany" : Str), false), (("TooBig" : Str), false)]
def tb_Used : List (Str × Bool) := [(("BadText" : Str), false), (("BadWord" : Str), false), (("BadRow" : Str), false), (("BadName" : Str), false), (("BadTerm" : Str), false), (("BadNumbers" : Str), false), (("BadDeed" : Str), false), (("Clash" : Str), false), (("Loose" : Str), false), (("Round" : Str), false), (("NoBrook" : Str), false), (("NoSpring" : Str), false), (("NoName" : Str), false), (("NoOut" : Str), false), (("NotGiven" : Str), false), (("NoPath" : Str), false), (("Dry" : Str), false), (("NotNow" : Str), false), (("Used" : Str), true), (("LastOut" : Str), false), (("IsOut" : Str), false), (("NotOut" : Str), false), (("Unsure" : Str), false), (("TooFar" : Str), false), (("TooFew" : Str), false), (("Small" : Str), false), (("TooMany" : Str), false), (("TooBig" : Str), false)]
def tb_LastOut : List (Str × Bool) := [(("BadText" : Str), false), (("BadWord" : Str), false), (("BadRow" : Str), false), (("BadName" : Str), false), (("BadTerm" : Str), false), (("BadNumbers" : Str), false), (("BadDeed" : Str), false), (("Clash" : Str), false), (("Loose" : Str), false), (("Round" : Str), false), (("NoBrook" : Str), false), (("NoSpring" : Str), false), (("NoName" : Str), false), (("NoOut" : Str), false), (("NotGiven" : Str), false), (("NoPath" : Str), false), (("Dry" : Str), false), (("NotNow" : Str), false), (("Used" : Str), false), (("LastOut" : Str), true), (("IsOut" : Str), false), (("NotOut" : Str), false), (("Unsure" : Str), false), (("TooFar" : Str), false), (("TooFew" : Str), false), (("Small" : Str), false), (("TooMany" : Str), false), (("TooBig" : Str), false)]
def tb_IsOut : List (Str × Bool) := [(("BadText" : Str), false), (("BadWord" : Str), false), (("BadRow" : Str), false), (("BadName" : Str), false), (("BadTerm" : Str), false), (("BadNumbers" : Str), false), (("BadDeed" : Str), false), (("Clash" : Str), false), (("Loose" : Str), false), (("Round" : Str), false), (("NoBrook" : Str), false), (("NoSpring" : Str), false), (("NoName" : Str), false), (("NoOut" : Str), false), (("NotGiven" : Str), false), (("NoPath" : Str), false), (("Dry" : Str), false), (("NotNow" : Str), false), (("Used" : Str), false), (("LastOut" : Str), false), (("IsOut" : Str), true), (("NotOut" : Str), false), (("Unsure" : Str), false), (("TooFar" : Str), false), (("TooFew" : Str), false), (("Small" : Str), false), (("TooMany" : Str), false), (("TooBig" : Str), false)]
def tb_NoOut : List (Str × Bool) := [(("BadText" : Str), false), (("BadWord" : Str), false), (("BadRow" : Str), false), (("BadName" : Str), false), (("BadTerm" : Str), false), (("BadNumbers" : Str), false), (("BadDeed" : Str), false), (("Clash" : Str), false), (("Loose" : Str), false), (("Round" : Str), false), (("NoBrook" : Str), false), (("NoSpring" : Str), false), (("NoName" : Str), false), (("NoOut" : Str), true), (("NotGiven" : Str), false), (("NoPath" : Str), false), (("Dry" : Str), false), (("NotNow" : Str), false), (("Used" : Str), false), (("LastOut" : Str), false), (("IsOut" : Str), false), (("NotOut" : Str), false), (("Unsure" : Str), false), (("TooFar" : Str), false), (("TooFew" : Str), false), (("Small" : Str), false), (("TooMany" : Str), false), (("TooBig" : Str), false)]
def tb_NotGiven : List (Str × Bool) := [(("BadText" : Str), false), (("BadWord" : Str), false), (("BadRow" : Str), false), (("BadName" : Str), false), (("BadTerm" : Str), false), (("BadNumbers" : Str), false), (("BadDeed" : Str), false), (("Clash" : Str), false), (("Loose" : Str), false), (("Round" : Str), false), (("NoBrook" : Str), false), (("NoSpring" : Str), false), (("NoName" : Str), false), (("NoOut" : Str), false), (("NotGiven" : Str), true), (("NoPath" : Str), false), (("Dry" : Str), false), (("NotNow" : Str), false), (("Used" : Str), false), (("LastOut" : Str), false), (("IsOut" : Str), false), (("NotOut" : Str), false), (("Unsure" : Str), false), (("TooFar" : Str), false), (("TooFew" : Str), false), (("Small" : Str), false), (("TooMany" : Str), false), (("TooBig" : Str), false)]
def tb_NoPath : List (Str × Bool) := [(("BadText" : Str), false), (("BadWord" : Str), false), (("BadRow" : Str), false), (("BadName" : Str), false), (("BadTerm" : Str), false), (("BadNumbers" : Str), false), (("BadDeed" : Str), false), (("Clash" : Str), false), (("Loose" : Str), false), (("Round" : Str), false), (("NoBrook" : Str), false), (("NoSpring" : Str), false), (("NoName" : Str), false), (("NoOut" : Str), false), (("NotGiven" : Str), false), (("NoPath" : Str), true), (("Dry" : Str), false), (("NotNow" : Str), false), (("Used" : Str), false), (("LastOut" : Str), false), (("IsOut" : Str), false), (("NotOut" : Str), false), (("Unsure" : Str), false), (("TooFar" : Str), false), (("TooFew" : Str), false), (("Small" : Str), false), (("TooMany" : Str), false), (("TooBig" : Str), false)]
def tb_Dry : List (Str × Bool) := [(("BadText" : Str), false), (("BadWord" : Str), false), (("BadRow" : Str), false), (("BadName" : Str), false), (("BadTerm" : Str), false), (("BadNumbers" : Str), false), (("BadDeed" : Str), false), (("Clash" : Str), false), (("Loose" : Str), false), (("Round" : Str), false), (("NoBrook" : Str), false), (("NoSpring" : Str), false), (("NoName" : Str), false), (("NoOut" : Str), false), (("NotGiven" : Str), false), (("NoPath" : Str), false), (("Dry" : Str), true), (("NotNow" : Str), false), (("Used" : Str), false), (("LastOut" : Str), false), (("IsOut" : Str), false), (("NotOut" : Str), false), (("Unsure" : Str), false), (("TooFar" : Str), false), (("TooFew" : Str), false), (("Small" : Str), false), (("TooMany" : Str), false), (("TooBig" : Str), false)]
def tb_NoBrook : List (Str × Bool) := [(("BadText" : Str), false), (("BadWord" : Str), false), (("BadRow" : Str), false), (("BadName" : Str), false), (("BadTerm" : Str), false), (("BadNumbers" : Str), false), (("BadDeed" : Str), false), (("Clash" : Str), false), (("Loose" : Str), false), (("Round" : Str), false), (("NoBrook" : Str), true), (("NoSpring" : Str), false), (("NoName" : Str), false), (("NoOut" : Str), false), (("NotGiven" : Str), false), (("NoPath" : Str), false), (("Dry" : Str), false), (("NotNow" : Str), false), (("Used" : Str), false), (("LastOut" : Str), false), (("IsOut" : Str), false), (("NotOut" : Str), false), (("Unsure" : Str), false), (("TooFar" : Str), false), (("TooFew" : Str), false), (("Small" : Str), false), (("TooMany" : Str), false), (("TooBig" : Str), false)]
def tb_NoSpring : List (Str × Bool) := [(("BadText" : Str), false), (("BadWord" : Str), false), (("BadRow" : Str), false), (("BadName" : Str), false), (("BadTerm" : Str), false), (("BadNumbers" : Str), false), (("BadDeed" : Str), false), (("Clash" : Str), false), (("Loose" : Str), false), (("Round" : Str), false), (("NoBrook" : Str), false), (("NoSpring" : Str), true), (("NoName" : Str), false), (("NoOut" : Str), false), (("NotGiven" : Str), false), (("NoPath" : Str), false), (("Dry" : Str), false), (("NotNow" : Str), false), (("Used" : Str), false), (("LastOut" : Str), false), (("IsOut" : Str), false), (("NotOut" : Str), false), (("Unsure" : Str), false), (("TooFar" : Str), false), (("TooFew" : Str), false), (("Small" : Str), false), (("TooMany" : Str), false), (("TooBig" : Str), false)]
def tb_NoName : List (Str × Bool) := [(("BadText" : Str), false), (("BadWord" : Str), false), (("BadRow" : Str), false), (("BadName" : Str), false), (("BadTerm" : Str), false), (("BadNumbers" : Str), false), (("BadDeed" : Str), false), (("Clash" : Str), false), (("Loose" : Str), false), (("Round" : Str), false), (("NoBrook" : Str), false), (("NoSpring" : Str), false), (("NoName" : Str), true), (("NoOut" : Str), false), (("NotGiven" : Str), false), (("NoPath" : Str), false), (("Dry" : Str), false), (("NotNow" : Str), false), (("Used" : Str), false), (("LastOut" : Str), false), (("IsOut" : Str), false), (("NotOut" : Str), false), (("Unsure" : Str), false), (("TooFar" : Str), false), (("TooFew" : Str), false), (("Small" : Str), false), (("TooMany" : Str), false), (("TooBig" : Str), false)]
def tb_Clash : List (Str × Bool) := [(("BadText" : Str), false), (("BadWord" : Str), false), (("BadRow" : Str), false), (("BadName" : Str), false), (("BadTerm" : Str), false), (("BadNumbers" : Str), false), (("BadDeed" : Str), false), (("Clash" : Str), true), (("Loose" : Str), false), (("Round" : Str), false), (("NoBrook" : Str), false), (("NoSpring" : Str), false), (("NoName" : Str), false), (("NoOut" : Str), false), (("NotGiven" : Str), false), (("NoPath" : Str), false), (("Dry" : Str), false), (("NotNow" : Str), false), (("Used" : Str), false), (("LastOut" : Str), false), (("IsOut" : Str), false), (("NotOut" : Str), false), (("Unsure" : Str), false), (("TooFar" : Str), false), (("TooFew" : Str), false), (("Small" : Str), false), (("TooMany" : Str), false), (("TooBig" : Str), false)]
def tb_Loose : List (Str × Bool) := [(("BadText" : Str), false), (("BadWord" : Str), false), (("BadRow" : Str), false), (("BadName" : Str), false), (("BadTerm" : Str), false), (("BadNumbers" : Str), false), (("BadDeed" : Str), false), (("Clash" : Str), false), (("Loose" : Str), true), (("Round" : Str), false), (("NoBrook" : Str), false), (("NoSpring" : Str), false), (("NoName" : Str), false), (("NoOut" : Str), false), (("NotGiven" : Str), false), (("NoPath" : Str), false), (("Dry" : Str), false), (("NotNow" : Str), false), (("Used" : Str), false), (("LastOut" : Str), false), (("IsOut" : Str), false), (("NotOut" : Str), false), (("Unsure" : Str), false), (("TooFar" : Str), false), (("TooFew" : Str), false), (("Small" : Str), false), (("TooMany" : Str), false), (("TooBig" : Str), false)]
def tb_Round : List (Str × Bool) := [(("BadText" : Str), false), (("BadWord" : Str), false), (("BadRow" : Str), false), (("BadName" : Str), false), (("BadTerm" : Str), false), (("BadNumbers" : Str), false), (("BadDeed" : Str), false), (("Clash" : Str), false), (("Loose" : Str), false), (("Round" : Str), true), (("NoBrook" : Str), false), (("NoSpring" : Str), false), (("NoName" : Str), false), (("NoOut" : Str), false), (("NotGiven" : Str), false), (("NoPath" : Str), false), (("Dry" : Str), false), (("NotNow" : Str), false), (("Used" : Str), false), (("LastOut" : Str), false), (("IsOut" : Str), false), (("NotOut" : Str), false), (("Unsure" : Str), false), (("TooFar" : Str), false), (("TooFew" : Str), false), (("Small" : Str), false), (("TooMany" : Str), false), (("TooBig" : Str), false)]
def tb_BadTerm : List (Str × Bool) := [(("BadText" : Str), false), (("BadWord" : Str), false), (("BadRow" : Str), false), (("BadName" : Str), false), (("BadTerm" : Str), true), (("BadNumbers" : Str), false), (("BadDeed" : Str), false), (("Clash" : Str), false), (("Loose" : Str), false), (("Round" : Str), false), (("NoBrook" : Str), false), (("NoSpring" : Str), false), (("NoName" : Str), false), (("NoOut" : Str), false), (("NotGiven" : Str), false), (("NoPath" : Str), false), (("Dry" : Str), false), (("NotNow" : Str), false), (("Used" : Str), false), (("LastOut" : Str), false), (("IsOut" : Str), false), (("NotOut" : Str), false), (("Unsure" : Str), false), (("TooFar" : Str), false), (("TooFew" : Str), false), (("Small" : Str), false), (("TooMany" : Str), false), (("TooBig" : Str), false)]
def tb_BadNumbers : List (Str × Bool) := [(("BadText" : Str), false), (("BadWord" : Str), false), (("BadRow" : Str), false), (("BadName" : Str), false), (("BadTerm" : Str), false), (("BadNumbers" : Str), true), (("BadDeed" : Str), false), (("Clash" : Str), false), (("Loose" : Str), false), (("Round" : Str), false), (("NoBrook" : Str), false), (("NoSpring" : Str), false), (("NoName" : Str), false), (("NoOut" : Str), false), (("NotGiven" : Str), false), (("NoPath" : Str), false), (("Dry" : Str), false), (("NotNow" : Str), false), (("Used" : Str), false), (("LastOut" : Str), false), (("IsOut" : Str), false), (("NotOut" : Str), false), (("Unsure" : Str), false), (("TooFar" : Str), false), (("TooFew" : Str), false), (("Small" : Str), false), (("TooMany" : Str), false), (("TooBig" : Str), false)]
def tb_BadDeed : List (Str × Bool) := [(("BadText" : Str), false), (("BadWord" : Str), false), (("BadRow" : Str), false), (("BadName" : Str), false), (("BadTerm" : Str), false), (("BadNumbers" : Str), false), (("BadDeed" : Str), true), (("Clash" : Str), false), (("Loose" : Str), false), (("Round" : Str), false), (("NoBrook" : Str), false), (("NoSpring" : Str), false), (("NoName" : Str), false), (("NoOut" : Str), false), (("NotGiven" : Str), false), (("NoPath" : Str), false), (("Dry" : Str), false), (("NotNow" : Str), false), (("Used" : Str), false), (("LastOut" : Str), false), (("IsOut" : Str), false), (("NotOut" : Str), false), (("Unsure" : Str), false), (("TooFar" : Str), false), (("TooFew" : Str), false), (("Small" : Str), false), (("TooMany" : Str), false), (("TooBig" : Str), false)]
def tb_BadText : List (Str × Bool) := [(("BadText" : Str), true), (("BadWord" : Str), false), (("BadRow" : Str), false), (("BadName" : Str), false), (("BadTerm" : Str), false), (("BadNumbers" : Str), false), (("BadDeed" : Str), false), (("Clash" : Str), false), (("Loose" : Str), false), (("Round" : Str), false), (("NoBrook" : Str), false), (("NoSpring" : Str), false), (("NoName" : Str), false), (("NoOut" : Str), false), (("NotGiven" : Str), false), (("NoPath" : Str), false), (("Dry" : Str), false), (("NotNow" : Str), false), (("Used" : Str), false), (("LastOut" : Str), false), (("IsOut" : Str), false), (("NotOut" : Str), false), (("Unsure" : Str), false), (("TooFar" : Str), false), (("TooFew" : Str), false), (("Small" : Str), false), (("TooMany" : Str), false), (("TooBig" : Str), false)]
def tb_BadWord : List (Str × Bool) := [(("BadText" : Str), false), (("BadWord" : Str), true), (("BadRow" : Str), false), (("BadName" : Str), false), (("BadTerm" : Str), false), (("BadNumbers" : Str), false), (("BadDeed" : Str), false), (("Clash" : Str), false), (("Loose" : Str), false), (("Round" : Str), false), (("NoBrook" : Str), false), (("NoSpring" : Str), false), (("NoName" : Str), false), (("NoOut" : Str), false), (("NotGiven" : Str), false), (("NoPath" : Str), false), (("Dry" : Str), false), (("NotNow" : Str), false), (("Used" : Str), false), (("LastOut" : Str), false), (("IsOut" : Str), false), (("NotOut" : Str), false), (("Unsure" : Str), false), (("TooFar" : Str), false), (("TooFew" : Str), false), (("Small" : Str), false), (("TooMany" : Str), false), (("TooBig" : Str), false)]
def tb_BadRow : List (Str × Bool) := [(("BadText" : Str), false), (("BadWord" : Str), false), (("BadRow" : Str), true), (("BadName" : Str), false), (("BadTerm" : Str), false), (("BadNumbers" : Str), false), (("BadDeed" : Str), false), (("Clash" : Str), false), (("Loose" : Str), false), (("Round" : Str), false), (("NoBrook" : Str), false), (("NoSpring" : Str), false), (("NoName" : Str), false), (("NoOut" : Str), false), (("NotGiven" : Str), false), (("NoPath" : Str), false), (("Dry" : Str), false), (("NotNow" : Str), false), (("Used" : Str), false), (("LastOut" : Str), false), (("IsOut" : Str), false), (("NotOut" : Str), false), (("Unsure" : Str), false), (("TooFar" : Str), false), (("TooFew" : Str), false), (("Small" : Str), false), (("TooMany" : Str), false), (("TooBig" : Str), false)]
def tb_BadName : List (Str × Bool) := [(("BadText" : Str), false), (("BadWord" : Str), false), (("BadRow" : Str), false), (("BadName" : Str), true), (("BadTerm" : Str), false), (("BadNumbers" : Str), false), (("BadDeed" : Str), false), (("Clash" : Str), false), (("Loose" : Str), false), (("Round" : Str), false), (("NoBrook" : Str), false), (("NoSpring" : Str), false), (("NoName" : Str), false), (("NoOut" : Str), false), (("NotGiven" : Str), false), (("NoPath" : Str), false), (("Dry" : Str), false), (("NotNow" : Str), false), (("Used" : Str), false), (("LastOut" : Str), false), (("IsOut" : Str), false), (("NotOut" : Str), false), (("Unsure" : Str), false), (("TooFar" : Str), false), (("TooFew" : Str), false), (("Small" : Str), false), (("TooMany" : Str), false), (("TooBig" : Str), false)]
def tb_OverflowError : List (Str × Bool) := [(("BadText" : Str), false), (("BadWord" : Str), false), (("BadRow" : Str), false), (("BadName" : Str), false), (("BadTerm" : Str), false), (("BadNumbers" : Str), false), (("BadDeed" : Str), false), (("Clash" : Str), false), (("Loose" : Str), false), (("Round" : Str), false), (("NoBrook" : Str), false), (("NoSpring" : Str), false), (("NoName" : Str), false), (("NoOut" : Str), false), (("NotGiven" : Str), false), (("NoPath" : Str), false), (("Dry" : Str), false), (("NotNow" : Str), false), (("Used" : Str), false), (("LastOut" : Str), false), (("IsOut" : Str), false), (("NotOut" : Str), false), (("Unsure" : Str), false), (("TooFar" : Str), true), (("TooFew" : Str), true), (("Small" : Str), true), (("TooMany" : Str), true), (("TooBig" : Str), true)]
def tb_TypeError : List (Str × Bool) := [(("BadText" : Str), false), (("BadWord" : Str), false), (("BadRow" : Str), false), (("BadName" : Str), false), (("BadTerm" : Str), false), (("BadNumbers" : Str), false), (("BadDeed" : Str), false), (("Clash" : Str), false), (("Loose" : Str), false), (("Round" : Str), false), (("NoBrook" : Str), false), (("NoSpring" : Str), false), (("NoName" : Str), false), (("NoOut" : Str), false), (("NotGiven" : Str), false), (("NoPath" : Str), false), (("Dry" : Str), false), (("NotNow" : Str), false), (("Used" : Str), false), (("LastOut" : Str), false), (("IsOut" : Str), false), (("NotOut" : Str), false), (("Unsure" : Str), false), (("TooFar" : Str), false), (("TooFew" : Str), false), (("Small" : Str), false), (("TooMany" : Str), false), (("TooBig" : Str), false)]
def tb_IndexError : List (Str × Bool) := [(("BadText" : Str), false), (("BadWord" : Str), false), (("BadRow" : Str), false), (("BadName" : Str), false), (("BadTerm" : Str), false), (("BadNumbers" : Str), false), (("BadDeed" : Str), false), (("Clash" : Str), false), (("Loose" : Str), false), (("Round" : Str), false), (("NoBrook" : Str), false), (("NoSpring" : Str), false), (("NoName" : Str), false), (("NoOut" : Str), false), (("NotGiven" : Str), false), (("NoPath" : Str), false), (("Dry" : Str), false), (("NotNow" : Str), false), (("Used" : Str), false), (("LastOut" : Str), false), (("IsOut" : Str), false), (("NotOut" : Str), false), (("Unsure" : Str), false), (("TooFar" : Str), false), (("TooFew" : Str), false), (("Small" : Str), false), (("TooMany" : Str), false), (("TooBig" : Str), false)]
def tb_RuntimeError : List (Str × Bool) := [(("BadText" : Str), false), (("BadWord" : Str), false), (("BadRow" : Str), false), (("BadName" : Str), false), (("BadTerm" : Str), false), (("BadNumbers" : Str), false), (("BadDeed" : Str), false), (("Clash" : Str), false), (("Loose" : Str), false), (("Round" : Str), false), (("NoBrook" : Str), false), (("NoSpring" : Str), false), (("NoName" : Str), false), (("NoOut" : Str), false), (("NotGiven" : Str), false), (("NoPath" : Str), false), (("Dry" : Str), false), (("NotNow" : Str), true), (("Used" : Str), true), (("LastOut" : Str), true), (("IsOut" : Str), true), (("NotOut" : Str), true), (("Unsure" : Str), true), (("TooFar" : Str), false), (("TooFew" : Str), false), (("Small" : Str), false), (("TooMany" : Str), false), (("TooBig" : Str), false)]
def tb_ArithmeticError : List (Str × Bool) := [(("BadText" : Str), false), (("BadWord" : Str), false), (("BadRow" : Str), false), (("BadName" : Str), false), (("BadTerm" : Str), false), (("BadNumbers" : Str), false), (("BadDeed" : Str), false), (("Clash" : Str), false), (("Loose" : Str), false), (("Round" : Str), false), (("NoBrook" : Str), false), (("NoSpring" : Str), false), (("NoName" : Str), false), (("NoOut" : Str), false), (("NotGiven" : Str), false), (("NoPath" : Str), false), (("Dry" : Str), false), (("NotNow" : Str), false), (("Used" : Str), false), (("LastOut" : Str), false), (("IsOut" : Str), false), (("NotOut" : Str), false), (("Unsure" : Str), false), (("TooFar" : Str), true), (("TooFew" : Str), true), (("Small" : Str), true), (("TooMany" : Str), true), (("TooBig" : Str), true)]
def tb_ValueError : List (Str × Bool) := [(("BadText" : Str), true), (("BadWord" : Str), true), (("BadRow" : Str), true), (("BadName" : Str), true), (("BadTerm" : Str), true), (("BadNumbers" : Str), true), (("BadDeed" : Str), true), (("Clash" : Str), true), (("Loose" : Str), true), (("Round" : Str), true), (("NoBrook" : Str), false), (("NoSpring" : Str), false), (("NoName" : Str), false), (("NoOut" : Str), false), (("NotGiven" : Str), false), (("NoPath" : Str), false), (("Dry" : Str), false), (("NotNow" : Str), false), (("Used" : Str), false), (("LastOut" : Str), false), (("IsOut" : Str), false), (("NotOut" : Str), false), (("Unsure" : Str), false), (("TooFar" : Str), false), (("TooFew" : Str), false), (("Small" : Str), false), (("TooMany" : Str), false), (("TooBig" : Str), false)]
def tb_KeyError : List (Str × Bool) := [(("BadText" : Str), false), (("BadWord" : Str), false), (("BadRow" : Str), false), (("BadName" : Str), false), (("BadTerm" : Str), false), (("BadNumbers" : Str), false), (("BadDeed" : Str), false), (("Clash" : Str), false), (("Loose" : Str), false), (("Round" : Str), false), (("NoBrook" : Str), true), (("NoSpring" : Str), true), (("NoName" : Str), true), (("NoOut" : Str), true), (("NotGiven" : Str), true), (("NoPath" : Str), false), (("Dry" : Str), false), (("NotNow" : Str), false), (("Used" : Str), false), (("LastOut" : Str), false), (("IsOut" : Str), false), (("NotOut" : Str), false), (("Unsure" : Str), false), (("TooFar" : Str), false), (("TooFew" : Str), false), (("Small" : Str), false), (("TooMany" : Str), false), (("TooBig" : Str), false)]
def tb_LookupError : List (Str × Bool) := [(("BadText" : Str), false), (("BadWord" : Str), false), (("BadRow" : Str), false), (("BadName" : Str), false), (("BadTerm" : Str), false), (("BadNumbers" : Str), false), (("BadDeed" : Str), false), (("Clash" : Str), false), (("Loose" : Str), false), (("Round" : Str), false), (("NoBrook" : Str), true), (("NoSpring" : Str), true), (("NoName" : Str), true), (("NoOut" : Str), true), (("NotGiven" : Str), true), (("NoPath" : Str), true), (("Dry" : Str), true), (("NotNow" : Str), false), (("Used" : Str), false), (("LastOut" : Str), false), (("IsOut" : Str), false), (("NotOut" : Str), false), (("Unsure" : Str), false), (("TooFar" : Str), false), (("TooFew" : Str), false), (("Small" : Str), false), (("TooMany" : Str), false), (("TooBig" : Str), false)]
def exsL : List XcI := [x_BadText, x_BadWord, x_BadRow, x_BadName, x_BadTerm, x_BadNumbers, x_BadDeed, x_Clash, x_Loose, x_Round, x_NoBrook, x_NoSpring, x_NoName, x_NoOut, x_NotGiven, x_NoPath, x_Dry, x_NotNow, x_Used, x_LastOut, x_IsOut, x_NotOut, x_Unsure, x_TooFar, x_TooFew, x_Small, x_TooMany, x_TooBig]
def clsL : List (Str × List (Str × Bool)) := [(("TooFew" : Str), tb_TooFew), (("Small" : Str), tb_Small), (("TooMany" : Str), tb_TooMany), (("TooBig" : Str), tb_TooBig), (("NotOut" : Str), tb_NotOut), (("Unsure" : Str), tb_Unsure), (("TooFar" : Str), tb_TooFar), (("NotNow" : Str), tb_NotNow), (("Used" : Str), tb_Used), (("LastOut" : Str), tb_LastOut), (("IsOut" : Str), tb_IsOut), (("NoOut" : Str), tb_NoOut), (("NotGiven" : Str), tb_NotGiven), (("NoPath" : Str), tb_NoPath), (("Dry" : Str), tb_Dry), (("NoBrook" : Str), tb_NoBrook), (("NoSpring" : Str), tb_NoSpring), (("NoName" : Str), tb_NoName), (("Clash" : Str), tb_Clash), (("Loose" : Str), tb_Loose), (("Round" : Str), tb_Round), (("BadTerm" : Str), tb_BadTerm), (("BadNumbers" : Str), tb_BadNumbers), (("BadDeed" : Str), tb_BadDeed), (("BadText" : Str), tb_BadText), (("BadWord" : Str), tb_BadWord), (("BadRow" : Str), tb_BadRow), (("BadName" : Str), tb_BadName), (("OverflowError" : Str), tb_OverflowError), (("TypeError" : Str), tb_TypeError), (("IndexError" : Str), tb_IndexError), (("RuntimeError" : Str), tb_RuntimeError), (("ArithmeticError" : Str), tb_ArithmeticError), (("ValueError" : Str), tb_ValueError), (("KeyError" : Str), tb_KeyError), (("LookupError" : Str), tb_LookupError)]
def con_l_dip : List (Str × D) := []
def d_l_dip : DefI := ⟨"_law_dip", "_law_dip", ["_law_script", "_law_k"], ["_law_script", "_law_k", "_law_cell"], []⟩
def blt_l_dip : List Str := ["abs", "int", "len"]
def imp_l_dip : List (Str × String) := []
def fns_l_dip : List FnI := []
def m_l_dip : M Fl := (seqM (setS 2 (ifM (blM (op2 lessD (slotM 1) (opN lenD [(slotM 0)]))) (ixM 3 (slotM 0) (slotM 1)) (cD (.int 0)))) (seqM (retS (lstM [(op2 mulD (opN absD [(slotM 2)]) (opN intF [(op2 moreeqD (opN absD [(slotM 2)]) (op2 powD (cD (.int 10)) (cD (.int 18))))])), (op2 addD (op2 addD (op2 modD (slotM 2) (cD (.int 2305843009213693951))) (op2 mulD (cD (.int 39373)) (slotM 1))) (cD (.int 17))), (cD (.int 0))])) (retM .next)))
def f_l_dip : FnI := ⟨"_law_dip", 2, [], [(2, [], [], [0, 1])], bodyFn 2 1 [] m_l_dip, false⟩
theorem c_l_dip : (cDef d_l_dip (topS 37) fns_l_dip blt_l_dip imp_l_dip con_l_dip).map (·.1) = some m_l_dip := by kernel_rfl
theorem s_l_dip : scopeOk d_l_dip (defScope (topS 37)) = true := by decide +kernel
def con_l_take : List (Str × D) := []
def d_l_take : DefI := ⟨"_law_take", "_law_take", ["_law_box", "_law_many"], ["_law_box", "_law_many", "_law_once", "_law_pair", "_law_found"], [0]⟩
def blt_l_take : List Str := []
def imp_l_take : List (Str × String) := []
def fns_l_take : List FnI := []
def m_l_take : M Fl := (seqM (ifS (blM (op2 moreD (ixM 5 (slotM 0) (cD (.int 0))) (cD (.int 0)))) (seqM (setS 4 (op2 modD (ixM 5 (slotM 0) (cD (.int 0))) (slotM 1))) (seqM (setIxS 0 (op2 fdivD (ixM 5 (slotM 0) (cD (.int 0))) (slotM 1)) (cD (.int 0))) (seqM (retS (slotM 4)) (retM .next)))) (retM .next)) (seqM (setIxS 0 (op2 addD (ixM 5 (slotM 0) (cD (.int 2))) (cD (.int 1))) (cD (.int 2))) (seqM (setS 2 (op2 modD (op2 powD (op2 addD (ixM 5 (slotM 0) (cD (.int 1))) (op2 mulD (cD (.int 39373)) (ixM 5 (slotM 0) (cD (.int 2))))) (cD (.int 5))) (cD (.int 2147483647)))) (seqM (setS 3 (op2 modD (op2 mulD (op2 addD (op2 addD (slotM 2) (ixM 5 (slotM 0) (cD (.int 2)))) (op2 fdivD (ixM 5 (slotM 0) (cD (.int 1))) (cD (.int 1000003)))) (op2 addD (op2 addD (op2 modD (slotM 2) (cD (.int 40009))) (cD (.int 7))) (ixM 5 (slotM 0) (cD (.int 2))))) (cD (.int 2147483629)))) (seqM (retS (op2 modD (op2 fdivD (op2 modD (op2 addD (op2 mulD (slotM 3) (cD (.int 48271))) (slotM 2)) (cD (.int 2147483587))) (cD (.int 64))) (slotM 1))) (retM .next))))))
def f_l_take : FnI := ⟨"_law_take", 2, [0], [(2, [], [], [0, 1])], bodyFn 2 3 [0] m_l_take, false⟩
theorem c_l_take : (cDef d_l_take (topS 38) fns_l_take blt_l_take imp_l_take con_l_take).map (·.1) = some m_l_take := by kernel_rfl
theorem s_l_take : scopeOk d_l_take (defScope (topS 38)) = true := by decide +kernel
def con_l_folded : List (Str × D) := []
def d_l_folded : DefI := ⟨"_law_folded", "_law_folded", ["_law_script", "_law_many"], ["_law_script", "_law_many", "_law_cells", "_law_k", "_law_cell"], []⟩
def blt_l_folded : List Str := ["enumerate", "list"]
def imp_l_folded : List (Str × String) := []
def fns_l_folded : List FnI := []
def m_l_folded : M Fl := (seqM (setS 2 (opN listF [(slM (slotM 0) none (some (slotM 1)) slD)])) (seqM (forS (.tup [(.nm 3), (.nm 4)]) (enumM (slM (slotM 0) (some (slotM 1)) (some (cD (.int 63))) slD)) (seqM (setIxS 2 (op2 addD (ixM 5 (slotM 2) (op2 modD (slotM 3) (slotM 1))) (op2 mulD (slotM 4) (op2 addD (slotM 3) (cD (.int 2))))) (op2 modD (slotM 3) (slotM 1))) (retM .next))) (seqM (retS (slotM 2)) (retM .next))))
def f_l_folded : FnI := ⟨"_law_folded", 2, [], [(2, [], [], [0, 1])], bodyFn 2 3 [] m_l_folded, false⟩
theorem c_l_folded : (cDef d_l_folded (topS 39) fns_l_folded blt_l_folded imp_l_folded con_l_folded).map (·.1) = some m_l_folded := by kernel_rfl
theorem s_l_folded : scopeOk d_l_folded (defScope (topS 39)) = true := by decide +kernel
def con_l_same : List (Str × D) := []
def d_l_same : DefI := ⟨"_law_same", "_law_same", ["_law_found", "_law_due"], ["_law_found", "_law_due", "_law_key", "_law_one", "_law_two"], []⟩
def blt_l_same : List Str := ["all", "bool", "dict", "int", "isinstance", "len", "list", "str", "tuple", "zip"]
def imp_l_same : List (Str × String) := []
def fI_l_same (fn : Fn) : FnI := ⟨"_law_same", 2, [], [(2, [], [], [0, 1])], fn, false⟩
def fns_l_same (fn : Fn) : List FnI := [fI_l_same fn]
def m_l_same (fn : Fn) : M Fl := (seqM (ifS (truM (op1 (isi1D "dict") (slotM 1))) (seqM (ifS (orM (notM (truM (op1 (isi1D "dict") (slotM 0)))) (blM (op2 neD nopeM nopeM))) (seqM (retS (cD (.bl false))) (retM .next)) (retM .next)) (seqM (retS (opN (boolsD (·.all id)) [(compM [2] (.nm 2) (srcM (slotM 1)) (retM true) (datM (callG 5 fn [0, 1] [] [.val (ixM 5 (slotM 0) (slotM 2)), .val (ixM 5 (slotM 1) (slotM 2))] [])))])) (retM .next))) (retM .next)) (seqM (ifS (truM (op1 (isiD ["list", "tuple"]) (slotM 1))) (seqM (ifS (orM (blM (op2 neD (op1 (isi1D "list") (slotM 0)) (op1 (isi1D "list") (slotM 1)))) (blM (op2 neD (op1 (isi1D "tuple") (slotM 0)) (op1 (isi1D "tuple") (slotM 1))))) (seqM (retS (cD (.bl false))) (retM .next)) (retM .next)) (seqM (retS (andV (op2 eqD (opN lenD [(slotM 0)]) (opN lenD [(slotM 1)])) (opN (boolsD (·.all id)) [(compM [3, 4] (.tup [(.nm 3), (.nm 4)]) (zipAM (slotM 0) (slotM 1)) (retM true) (datM (callG 5 fn [0, 1] [] [.val (slotM 3), .val (slotM 4)] [])))]))) (retM .next))) (retM .next)) (seqM (ifS (orM (blM (op2 isD (slotM 1) (cD .non))) (blM (op2 isD (slotM 0) (cD .non)))) (seqM (retS (andV (op2 isD (slotM 1) (cD .non)) (op2 isD (slotM 0) (cD .non)))) (retM .next)) (retM .next)) (seqM (ifS (orM (truM (op1 (isi1D "bool") (slotM 1))) (truM (op1 (isi1D "str") (slotM 1)))) (seqM (retS (andV (op2 eqD (op1 (isi1D "bool") (slotM 0)) (op1 (isi1D "bool") (slotM 1))) (op2 eqD (slotM 0) (slotM 1)))) (retM .next)) (retM .next)) (seqM (retS (andV (op1 (isi1D "int") (slotM 0)) (andV (notV (op1 (isi1D "bool") (slotM 0))) (op2 eqD (slotM 0) (slotM 1))))) (retM .next))))))
def fn_l_same : Nat → Fn
  | 0 => fun _ => none
  | n + 1 => bodyFn 2 3 [] (m_l_same (fn_l_same n))
theorem c_l_same (fn : Fn) : (cDef d_l_same (topS 40) (fns_l_same fn) blt_l_same imp_l_same con_l_same).map (·.1) = some (m_l_same fn) := by kernel_rfl
def f_l_same : FnI := fI_l_same (fn_l_same 40)
theorem s_l_same : scopeOk d_l_same (defScope (topS 40)) = true := by decide +kernel
def con_l_keywords : List (Str × D) := []
def d_l_keywords : DefI := ⟨"_law_keywords", "_law_keywords", [], ["_law_found"], []⟩
def blt_l_keywords : List Str := []
def imp_l_keywords : List (Str × String) := []
def fns_l_keywords : List FnI := []
def m_l_keywords : M Fl := (seqM (setS 0 (cD (.str "fixed sum less by pick late half twice most least over spring brook out beat"))) (seqM (retS (methS splitF (slotM 0) [(cD (.str " "))])) (retM .next)))
def f_l_keywords : FnI := ⟨"_law_keywords", 0, [], [(0, [], [], [])], bodyFn 0 1 [] m_l_keywords, false⟩
theorem c_l_keywords : (cDef d_l_keywords (topS 41) fns_l_keywords blt_l_keywords imp_l_keywords con_l_keywords).map (·.1) = some m_l_keywords := by kernel_rfl
theorem s_l_keywords : scopeOk d_l_keywords (defScope (topS 41)) = true := by decide +kernel
def con_l_own : List (Str × D) := []
def d_l_own : DefI := ⟨"_law_own", "_law_own", ["_law_one"], ["_law_one", "_law_found", "_law_is_one", "_law_k"], []⟩
def blt_l_own : List Str := ["enumerate", "isinstance"]
def imp_l_own : List (Str × String) := []
def fns_l_own : List FnI := []
def m_l_own : M Fl := (seqM (setS 1 (lstM [(op1 (isxD tb_BadText) (slotM 0)), (op1 (isxD tb_BadWord) (slotM 0)), (op1 (isxD tb_BadRow) (slotM 0)), (op1 (isxD tb_BadName) (slotM 0))])) (seqM (setS 1 (op2 addD (slotM 1) (lstM [(op1 (isxD tb_BadTerm) (slotM 0)), (op1 (isxD tb_BadNumbers) (slotM 0)), (op1 (isxD tb_BadDeed) (slotM 0))]))) (seqM (setS 1 (op2 addD (slotM 1) (lstM [(op1 (isxD tb_Clash) (slotM 0)), (op1 (isxD tb_Loose) (slotM 0)), (op1 (isxD tb_Round) (slotM 0))]))) (seqM (setS 1 (op2 addD (slotM 1) (lstM [(op1 (isxD tb_NoBrook) (slotM 0)), (op1 (isxD tb_NoSpring) (slotM 0)), (op1 (isxD tb_NoName) (slotM 0))]))) (seqM (setS 1 (op2 addD (slotM 1) (lstM [(op1 (isxD tb_NoOut) (slotM 0)), (op1 (isxD tb_NotGiven) (slotM 0)), (op1 (isxD tb_NoPath) (slotM 0)), (op1 (isxD tb_Dry) (slotM 0))]))) (seqM (setS 1 (op2 addD (slotM 1) (lstM [(op1 (isxD tb_NotNow) (slotM 0)), (op1 (isxD tb_Used) (slotM 0)), (op1 (isxD tb_LastOut) (slotM 0)), (op1 (isxD tb_IsOut) (slotM 0))]))) (seqM (setS 1 (op2 addD (slotM 1) (lstM [(op1 (isxD tb_NotOut) (slotM 0)), (op1 (isxD tb_Unsure) (slotM 0)), (op1 (isxD tb_TooFar) (slotM 0))]))) (seqM (setS 1 (op2 addD (slotM 1) (lstM [(op1 (isxD tb_TooFew) (slotM 0)), (op1 (isxD tb_Small) (slotM 0)), (op1 (isxD tb_TooMany) (slotM 0)), (op1 (isxD tb_TooBig) (slotM 0))]))) (seqM (retS (compM [3, 2] (.tup [(.nm 3), (.nm 2)]) (enumM (slotM 1)) (truM (slotM 2)) (datM (slotM 3)))) (retM .next))))))))))
def f_l_own : FnI := ⟨"_law_own", 1, [], [(1, [], [], [0])], bodyFn 1 3 [] m_l_own, false⟩
theorem c_l_own : (cDef d_l_own (topS 42) fns_l_own blt_l_own imp_l_own con_l_own exsL clsL).map (·.1) = some m_l_own := by kernel_rfl
theorem s_l_own : scopeOk d_l_own (defScope (topS 42)) = true := by decide +kernel
def con_l_over : List (Str × D) := []
def d_l_over : DefI := ⟨"_law_over", "_law_over", ["_law_one"], ["_law_one", "_law_words", "_law_found", "_law_is_one", "_law_word"], []⟩
def blt_l_over : List Str := ["isinstance", "zip"]
def imp_l_over : List (Str × String) := []
def fns_l_over : List FnI := []
def m_l_over : M Fl := (seqM (setS 1 (lstM [(cD (.str "value")), (cD (.str "key")), (cD (.str "lookup")), (cD (.str "index")), (cD (.str "run")), (cD (.str "sums")), (cD (.str "over")), (cD (.str "kind"))])) (seqM (setS 2 (lstM [(op1 (isxD tb_ValueError) (slotM 0)), (op1 (isxD tb_KeyError) (slotM 0)), (op1 (isxD tb_LookupError) (slotM 0))])) (seqM (setS 2 (op2 addD (slotM 2) (lstM [(op1 (isxD tb_IndexError) (slotM 0)), (op1 (isxD tb_RuntimeError) (slotM 0)), (op1 (isxD tb_ArithmeticError) (slotM 0))]))) (seqM (setS 2 (op2 addD (slotM 2) (lstM [(op1 (isxD tb_OverflowError) (slotM 0)), (op1 (isxD tb_TypeError) (slotM 0))]))) (seqM (retS (compM [4, 3] (.tup [(.nm 4), (.nm 3)]) (zipAM (slotM 1) (slotM 2)) (truM (slotM 3)) (datM (slotM 4)))) (retM .next))))))
def f_l_over : FnI := ⟨"_law_over", 1, [], [(1, [], [], [0])], bodyFn 1 4 [] m_l_over, false⟩
theorem c_l_over : (cDef d_l_over (topS 43) fns_l_over blt_l_over imp_l_over con_l_over exsL clsL).map (·.1) = some m_l_over := by kernel_rfl
theorem s_l_over : scopeOk d_l_over (defScope (topS 43)) = true := by decide +kernel
def con_l_made : List (Str × D) := []
def d_l_made : DefI := ⟨"_law_made", "_law_made", ["_law_a"], ["_law_a", "_law_found"], []⟩
def blt_l_made : List Str := []
def imp_l_made : List (Str × String) := []
def fns_l_made : List FnI := []
def m_l_made : M Fl := (seqM (setS 1 (lstM [(newM x_BadText (slotM 0)), (newM x_BadWord (slotM 0)), (newM x_BadRow (slotM 0)), (newM x_BadName (slotM 0)), (newM x_BadTerm (slotM 0)), (newM x_BadNumbers (slotM 0)), (newM x_BadDeed (slotM 0)), (newM x_Clash (slotM 0)), (newM x_Loose (slotM 0))])) (seqM (setS 1 (op2 addD (slotM 1) (lstM [(newM x_Round (slotM 0)), (newM x_NoBrook (slotM 0)), (newM x_NoSpring (slotM 0)), (newM x_NoName (slotM 0)), (newM x_NoOut (slotM 0)), (newM x_NotGiven (slotM 0)), (newM x_NoPath (slotM 0)), (newM x_Dry (slotM 0))]))) (seqM (setS 1 (op2 addD (slotM 1) (lstM [(newM x_NotNow (slotM 0)), (newM x_Used (slotM 0)), (newM x_LastOut (slotM 0)), (newM x_IsOut (slotM 0)), (newM x_NotOut (slotM 0)), (newM x_Unsure (slotM 0)), (newM x_TooFar (slotM 0)), (newM x_TooFew (slotM 0)), (newM x_Small (slotM 0))]))) (seqM (retS (op2 addD (slotM 1) (lstM [(newM x_TooMany (slotM 0)), (new0M "TooBig")]))) (retM .next)))))
def f_l_made : FnI := ⟨"_law_made", 1, [], [(1, [], [], [0])], bodyFn 1 1 [] m_l_made, false⟩
theorem c_l_made : (cDef d_l_made (topS 44) fns_l_made blt_l_made imp_l_made con_l_made exsL clsL).map (·.1) = some m_l_made := by kernel_rfl
theorem s_l_made : scopeOk d_l_made (defScope (topS 44)) = true := by decide +kernel
def con_l_called : List (Str × D) := []
def d_l_called : DefI := ⟨"_law_called", "_law_called", ["_law_a"], ["_law_a", "_law_found"], []⟩
def blt_l_called : List Str := []
def imp_l_called : List (Str × String) := []
def fns_l_called : List FnI := []
def m_l_called : M Fl := (seqM (setS 1 (lstM [(newM x_BadText (slotM 0)), (newM x_BadWord (slotM 0)), (newM x_BadRow (slotM 0)), (newM x_BadName (slotM 0)), (newM x_BadTerm (slotM 0)), (newM x_BadNumbers (slotM 0))])) (seqM (setS 1 (op2 addD (slotM 1) (lstM [(newM x_BadDeed (slotM 0)), (newM x_Clash (slotM 0)), (newM x_Loose (slotM 0)), (newM x_Round (slotM 0)), (newM x_NoBrook (slotM 0))]))) (seqM (setS 1 (op2 addD (slotM 1) (lstM [(newM x_NoSpring (slotM 0)), (newM x_NoName (slotM 0)), (newM x_NoOut (slotM 0)), (newM x_NotGiven (slotM 0)), (newM x_NoPath (slotM 0)), (newM x_Dry (slotM 0))]))) (seqM (setS 1 (op2 addD (slotM 1) (lstM [(newM x_NotNow (slotM 0)), (newM x_Used (slotM 0)), (newM x_LastOut (slotM 0)), (newM x_IsOut (slotM 0)), (newM x_NotOut (slotM 0)), (newM x_Unsure (slotM 0))]))) (seqM (retS (op2 addD (slotM 1) (lstM [(newM x_TooFar (slotM 0)), (newM x_TooFew (slotM 0)), (newM x_Small (slotM 0)), (newM x_TooMany (slotM 0)), (new0M "TooBig")]))) (retM .next))))))
def f_l_called : FnI := ⟨"_law_called", 1, [], [(1, [], [], [0])], bodyFn 1 1 [] m_l_called, false⟩
theorem c_l_called : (cDef d_l_called (topS 45) fns_l_called blt_l_called imp_l_called con_l_called exsL clsL).map (·.1) = some m_l_called := by kernel_rfl
theorem s_l_called : scopeOk d_l_called (defScope (topS 45)) = true := by decide +kernel
def con_l_fields : List (Str × D) := []
def d_l_fields : DefI := ⟨"_law_fields", "_law_fields", ["_law_e"], ["_law_e", "_law_found"], []⟩
def blt_l_fields : List Str := []
def imp_l_fields : List (Str × String) := []
def fns_l_fields : List FnI := []
def m_l_fields : M Fl := (seqM (setS 1 (lstM [(op1 (fldD exsL "text") (ixM 2 (slotM 0) (cD (.int 0)))), (op1 (fldD exsL "at") (ixM 2 (slotM 0) (cD (.int 1)))), (op1 (fldD exsL "row") (ixM 2 (slotM 0) (cD (.int 2)))), (op1 (fldD exsL "name") (ixM 2 (slotM 0) (cD (.int 3)))), (op1 (fldD exsL "thing") (ixM 2 (slotM 0) (cD (.int 4)))), (op1 (fldD exsL "thing") (ixM 2 (slotM 0) (cD (.int 5)))), (op1 (fldD exsL "number") (ixM 2 (slotM 0) (cD (.int 6)))), (op1 (fldD exsL "number") (ixM 2 (slotM 0) (cD (.int 7)))), (op1 (fldD exsL "place") (ixM 2 (slotM 0) (cD (.int 8))))])) (seqM (setS 1 (op2 addD (slotM 1) (lstM [(op1 (fldD exsL "ring") (ixM 2 (slotM 0) (cD (.int 9)))), (op1 (fldD exsL "name") (ixM 2 (slotM 0) (cD (.int 10)))), (op1 (fldD exsL "name") (ixM 2 (slotM 0) (cD (.int 11)))), (op1 (fldD exsL "name") (ixM 2 (slotM 0) (cD (.int 12)))), (op1 (fldD exsL "out") (ixM 2 (slotM 0) (cD (.int 13)))), (op1 (fldD exsL "name") (ixM 2 (slotM 0) (cD (.int 14)))), (op1 (fldD exsL "path") (ixM 2 (slotM 0) (cD (.int 15)))), (op1 (fldD exsL "name") (ixM 2 (slotM 0) (cD (.int 16))))]))) (seqM (setS 1 (op2 addD (slotM 1) (lstM [(op1 (fldD exsL "at") (ixM 2 (slotM 0) (cD (.int 17)))), (op1 (fldD exsL "other") (ixM 2 (slotM 0) (cD (.int 18)))), (op1 (fldD exsL "name") (ixM 2 (slotM 0) (cD (.int 19)))), (op1 (fldD exsL "name") (ixM 2 (slotM 0) (cD (.int 20)))), (op1 (fldD exsL "name") (ixM 2 (slotM 0) (cD (.int 21)))), (op1 (fldD exsL "node") (ixM 2 (slotM 0) (cD (.int 22)))), (op1 (fldD exsL "place") (ixM 2 (slotM 0) (cD (.int 23)))), (op1 (fldD exsL "need") (ixM 2 (slotM 0) (cD (.int 24))))]))) (seqM (retS (op2 addD (slotM 1) (lstM [(op1 (fldD exsL "place") (ixM 2 (slotM 0) (cD (.int 25)))), (op1 (fldD exsL "most") (ixM 2 (slotM 0) (cD (.int 26))))]))) (retM .next)))))
def f_l_fields : FnI := ⟨"_law_fields", 1, [], [(1, [], [], [0])], bodyFn 1 1 [] m_l_fields, false⟩
theorem c_l_fields : (cDef d_l_fields (topS 46) fns_l_fields blt_l_fields imp_l_fields con_l_fields exsL clsL).map (·.1) = some m_l_fields := by kernel_rfl
theorem s_l_fields : scopeOk d_l_fields (defScope (topS 46)) = true := by decide +kernel
def con_l_odd : List (Str × D) := []
def d_l_odd : DefI := ⟨"_law_odd", "_law_odd", ["_law_box"], ["_law_box", "_law_pool"], [0]⟩
def blt_l_odd : List Str := []
def imp_l_odd : List (Str × String) := []
def fns_l_odd : List FnI := [f_l_take]
def m_l_odd : M Fl := (seqM (setS 1 (lstM [(callG 2 f_l_take.fn [0, 1] [] [.rf 0, .val (op2 powD (cD (.int 10)) (cD (.int 6)))] []), (cD (.str "ann")), (tupM [(cD (.int 1)), (cD (.int 2))]), (tupM [(cD (.str "late")), (tupM [(cD (.int 1)), (cD (.int 2))]), (tupM [(cD (.str "name")), (cD (.str "a"))])]), (lstM [(cD (.str "get")), (cD (.str "put"))]), (cD .non), (cD (.str "")), (tupM [])])) (seqM (retS (ixM 2 (op2 addD (slotM 1) (lstM [(cD (.str "1/2")), (op1 negD (cD (.int 3)))])) (callG 2 f_l_take.fn [0, 1] [] [.rf 0, .val (cD (.int 10))] []))) (retM .next)))
def f_l_odd : FnI := ⟨"_law_odd", 1, [0], [(1, [], [], [0])], bodyFn 1 1 [0] m_l_odd, false⟩
theorem c_l_odd : (cDef d_l_odd (topS 47) fns_l_odd blt_l_odd imp_l_odd con_l_odd).map (·.1) = some m_l_odd := by kernel_rfl
theorem s_l_odd : scopeOk d_l_odd (defScope (topS 47)) = true := by decide +kernel
def con_l_right : List (Str × D) := []
def d_l_right : DefI := ⟨"_law_right", "_law_right", ["_law_a"], ["_law_a", "_law_higher", "_law_made_here", "_law_k", "_law_one"], []⟩
def blt_l_right : List Str := ["range"]
def imp_l_right : List (Str × String) := []
def fns_l_right : List FnI := [f_l_made, f_l_called, f_l_same, f_l_fields, f_l_over, f_l_own]
def m_l_right : M Fl := (seqM (setS 1 (op2 addD (op2 addD (op2 addD (op2 addD (op2 mulD (lstM [(lstM [(cD (.str "value"))])]) (cD (.int 10))) (op2 mulD (lstM [(lstM [(cD (.str "key")), (cD (.str "lookup"))])]) (cD (.int 5)))) (op2 mulD (lstM [(lstM [(cD (.str "lookup"))])]) (cD (.int 2)))) (op2 mulD (lstM [(lstM [(cD (.str "run"))])]) (cD (.int 6)))) (op2 mulD (lstM [(lstM [(cD (.str "sums")), (cD (.str "over"))])]) (cD (.int 5))))) (seqM (forS (.nm 2) (srcM (tupM [(callG 5 f_l_made.fn [0] [] [.val (slotM 0)] []), (callG 5 f_l_called.fn [0] [] [.val (slotM 0)] [])])) (seqM (ifS (orM (blM (op2 neD (compM [4] (.nm 4) (srcM (slotM 2)) (retM true) (datM (callG 5 f_l_own.fn [0] [] [.val (slotM 4)] []))) (compM [3] (.nm 3) (rngM (cD (.int 28))) (retM true) (datM (lstM [(slotM 3)]))))) (blM (op2 neD (compM [4] (.nm 4) (srcM (slotM 2)) (retM true) (datM (callG 5 f_l_over.fn [0] [] [.val (slotM 4)] []))) (slotM 1)))) (seqM (retS (cD (.bl false))) (retM .next)) (retM .next)) (seqM (ifS (notM (truM (callG 5 f_l_same.fn [0, 1] [] [.val (callG 5 f_l_fields.fn [0] [] [.val (slotM 2)] []), .val (op2 mulD (lstM [(slotM 0)]) (cD (.int 27)))] []))) (seqM (retS (cD (.bl false))) (retM .next)) (retM .next)) (retM .next)))) (seqM (retS (cD (.bl true))) (retM .next))))
def f_l_right : FnI := ⟨"_law_right", 1, [], [(1, [], [], [0])], bodyFn 1 4 [] m_l_right, false⟩
theorem c_l_right : (cDef d_l_right (topS 48) fns_l_right blt_l_right imp_l_right con_l_right).map (·.1) = some m_l_right := by kernel_rfl
theorem s_l_right : scopeOk d_l_right (defScope (topS 48)) = true := by decide +kernel
def con_law : List (Str × D) := [("FIGURES", k_FIGURES), ("FINE", k_FINE), ("KEYWORDS", k_KEYWORDS), ("MOST_BOXES", k_MOST_BOXES), ("MOST_WAYS", k_MOST_WAYS), ("SIZE", k_SIZE), ("WIDE", k_WIDE)]
def d_law : DefI := ⟨"law", "law", ["_law_script"], ["_law_script", "_law_cells", "_law_k", "_law_found", "_law_box", "_law_turn"], []⟩
def blt_law : List Str := ["all", "len", "range", "tuple"]
def imp_law : List (Str × String) := []
def fns_law : List FnI := [f_l_same, f_l_keywords, f_l_right, f_l_odd, f_l_dip, f_l_folded]
def m_law : M Fl := (seqM (setS 1 (callG 6 f_l_folded.fn [0, 1] [] [.val (slotM 0), .val (cD (.int 2))] [])) (seqM (forS (.nm 2) (rngM (op2 addD (cD (.int 1)) (opN lenD [(slotM 1)]))) (seqM (setS 4 (callG 6 f_l_dip.fn [0, 1] [] [.val (slotM 1), .val (slotM 2)] [])) (seqM (ifS (notM (truM (opN (boolsD (·.all id)) [(compM [5] (.nm 5) (rngM (cD (.int 8))) (retM true) (datM (callG 6 f_l_right.fn [0] [] [.val (callG 6 f_l_odd.fn [0] [] [.rf 4] [])] [])))]))) (seqM (retS (cD (.bl false))) (retM .next)) (retM .next)) (retM .next)))) (seqM (setS 3 (lstM [(cD k_KEYWORDS), (cD k_SIZE), (cD k_MOST_BOXES), (cD k_WIDE), (cD k_FIGURES), (cD k_FINE), (cD k_MOST_WAYS)])) (seqM (retS (callG 6 f_l_same.fn [0, 1] [] [.val (slotM 3), .val (lstM [(opN tupleF [(callG 6 f_l_keywords.fn [] [] [] [])]), (cD (.int 8)), (cD (.int 120)), (cD (.int 24)), (cD (.int 8)), (cD (.int 6)), (cD (.int 300))])] [])) (retM .next)))))
def f_law : FnI := ⟨"law", 1, [], [], bodyFn 1 5 [] m_law, false⟩
theorem c_law : (cDef d_law (topS 49) fns_law blt_law imp_law con_law).map (·.1) = some m_law := by kernel_rfl
theorem s_law : scopeOk d_law (defScope (topS 49)) = true := by decide +kernel
end Ev

set_option Elab.async false
set_option linter.all false
set_option maxRecDepth 100000
namespace Ev
open PySem PySem.Spec PyProof.Rows L2
def faL : List He.Fa := [.glo "_law_dip", .glo "_law_take", .glo "_law_folded", .glo "_law_same", .glo "_law_keywords", .glo "_law_own", .glo "_law_over", .glo "_law_made", .glo "_law_called", .glo "_law_fields", .glo "_law_odd", .glo "_law_right", .glo "law", .free "abs", .free "all", .free "bool", .free "dict", .free "enumerate", .free "int", .free "isinstance", .free "len", .free "list", .free "range", .free "str", .free "tuple", .free "zip"]
def fnL : List He.DefD := [defD d_l_dip (topS 37) [] [], defD d_l_take (topS 38) [] [], defD d_l_folded (topS 39) [] [], defD d_l_same (topS 40) [] [], defD d_l_keywords (topS 41) [] [], defD d_l_own (topS 42) [] [], defD d_l_over (topS 43) [] [], defD d_l_made (topS 44) [] [], defD d_l_called (topS 45) [] [], defD d_l_fields (topS 46) [] [], defD d_l_odd (topS 47) [] [], defD d_l_right (topS 48) [] [], defD d_law (topS 49) [] [], defI x_BadText "BadText.__init__" (topS 1), defI x_BadWord "BadWord.__init__" (topS 2), defI x_BadRow "BadRow.__init__" (topS 3), defI x_BadName "BadName.__init__" (topS 4), defI x_BadTerm "BadTerm.__init__" (topS 5), defI x_BadNumbers "BadNumbers.__init__" (topS 6), defI x_BadDeed "BadDeed.__init__" (topS 7), defI x_Clash "Clash.__init__" (topS 8), defI x_Loose "Loose.__init__" (topS 9), defI x_Round "Round.__init__" (topS 10), defI x_NoBrook "NoBrook.__init__" (topS 11), defI x_NoSpring "NoSpring.__init__" (topS 12), defI x_NoName "NoName.__init__" (topS 13), defI x_NoOut "NoOut.__init__" (topS 14), defI x_NotGiven "NotGiven.__init__" (topS 15), defI x_NoPath "NoPath.__init__" (topS 16), defI x_Dry "Dry.__init__" (topS 17), defI x_NotNow "NotNow.__init__" (topS 18), defI x_Used "Used.__init__" (topS 19), defI x_LastOut "LastOut.__init__" (topS 20), defI x_IsOut "IsOut.__init__" (topS 21), defI x_NotOut "NotOut.__init__" (topS 22), defI x_Unsure "Unsure.__init__" (topS 23), defI x_TooFar "TooFar.__init__" (topS 24), defI x_TooFew "TooFew.__init__" (topS 25), defI x_Small "Small.__init__" (topS 26), defI x_TooMany "TooMany.__init__" (topS 27)]
def impL : List (Str × String) := []
def conL : List (Str × D) := [("FIGURES", k_FIGURES), ("FINE", k_FINE), ("KEYWORDS", k_KEYWORDS), ("MOST_BOXES", k_MOST_BOXES), ("MOST_WAYS", k_MOST_WAYS), ("SIZE", k_SIZE), ("WIDE", k_WIDE)]
def tabL : List TabI := []
def xcL : List (XcI × List Value × String) := [(x_BadText, [.type "ValueError", .type "Exception", .type "BaseException", .type "object"], "ValueError.__new__"), (x_BadWord, [.type "ValueError", .type "Exception", .type "BaseException", .type "object"], "ValueError.__new__"), (x_BadRow, [.type "ValueError", .type "Exception", .type "BaseException", .type "object"], "ValueError.__new__"), (x_BadName, [.type "ValueError", .type "Exception", .type "BaseException", .type "object"], "ValueError.__new__"), (x_BadTerm, [.type "ValueError", .type "Exception", .type "BaseException", .type "object"], "ValueError.__new__"), (x_BadNumbers, [.type "ValueError", .type "Exception", .type "BaseException", .type "object"], "ValueError.__new__"), (x_BadDeed, [.type "ValueError", .type "Exception", .type "BaseException", .type "object"], "ValueError.__new__"), (x_Clash, [.type "ValueError", .type "Exception", .type "BaseException", .type "object"], "ValueError.__new__"), (x_Loose, [.type "ValueError", .type "Exception", .type "BaseException", .type "object"], "ValueError.__new__"), (x_Round, [.type "ValueError", .type "Exception", .type "BaseException", .type "object"], "ValueError.__new__"), (x_NoBrook, [.type "KeyError", .type "LookupError", .type "Exception", .type "BaseException", .type "object"], "LookupError.__new__"), (x_NoSpring, [.type "KeyError", .type "LookupError", .type "Exception", .type "BaseException", .type "object"], "LookupError.__new__"), (x_NoName, [.type "KeyError", .type "LookupError", .type "Exception", .type "BaseException", .type "object"], "LookupError.__new__"), (x_NoOut, [.type "KeyError", .type "LookupError", .type "Exception", .type "BaseException", .type "object"], "LookupError.__new__"), (x_NotGiven, [.type "KeyError", .type "LookupError", .type "Exception", .type "BaseException", .type "object"], "LookupError.__new__"), (x_NoPath, [.type "LookupError", .type "Exception", .type "BaseException", .type "object"], "LookupError.__new__"), (x_Dry, [.type "LookupError", .type "Exception", .type "BaseException", .type "object"], "LookupError.__new__"), (x_NotNow, [.type "RuntimeError", .type "Exception", .type "BaseException", .type "object"], "RuntimeError.__new__"), (x_Used, [.type "RuntimeError", .type "Exception", .type "BaseException", .type "object"], "RuntimeError.__new__"), (x_LastOut, [.type "RuntimeError", .type "Exception", .type "BaseException", .type "object"], "RuntimeError.__new__"), (x_IsOut, [.type "RuntimeError", .type "Exception", .type "BaseException", .type "object"], "RuntimeError.__new__"), (x_NotOut, [.type "RuntimeError", .type "Exception", .type "BaseException", .type "object"], "RuntimeError.__new__"), (x_Unsure, [.type "RuntimeError", .type "Exception", .type "BaseException", .type "object"], "RuntimeError.__new__"), (x_TooFar, [.type "OverflowError", .type "ArithmeticError", .type "Exception", .type "BaseException", .type "object"], "OverflowError.__new__"), (x_TooFew, [.type "OverflowError", .type "ArithmeticError", .type "Exception", .type "BaseException", .type "object"], "OverflowError.__new__"), (x_Small, [.type "OverflowError", .type "ArithmeticError", .type "Exception", .type "BaseException", .type "object"], "OverflowError.__new__"), (x_TooMany, [.type "OverflowError", .type "ArithmeticError", .type "Exception", .type "BaseException", .type "object"], "OverflowError.__new__"), (x_TooBig, [.type "OverflowError", .type "ArithmeticError", .type "Exception", .type "BaseException", .type "object"], "OverflowError.__new__")]
def ycL : List (Option String × Str × List (Str × Bool)) := [(none, ("TooFew" : Str), tb_TooFew), (none, ("Small" : Str), tb_Small), (none, ("TooMany" : Str), tb_TooMany), (none, ("TooBig" : Str), tb_TooBig), (none, ("NotOut" : Str), tb_NotOut), (none, ("Unsure" : Str), tb_Unsure), (none, ("TooFar" : Str), tb_TooFar), (none, ("NotNow" : Str), tb_NotNow), (none, ("Used" : Str), tb_Used), (none, ("LastOut" : Str), tb_LastOut), (none, ("IsOut" : Str), tb_IsOut), (none, ("NoOut" : Str), tb_NoOut), (none, ("NotGiven" : Str), tb_NotGiven), (none, ("NoPath" : Str), tb_NoPath), (none, ("Dry" : Str), tb_Dry), (none, ("NoBrook" : Str), tb_NoBrook), (none, ("NoSpring" : Str), tb_NoSpring), (none, ("NoName" : Str), tb_NoName), (none, ("Clash" : Str), tb_Clash), (none, ("Loose" : Str), tb_Loose), (none, ("Round" : Str), tb_Round), (none, ("BadTerm" : Str), tb_BadTerm), (none, ("BadNumbers" : Str), tb_BadNumbers), (none, ("BadDeed" : Str), tb_BadDeed), (none, ("BadText" : Str), tb_BadText), (none, ("BadWord" : Str), tb_BadWord), (none, ("BadRow" : Str), tb_BadRow), (none, ("BadName" : Str), tb_BadName), (some "OverflowError", ("OverflowError" : Str), tb_OverflowError), (some "TypeError", ("TypeError" : Str), tb_TypeError), (some "IndexError", ("IndexError" : Str), tb_IndexError), (some "RuntimeError", ("RuntimeError" : Str), tb_RuntimeError), (some "ArithmeticError", ("ArithmeticError" : Str), tb_ArithmeticError), (some "ValueError", ("ValueError" : Str), tb_ValueError), (some "KeyError", ("KeyError" : Str), tb_KeyError), (some "LookupError", ("LookupError" : Str), tb_LookupError)]
section
variable {P : Program} {w : World} {K : PySem.W.Frag} {mg : Str → Option Value} {base : Heap} {h : Heap}
theorem xg_BadText (X : K.In h) (G : h.Ns mainGlobals mg) (c : SaysE faL fnL (exB3 impL conL tabL xcL ycL) tabL w K) : ExG P w K mg base 2 x_BadText := by
  obtain ⟨fd, F⟩ := c.d.def_ 13 (d := defI x_BadText "BadText.__init__" (topS 1)) rfl
  exact exg_of (c := x_BadText) (slf := "self") (par := "text") PySem.F.excBase_ValueError ⟨by decide +kernel, by decide +kernel, by decide +kernel⟩ PySem.F.store_ValueError X G rfl (exB3_x c.ex (i := 0) rfl rfl) F (scopeOk_of (d := ⟨"__init__", "__init__", ["self", "text"], ["self", "text"], []⟩) (by decide +kernel)) (by decide +kernel) (by decide +kernel) (by decide +kernel) (by decide +kernel) (fun _ _ _ _ _ _ _ _ => rfl) (fun _ _ _ _ _ _ _ _ => rfl)
theorem xg_BadWord (X : K.In h) (G : h.Ns mainGlobals mg) (c : SaysE faL fnL (exB3 impL conL tabL xcL ycL) tabL w K) : ExG P w K mg base 2 x_BadWord := by
  obtain ⟨fd, F⟩ := c.d.def_ 14 (d := defI x_BadWord "BadWord.__init__" (topS 2)) rfl
  exact exg_of (c := x_BadWord) (slf := "self") (par := "at") PySem.F.excBase_ValueError ⟨by decide +kernel, by decide +kernel, by decide +kernel⟩ PySem.F.store_ValueError X G rfl (exB3_x c.ex (i := 1) rfl rfl) F (scopeOk_of (d := ⟨"__init__", "__init__", ["self", "at"], ["self", "at"], []⟩) (by decide +kernel)) (by decide +kernel) (by decide +kernel) (by decide +kernel) (by decide +kernel) (fun _ _ _ _ _ _ _ _ => rfl) (fun _ _ _ _ _ _ _ _ => rfl)
theorem xg_BadRow (X : K.In h) (G : h.Ns mainGlobals mg) (c : SaysE faL fnL (exB3 impL conL tabL xcL ycL) tabL w K) : ExG P w K mg base 2 x_BadRow := by
  obtain ⟨fd, F⟩ := c.d.def_ 15 (d := defI x_BadRow "BadRow.__init__" (topS 3)) rfl
  exact exg_of (c := x_BadRow) (slf := "self") (par := "row") PySem.F.excBase_ValueError ⟨by decide +kernel, by decide +kernel, by decide +kernel⟩ PySem.F.store_ValueError X G rfl (exB3_x c.ex (i := 2) rfl rfl) F (scopeOk_of (d := ⟨"__init__", "__init__", ["self", "row"], ["self", "row"], []⟩) (by decide +kernel)) (by decide +kernel) (by decide +kernel) (by decide +kernel) (by decide +kernel) (fun _ _ _ _ _ _ _ _ => rfl) (fun _ _ _ _ _ _ _ _ => rfl)
theorem xg_BadName (X : K.In h) (G : h.Ns mainGlobals mg) (c : SaysE faL fnL (exB3 impL conL tabL xcL ycL) tabL w K) : ExG P w K mg base 2 x_BadName := by
  obtain ⟨fd, F⟩ := c.d.def_ 16 (d := defI x_BadName "BadName.__init__" (topS 4)) rfl
  exact exg_of (c := x_BadName) (slf := "self") (par := "name") PySem.F.excBase_ValueError ⟨by decide +kernel, by decide +kernel, by decide +kernel⟩ PySem.F.store_ValueError X G rfl (exB3_x c.ex (i := 3) rfl rfl) F (scopeOk_of (d := ⟨"__init__", "__init__", ["self", "name"], ["self", "name"], []⟩) (by decide +kernel)) (by decide +kernel) (by decide +kernel) (by decide +kernel) (by decide +kernel) (fun _ _ _ _ _ _ _ _ => rfl) (fun _ _ _ _ _ _ _ _ => rfl)
theorem xg_BadTerm (X : K.In h) (G : h.Ns mainGlobals mg) (c : SaysE faL fnL (exB3 impL conL tabL xcL ycL) tabL w K) : ExG P w K mg base 2 x_BadTerm := by
  obtain ⟨fd, F⟩ := c.d.def_ 17 (d := defI x_BadTerm "BadTerm.__init__" (topS 5)) rfl
  exact exg_of (c := x_BadTerm) (slf := "self") (par := "thing") PySem.F.excBase_ValueError ⟨by decide +kernel, by decide +kernel, by decide +kernel⟩ PySem.F.store_ValueError X G rfl (exB3_x c.ex (i := 4) rfl rfl) F (scopeOk_of (d := ⟨"__init__", "__init__", ["self", "thing"], ["self", "thing"], []⟩) (by decide +kernel)) (by decide +kernel) (by decide +kernel) (by decide +kernel) (by decide +kernel) (fun _ _ _ _ _ _ _ _ => rfl) (fun _ _ _ _ _ _ _ _ => rfl)
theorem xg_BadNumbers (X : K.In h) (G : h.Ns mainGlobals mg) (c : SaysE faL fnL (exB3 impL conL tabL xcL ycL) tabL w K) : ExG P w K mg base 2 x_BadNumbers := by
  obtain ⟨fd, F⟩ := c.d.def_ 18 (d := defI x_BadNumbers "BadNumbers.__init__" (topS 6)) rfl
  exact exg_of (c := x_BadNumbers) (slf := "self") (par := "thing") PySem.F.excBase_ValueError ⟨by decide +kernel, by decide +kernel, by decide +kernel⟩ PySem.F.store_ValueError X G rfl (exB3_x c.ex (i := 5) rfl rfl) F (scopeOk_of (d := ⟨"__init__", "__init__", ["self", "thing"], ["self", "thing"], []⟩) (by decide +kernel)) (by decide +kernel) (by decide +kernel) (by decide +kernel) (by decide +kernel) (fun _ _ _ _ _ _ _ _ => rfl) (fun _ _ _ _ _ _ _ _ => rfl)
theorem xg_BadDeed (X : K.In h) (G : h.Ns mainGlobals mg) (c : SaysE faL fnL (exB3 impL conL tabL xcL ycL) tabL w K) : ExG P w K mg base 2 x_BadDeed := by
  obtain ⟨fd, F⟩ := c.d.def_ 19 (d := defI x_BadDeed "BadDeed.__init__" (topS 7)) rfl
  exact exg_of (c := x_BadDeed) (slf := "self") (par := "number") PySem.F.excBase_ValueError ⟨by decide +kernel, by decide +kernel, by decide +kernel⟩ PySem.F.store_ValueError X G rfl (exB3_x c.ex (i := 6) rfl rfl) F (scopeOk_of (d := ⟨"__init__", "__init__", ["self", "number"], ["self", "number"], []⟩) (by decide +kernel)) (by decide +kernel) (by decide +kernel) (by decide +kernel) (by decide +kernel) (fun _ _ _ _ _ _ _ _ => rfl) (fun _ _ _ _ _ _ _ _ => rfl)
theorem xg_Clash (X : K.In h) (G : h.Ns mainGlobals mg) (c : SaysE faL fnL (exB3 impL conL tabL xcL ycL) tabL w K) : ExG P w K mg base 2 x_Clash := by
  obtain ⟨fd, F⟩ := c.d.def_ 20 (d := defI x_Clash "Clash.__init__" (topS 8)) rfl
  exact exg_of (c := x_Clash) (slf := "self") (par := "number") PySem.F.excBase_ValueError ⟨by decide +kernel, by decide +kernel, by decide +kernel⟩ PySem.F.store_ValueError X G rfl (exB3_x c.ex (i := 7) rfl rfl) F (scopeOk_of (d := ⟨"__init__", "__init__", ["self", "number"], ["self", "number"], []⟩) (by decide +kernel)) (by decide +kernel) (by decide +kernel) (by decide +kernel) (by decide +kernel) (fun _ _ _ _ _ _ _ _ => rfl) (fun _ _ _ _ _ _ _ _ => rfl)
theorem xg_Loose (X : K.In h) (G : h.Ns mainGlobals mg) (c : SaysE faL fnL (exB3 impL conL tabL xcL ycL) tabL w K) : ExG P w K mg base 2 x_Loose := by
  obtain ⟨fd, F⟩ := c.d.def_ 21 (d := defI x_Loose "Loose.__init__" (topS 9)) rfl
  exact exg_of (c := x_Loose) (slf := "self") (par := "place") PySem.F.excBase_ValueError ⟨by decide +kernel, by decide +kernel, by decide +kernel⟩ PySem.F.store_ValueError X G rfl (exB3_x c.ex (i := 8) rfl rfl) F (scopeOk_of (d := ⟨"__init__", "__init__", ["self", "place"], ["self", "place"], []⟩) (by decide +kernel)) (by decide +kernel) (by decide +kernel) (by decide +kernel) (by decide +kernel) (fun _ _ _ _ _ _ _ _ => rfl) (fun _ _ _ _ _ _ _ _ => rfl)
theorem xg_Round (X : K.In h) (G : h.Ns mainGlobals mg) (c : SaysE faL fnL (exB3 impL conL tabL xcL ycL) tabL w K) : ExG P w K mg base 2 x_Round := by
  obtain ⟨fd, F⟩ := c.d.def_ 22 (d := defI x_Round "Round.__init__" (topS 10)) rfl
  exact exg_of (c := x_Round) (slf := "self") (par := "ring") PySem.F.excBase_ValueError ⟨by decide +kernel, by decide +kernel, by decide +kernel⟩ PySem.F.store_ValueError X G rfl (exB3_x c.ex (i := 9) rfl rfl) F (scopeOk_of (d := ⟨"__init__", "__init__", ["self", "ring"], ["self", "ring"], []⟩) (by decide +kernel)) (by decide +kernel) (by decide +kernel) (by decide +kernel) (by decide +kernel) (fun _ _ _ _ _ _ _ _ => rfl) (fun _ _ _ _ _ _ _ _ => rfl)
theorem xg_NoBrook (X : K.In h) (G : h.Ns mainGlobals mg) (c : SaysE faL fnL (exB3 impL conL tabL xcL ycL) tabL w K) : ExG P w K mg base 2 x_NoBrook := by
  obtain ⟨fd, F⟩ := c.d.def_ 23 (d := defI x_NoBrook "NoBrook.__init__" (topS 11)) rfl
  exact exg_of (c := x_NoBrook) (slf := "self") (par := "name") PySem.F.excBase_LookupError ⟨by decide +kernel, by decide +kernel, by decide +kernel⟩ key_store X G rfl (exB3_x c.ex (i := 10) rfl rfl) F (scopeOk_of (d := ⟨"__init__", "__init__", ["self", "name"], ["self", "name"], []⟩) (by decide +kernel)) (by decide +kernel) (by decide +kernel) (by decide +kernel) (by decide +kernel) (fun _ _ _ _ _ _ _ _ => rfl) (fun _ _ _ _ _ _ _ _ => rfl)
theorem xg_NoSpring (X : K.In h) (G : h.Ns mainGlobals mg) (c : SaysE faL fnL (exB3 impL conL tabL xcL ycL) tabL w K) : ExG P w K mg base 2 x_NoSpring := by
  obtain ⟨fd, F⟩ := c.d.def_ 24 (d := defI x_NoSpring "NoSpring.__init__" (topS 12)) rfl
  exact exg_of (c := x_NoSpring) (slf := "self") (par := "name") PySem.F.excBase_LookupError ⟨by decide +kernel, by decide +kernel, by decide +kernel⟩ key_store X G rfl (exB3_x c.ex (i := 11) rfl rfl) F (scopeOk_of (d := ⟨"__init__", "__init__", ["self", "name"], ["self", "name"], []⟩) (by decide +kernel)) (by decide +kernel) (by decide +kernel) (by decide +kernel) (by decide +kernel) (fun _ _ _ _ _ _ _ _ => rfl) (fun _ _ _ _ _ _ _ _ => rfl)
theorem xg_NoName (X : K.In h) (G : h.Ns mainGlobals mg) (c : SaysE faL fnL (exB3 impL conL tabL xcL ycL) tabL w K) : ExG P w K mg base 2 x_NoName := by
  obtain ⟨fd, F⟩ := c.d.def_ 25 (d := defI x_NoName "NoName.__init__" (topS 13)) rfl
  exact exg_of (c := x_NoName) (slf := "self") (par := "name") PySem.F.excBase_LookupError ⟨by decide +kernel, by decide +kernel, by decide +kernel⟩ key_store X G rfl (exB3_x c.ex (i := 12) rfl rfl) F (scopeOk_of (d := ⟨"__init__", "__init__", ["self", "name"], ["self", "name"], []⟩) (by decide +kernel)) (by decide +kernel) (by decide +kernel) (by decide +kernel) (by decide +kernel) (fun _ _ _ _ _ _ _ _ => rfl) (fun _ _ _ _ _ _ _ _ => rfl)
theorem xg_NoOut (X : K.In h) (G : h.Ns mainGlobals mg) (c : SaysE faL fnL (exB3 impL conL tabL xcL ycL) tabL w K) : ExG P w K mg base 2 x_NoOut := by
  obtain ⟨fd, F⟩ := c.d.def_ 26 (d := defI x_NoOut "NoOut.__init__" (topS 14)) rfl
  exact exg_of (c := x_NoOut) (slf := "self") (par := "out") PySem.F.excBase_LookupError ⟨by decide +kernel, by decide +kernel, by decide +kernel⟩ key_store X G rfl (exB3_x c.ex (i := 13) rfl rfl) F (scopeOk_of (d := ⟨"__init__", "__init__", ["self", "out"], ["self", "out"], []⟩) (by decide +kernel)) (by decide +kernel) (by decide +kernel) (by decide +kernel) (by decide +kernel) (fun _ _ _ _ _ _ _ _ => rfl) (fun _ _ _ _ _ _ _ _ => rfl)
theorem xg_NotGiven (X : K.In h) (G : h.Ns mainGlobals mg) (c : SaysE faL fnL (exB3 impL conL tabL xcL ycL) tabL w K) : ExG P w K mg base 2 x_NotGiven := by
  obtain ⟨fd, F⟩ := c.d.def_ 27 (d := defI x_NotGiven "NotGiven.__init__" (topS 15)) rfl
  exact exg_of (c := x_NotGiven) (slf := "self") (par := "name") PySem.F.excBase_LookupError ⟨by decide +kernel, by decide +kernel, by decide +kernel⟩ key_store X G rfl (exB3_x c.ex (i := 14) rfl rfl) F (scopeOk_of (d := ⟨"__init__", "__init__", ["self", "name"], ["self", "name"], []⟩) (by decide +kernel)) (by decide +kernel) (by decide +kernel) (by decide +kernel) (by decide +kernel) (fun _ _ _ _ _ _ _ _ => rfl) (fun _ _ _ _ _ _ _ _ => rfl)
theorem xg_NoPath (X : K.In h) (G : h.Ns mainGlobals mg) (c : SaysE faL fnL (exB3 impL conL tabL xcL ycL) tabL w K) : ExG P w K mg base 2 x_NoPath := by
  obtain ⟨fd, F⟩ := c.d.def_ 28 (d := defI x_NoPath "NoPath.__init__" (topS 16)) rfl
  exact exg_of (c := x_NoPath) (slf := "self") (par := "path") PySem.F.excBase_LookupError ⟨by decide +kernel, by decide +kernel, by decide +kernel⟩ PySem.F.store_LookupError X G rfl (exB3_x c.ex (i := 15) rfl rfl) F (scopeOk_of (d := ⟨"__init__", "__init__", ["self", "path"], ["self", "path"], []⟩) (by decide +kernel)) (by decide +kernel) (by decide +kernel) (by decide +kernel) (by decide +kernel) (fun _ _ _ _ _ _ _ _ => rfl) (fun _ _ _ _ _ _ _ _ => rfl)
theorem xg_Dry (X : K.In h) (G : h.Ns mainGlobals mg) (c : SaysE faL fnL (exB3 impL conL tabL xcL ycL) tabL w K) : ExG P w K mg base 2 x_Dry := by
  obtain ⟨fd, F⟩ := c.d.def_ 29 (d := defI x_Dry "Dry.__init__" (topS 17)) rfl
  exact exg_of (c := x_Dry) (slf := "self") (par := "name") PySem.F.excBase_LookupError ⟨by decide +kernel, by decide +kernel, by decide +kernel⟩ PySem.F.store_LookupError X G rfl (exB3_x c.ex (i := 16) rfl rfl) F (scopeOk_of (d := ⟨"__init__", "__init__", ["self", "name"], ["self", "name"], []⟩) (by decide +kernel)) (by decide +kernel) (by decide +kernel) (by decide +kernel) (by decide +kernel) (fun _ _ _ _ _ _ _ _ => rfl) (fun _ _ _ _ _ _ _ _ => rfl)
theorem xg_NotNow (X : K.In h) (G : h.Ns mainGlobals mg) (c : SaysE faL fnL (exB3 impL conL tabL xcL ycL) tabL w K) : ExG P w K mg base 2 x_NotNow := by
  obtain ⟨fd, F⟩ := c.d.def_ 30 (d := defI x_NotNow "NotNow.__init__" (topS 18)) rfl
  exact exg_of (c := x_NotNow) (slf := "self") (par := "at") PySem.F.excBase_RuntimeError ⟨by decide +kernel, by decide +kernel, by decide +kernel⟩ PySem.F.store_RuntimeError X G rfl (exB3_x c.ex (i := 17) rfl rfl) F (scopeOk_of (d := ⟨"__init__", "__init__", ["self", "at"], ["self", "at"], []⟩) (by decide +kernel)) (by decide +kernel) (by decide +kernel) (by decide +kernel) (by decide +kernel) (fun _ _ _ _ _ _ _ _ => rfl) (fun _ _ _ _ _ _ _ _ => rfl)
theorem xg_Used (X : K.In h) (G : h.Ns mainGlobals mg) (c : SaysE faL fnL (exB3 impL conL tabL xcL ycL) tabL w K) : ExG P w K mg base 2 x_Used := by
  obtain ⟨fd, F⟩ := c.d.def_ 31 (d := defI x_Used "Used.__init__" (topS 19)) rfl
  exact exg_of (c := x_Used) (slf := "self") (par := "other") PySem.F.excBase_RuntimeError ⟨by decide +kernel, by decide +kernel, by decide +kernel⟩ PySem.F.store_RuntimeError X G rfl (exB3_x c.ex (i := 18) rfl rfl) F (scopeOk_of (d := ⟨"__init__", "__init__", ["self", "other"], ["self", "other"], []⟩) (by decide +kernel)) (by decide +kernel) (by decide +kernel) (by decide +kernel) (by decide +kernel) (fun _ _ _ _ _ _ _ _ => rfl) (fun _ _ _ _ _ _ _ _ => rfl)
theorem xg_LastOut (X : K.In h) (G : h.Ns mainGlobals mg) (c : SaysE faL fnL (exB3 impL conL tabL xcL ycL) tabL w K) : ExG P w K mg base 2 x_LastOut := by
  obtain ⟨fd, F⟩ := c.d.def_ 32 (d := defI x_LastOut "LastOut.__init__" (topS 20)) rfl
  exact exg_of (c := x_LastOut) (slf := "self") (par := "name") PySem.F.excBase_RuntimeError ⟨by decide +kernel, by decide +kernel, by decide +kernel⟩ PySem.F.store_RuntimeError X G rfl (exB3_x c.ex (i := 19) rfl rfl) F (scopeOk_of (d := ⟨"__init__", "__init__", ["self", "name"], ["self", "name"], []⟩) (by decide +kernel)) (by decide +kernel) (by decide +kernel) (by decide +kernel) (by decide +kernel) (fun _ _ _ _ _ _ _ _ => rfl) (fun _ _ _ _ _ _ _ _ => rfl)
theorem xg_IsOut (X : K.In h) (G : h.Ns mainGlobals mg) (c : SaysE faL fnL (exB3 impL conL tabL xcL ycL) tabL w K) : ExG P w K mg base 2 x_IsOut := by
  obtain ⟨fd, F⟩ := c.d.def_ 33 (d := defI x_IsOut "IsOut.__init__" (topS 21)) rfl
  exact exg_of (c := x_IsOut) (slf := "self") (par := "name") PySem.F.excBase_RuntimeError ⟨by decide +kernel, by decide +kernel, by decide +kernel⟩ PySem.F.store_RuntimeError X G rfl (exB3_x c.ex (i := 20) rfl rfl) F (scopeOk_of (d := ⟨"__init__", "__init__", ["self", "name"], ["self", "name"], []⟩) (by decide +kernel)) (by decide +kernel) (by decide +kernel) (by decide +kernel) (by decide +kernel) (fun _ _ _ _ _ _ _ _ => rfl) (fun _ _ _ _ _ _ _ _ => rfl)
theorem xg_NotOut (X : K.In h) (G : h.Ns mainGlobals mg) (c : SaysE faL fnL (exB3 impL conL tabL xcL ycL) tabL w K) : ExG P w K mg base 2 x_NotOut := by
  obtain ⟨fd, F⟩ := c.d.def_ 34 (d := defI x_NotOut "NotOut.__init__" (topS 22)) rfl
  exact exg_of (c := x_NotOut) (slf := "self") (par := "name") PySem.F.excBase_RuntimeError ⟨by decide +kernel, by decide +kernel, by decide +kernel⟩ PySem.F.store_RuntimeError X G rfl (exB3_x c.ex (i := 21) rfl rfl) F (scopeOk_of (d := ⟨"__init__", "__init__", ["self", "name"], ["self", "name"], []⟩) (by decide +kernel)) (by decide +kernel) (by decide +kernel) (by decide +kernel) (by decide +kernel) (fun _ _ _ _ _ _ _ _ => rfl) (fun _ _ _ _ _ _ _ _ => rfl)
theorem xg_Unsure (X : K.In h) (G : h.Ns mainGlobals mg) (c : SaysE faL fnL (exB3 impL conL tabL xcL ycL) tabL w K) : ExG P w K mg base 2 x_Unsure := by
  obtain ⟨fd, F⟩ := c.d.def_ 35 (d := defI x_Unsure "Unsure.__init__" (topS 23)) rfl
  exact exg_of (c := x_Unsure) (slf := "self") (par := "node") PySem.F.excBase_RuntimeError ⟨by decide +kernel, by decide +kernel, by decide +kernel⟩ PySem.F.store_RuntimeError X G rfl (exB3_x c.ex (i := 22) rfl rfl) F (scopeOk_of (d := ⟨"__init__", "__init__", ["self", "node"], ["self", "node"], []⟩) (by decide +kernel)) (by decide +kernel) (by decide +kernel) (by decide +kernel) (by decide +kernel) (fun _ _ _ _ _ _ _ _ => rfl) (fun _ _ _ _ _ _ _ _ => rfl)
theorem xg_TooFar (X : K.In h) (G : h.Ns mainGlobals mg) (c : SaysE faL fnL (exB3 impL conL tabL xcL ycL) tabL w K) : ExG P w K mg base 2 x_TooFar := by
  obtain ⟨fd, F⟩ := c.d.def_ 36 (d := defI x_TooFar "TooFar.__init__" (topS 24)) rfl
  exact exg_of (c := x_TooFar) (slf := "self") (par := "place") PySem.F.excBase_OverflowError ⟨by decide +kernel, by decide +kernel, by decide +kernel⟩ PySem.F.store_OverflowError X G rfl (exB3_x c.ex (i := 23) rfl rfl) F (scopeOk_of (d := ⟨"__init__", "__init__", ["self", "place"], ["self", "place"], []⟩) (by decide +kernel)) (by decide +kernel) (by decide +kernel) (by decide +kernel) (by decide +kernel) (fun _ _ _ _ _ _ _ _ => rfl) (fun _ _ _ _ _ _ _ _ => rfl)
theorem xg_TooFew (X : K.In h) (G : h.Ns mainGlobals mg) (c : SaysE faL fnL (exB3 impL conL tabL xcL ycL) tabL w K) : ExG P w K mg base 2 x_TooFew := by
  obtain ⟨fd, F⟩ := c.d.def_ 37 (d := defI x_TooFew "TooFew.__init__" (topS 25)) rfl
  exact exg_of (c := x_TooFew) (slf := "self") (par := "need") PySem.F.excBase_OverflowError ⟨by decide +kernel, by decide +kernel, by decide +kernel⟩ PySem.F.store_OverflowError X G rfl (exB3_x c.ex (i := 24) rfl rfl) F (scopeOk_of (d := ⟨"__init__", "__init__", ["self", "need"], ["self", "need"], []⟩) (by decide +kernel)) (by decide +kernel) (by decide +kernel) (by decide +kernel) (by decide +kernel) (fun _ _ _ _ _ _ _ _ => rfl) (fun _ _ _ _ _ _ _ _ => rfl)
theorem xg_Small (X : K.In h) (G : h.Ns mainGlobals mg) (c : SaysE faL fnL (exB3 impL conL tabL xcL ycL) tabL w K) : ExG P w K mg base 2 x_Small := by
  obtain ⟨fd, F⟩ := c.d.def_ 38 (d := defI x_Small "Small.__init__" (topS 26)) rfl
  exact exg_of (c := x_Small) (slf := "self") (par := "place") PySem.F.excBase_OverflowError ⟨by decide +kernel, by decide +kernel, by decide +kernel⟩ PySem.F.store_OverflowError X G rfl (exB3_x c.ex (i := 25) rfl rfl) F (scopeOk_of (d := ⟨"__init__", "__init__", ["self", "place"], ["self", "place"], []⟩) (by decide +kernel)) (by decide +kernel) (by decide +kernel) (by decide +kernel) (by decide +kernel) (fun _ _ _ _ _ _ _ _ => rfl) (fun _ _ _ _ _ _ _ _ => rfl)
theorem xg_TooMany (X : K.In h) (G : h.Ns mainGlobals mg) (c : SaysE faL fnL (exB3 impL conL tabL xcL ycL) tabL w K) : ExG P w K mg base 2 x_TooMany := by
  obtain ⟨fd, F⟩ := c.d.def_ 39 (d := defI x_TooMany "TooMany.__init__" (topS 27)) rfl
  exact exg_of (c := x_TooMany) (slf := "self") (par := "most") PySem.F.excBase_OverflowError ⟨by decide +kernel, by decide +kernel, by decide +kernel⟩ PySem.F.store_OverflowError X G rfl (exB3_x c.ex (i := 26) rfl rfl) F (scopeOk_of (d := ⟨"__init__", "__init__", ["self", "most"], ["self", "most"], []⟩) (by decide +kernel)) (by decide +kernel) (by decide +kernel) (by decide +kernel) (by decide +kernel) (fun _ _ _ _ _ _ _ _ => rfl) (fun _ _ _ _ _ _ _ _ => rfl)
theorem xg_TooBig (X : K.In h) (G : h.Ns mainGlobals mg) (c : SaysE faL fnL (exB3 impL conL tabL xcL ycL) tabL w K) : ExG P w K mg base 2 x_TooBig := by
  exact exg0_of PySem.F.excBase_OverflowError X G rfl (exB3_x0 c.ex (i := 27) rfl rfl)
theorem gg_l_dip (X : K.In h) (G : h.Ns mainGlobals mg) (c : SaysE faL fnL (exB3 impL conL tabL xcL ycL) tabL w K)  : Glob P w K mg base 1 f_l_dip := by
  obtain ⟨fd, F⟩ := c.d.def_ 0 (d := defD d_l_dip (topS 37) [] []) rfl
  exact glob_of (d := d_l_dip) (st := topS 37) (m := m_l_dip) (blt := blt_l_dip) (imp := imp_l_dip) (con := con_l_dip) (fns := fns_l_dip) _ F s_l_dip (bl_cons (He.free_ok X G (c.d.fact 13 rfl)) (bl_cons (He.free_ok X G (c.d.fact 18 rfl)) (bl_cons (He.free_ok X G (c.d.fact 20 rfl)) bl_nil))) im_nil co_nil gl_nil c_l_dip (He.glo_ok X G (c.d.fact 0 rfl)) (pt_cons (pat_plain F rfl (fun _ _ _ _ _ _ us ws h1 h2 => match us, ws, h1, h2 with | [_, _], [], _, _ => rfl) rfl rfl) pt_nil) _ _
theorem gg_l_take (X : K.In h) (G : h.Ns mainGlobals mg) (c : SaysE faL fnL (exB3 impL conL tabL xcL ycL) tabL w K)  : Glob P w K mg base 1 f_l_take := by
  obtain ⟨fd, F⟩ := c.d.def_ 1 (d := defD d_l_take (topS 38) [] []) rfl
  exact glob_of (d := d_l_take) (st := topS 38) (m := m_l_take) (blt := blt_l_take) (imp := imp_l_take) (con := con_l_take) (fns := fns_l_take) _ F s_l_take bl_nil im_nil co_nil gl_nil c_l_take (He.glo_ok X G (c.d.fact 1 rfl)) (pt_cons (pat_plain F rfl (fun _ _ _ _ _ _ us ws h1 h2 => match us, ws, h1, h2 with | [_, _], [], _, _ => rfl) rfl rfl) pt_nil) _ _
theorem gg_l_folded (X : K.In h) (G : h.Ns mainGlobals mg) (c : SaysE faL fnL (exB3 impL conL tabL xcL ycL) tabL w K)  : Glob P w K mg base 1 f_l_folded := by
  obtain ⟨fd, F⟩ := c.d.def_ 2 (d := defD d_l_folded (topS 39) [] []) rfl
  exact glob_of (d := d_l_folded) (st := topS 39) (m := m_l_folded) (blt := blt_l_folded) (imp := imp_l_folded) (con := con_l_folded) (fns := fns_l_folded) _ F s_l_folded (bl_cons (He.free_ok X G (c.d.fact 17 rfl)) (bl_cons (He.free_ok X G (c.d.fact 21 rfl)) bl_nil)) im_nil co_nil gl_nil c_l_folded (He.glo_ok X G (c.d.fact 2 rfl)) (pt_cons (pat_plain F rfl (fun _ _ _ _ _ _ us ws h1 h2 => match us, ws, h1, h2 with | [_, _], [], _, _ => rfl) rfl rfl) pt_nil) _ _
theorem gr_l_same (X : K.In h) (G : h.Ns mainGlobals mg) (c : SaysE faL fnL (exB3 impL conL tabL xcL ycL) tabL w K)  : ∀ n : Nat, Glob P w K mg base (0 + n) (fI_l_same (fn_l_same n))
  | 0 => by
    obtain ⟨fd, F⟩ := c.d.def_ 3 (d := defD d_l_same (topS 40) [] []) rfl
    exact glob_none (ps := d_l_same.ps) (He.glo_ok X G (c.d.fact 3 rfl)) F.kp rfl (pt_cons (pat_plain F rfl (fun _ _ _ _ _ _ us ws h1 h2 => match us, ws, h1, h2 with | [_, _], [], _, _ => rfl) rfl rfl) pt_nil) _
  | n + 1 => by
    have ih := gr_l_same X G c  n
    obtain ⟨fd, F⟩ := c.d.def_ 3 (d := defD d_l_same (topS 40) [] []) rfl
    exact glob_of (d := d_l_same) (st := topS 40) (m := m_l_same (fn_l_same n)) (blt := blt_l_same) (imp := imp_l_same) (con := con_l_same) (fns := fns_l_same (fn_l_same n)) (k := 0 + n) _ F s_l_same (bl_cons (He.free_ok X G (c.d.fact 14 rfl)) (bl_cons (He.free_ok X G (c.d.fact 15 rfl)) (bl_cons (He.free_ok X G (c.d.fact 16 rfl)) (bl_cons (He.free_ok X G (c.d.fact 18 rfl)) (bl_cons (He.free_ok X G (c.d.fact 19 rfl)) (bl_cons (He.free_ok X G (c.d.fact 20 rfl)) (bl_cons (He.free_ok X G (c.d.fact 21 rfl)) (bl_cons (He.free_ok X G (c.d.fact 23 rfl)) (bl_cons (He.free_ok X G (c.d.fact 24 rfl)) (bl_cons (He.free_ok X G (c.d.fact 25 rfl)) bl_nil)))))))))) im_nil co_nil (gl_cons ih gl_nil) (c_l_same (fn_l_same n)) (He.glo_ok X G (c.d.fact 3 rfl)) (pt_cons (pat_plain F rfl (fun _ _ _ _ _ _ us ws h1 h2 => match us, ws, h1, h2 with | [_, _], [], _, _ => rfl) rfl rfl) pt_nil) _ _
theorem gg_l_same (X : K.In h) (G : h.Ns mainGlobals mg) (c : SaysE faL fnL (exB3 impL conL tabL xcL ycL) tabL w K)  : Glob P w K mg base 41 f_l_same := (gr_l_same X G c  40).mono (by decide)
theorem gg_l_keywords (X : K.In h) (G : h.Ns mainGlobals mg) (c : SaysE faL fnL (exB3 impL conL tabL xcL ycL) tabL w K)  : Glob P w K mg base 1 f_l_keywords := by
  obtain ⟨fd, F⟩ := c.d.def_ 4 (d := defD d_l_keywords (topS 41) [] []) rfl
  exact glob_of (d := d_l_keywords) (st := topS 41) (m := m_l_keywords) (blt := blt_l_keywords) (imp := imp_l_keywords) (con := con_l_keywords) (fns := fns_l_keywords) _ F s_l_keywords bl_nil im_nil co_nil gl_nil c_l_keywords (He.glo_ok X G (c.d.fact 4 rfl)) (pt_cons (pat_plain F rfl (fun _ _ _ _ _ _ us ws h1 h2 => match us, ws, h1, h2 with | [], [], _, _ => rfl) rfl rfl) pt_nil) _ _
theorem gg_l_own (X : K.In h) (G : h.Ns mainGlobals mg) (c : SaysE faL fnL (exB3 impL conL tabL xcL ycL) tabL w K)  : Glob P w K mg base 3 f_l_own := by
  obtain ⟨fd, F⟩ := c.d.def_ 5 (d := defD d_l_own (topS 42) [] []) rfl
  exact glob_ofX (exs := exsL) (cls := clsL) (d := d_l_own) (st := topS 42) (m := m_l_own) (blt := blt_l_own) (imp := imp_l_own) (con := con_l_own) (fns := fns_l_own) _ F s_l_own (bl_cons (He.free_ok X G (c.d.fact 17 rfl)) (bl_cons (He.free_ok X G (c.d.fact 19 rfl)) bl_nil)) im_nil co_nil (ex_cons ((xg_BadText X G c).mono (by decide)) (ex_cons ((xg_BadWord X G c).mono (by decide)) (ex_cons ((xg_BadRow X G c).mono (by decide)) (ex_cons ((xg_BadName X G c).mono (by decide)) (ex_cons ((xg_BadTerm X G c).mono (by decide)) (ex_cons ((xg_BadNumbers X G c).mono (by decide)) (ex_cons ((xg_BadDeed X G c).mono (by decide)) (ex_cons ((xg_Clash X G c).mono (by decide)) (ex_cons ((xg_Loose X G c).mono (by decide)) (ex_cons ((xg_Round X G c).mono (by decide)) (ex_cons ((xg_NoBrook X G c).mono (by decide)) (ex_cons ((xg_NoSpring X G c).mono (by decide)) (ex_cons ((xg_NoName X G c).mono (by decide)) (ex_cons ((xg_NoOut X G c).mono (by decide)) (ex_cons ((xg_NotGiven X G c).mono (by decide)) (ex_cons ((xg_NoPath X G c).mono (by decide)) (ex_cons ((xg_Dry X G c).mono (by decide)) (ex_cons ((xg_NotNow X G c).mono (by decide)) (ex_cons ((xg_Used X G c).mono (by decide)) (ex_cons ((xg_LastOut X G c).mono (by decide)) (ex_cons ((xg_IsOut X G c).mono (by decide)) (ex_cons ((xg_NotOut X G c).mono (by decide)) (ex_cons ((xg_Unsure X G c).mono (by decide)) (ex_cons ((xg_TooFar X G c).mono (by decide)) (ex_cons ((xg_TooFew X G c).mono (by decide)) (ex_cons ((xg_Small X G c).mono (by decide)) (ex_cons ((xg_TooMany X G c).mono (by decide)) (ex_cons ((xg_TooBig X G c).mono (by decide)) ex_nil)))))))))))))))))))))))))))) (cl_cons (clsg_own X G (exB3_y c.ex (i := 0) rfl)) (cl_cons (clsg_own X G (exB3_y c.ex (i := 1) rfl)) (cl_cons (clsg_own X G (exB3_y c.ex (i := 2) rfl)) (cl_cons (clsg_own X G (exB3_y c.ex (i := 3) rfl)) (cl_cons (clsg_own X G (exB3_y c.ex (i := 4) rfl)) (cl_cons (clsg_own X G (exB3_y c.ex (i := 5) rfl)) (cl_cons (clsg_own X G (exB3_y c.ex (i := 6) rfl)) (cl_cons (clsg_own X G (exB3_y c.ex (i := 7) rfl)) (cl_cons (clsg_own X G (exB3_y c.ex (i := 8) rfl)) (cl_cons (clsg_own X G (exB3_y c.ex (i := 9) rfl)) (cl_cons (clsg_own X G (exB3_y c.ex (i := 10) rfl)) (cl_cons (clsg_own X G (exB3_y c.ex (i := 11) rfl)) (cl_cons (clsg_own X G (exB3_y c.ex (i := 12) rfl)) (cl_cons (clsg_own X G (exB3_y c.ex (i := 13) rfl)) (cl_cons (clsg_own X G (exB3_y c.ex (i := 14) rfl)) (cl_cons (clsg_own X G (exB3_y c.ex (i := 15) rfl)) (cl_cons (clsg_own X G (exB3_y c.ex (i := 16) rfl)) (cl_cons (clsg_own X G (exB3_y c.ex (i := 17) rfl)) (cl_cons (clsg_own X G (exB3_y c.ex (i := 18) rfl)) (cl_cons (clsg_own X G (exB3_y c.ex (i := 19) rfl)) (cl_cons (clsg_own X G (exB3_y c.ex (i := 20) rfl)) (cl_cons (clsg_own X G (exB3_y c.ex (i := 21) rfl)) (cl_cons (clsg_own X G (exB3_y c.ex (i := 22) rfl)) (cl_cons (clsg_own X G (exB3_y c.ex (i := 23) rfl)) (cl_cons (clsg_own X G (exB3_y c.ex (i := 24) rfl)) (cl_cons (clsg_own X G (exB3_y c.ex (i := 25) rfl)) (cl_cons (clsg_own X G (exB3_y c.ex (i := 26) rfl)) (cl_cons (clsg_own X G (exB3_y c.ex (i := 27) rfl)) (cl_cons (clsg_blt X G (exB3_y c.ex (i := 28) rfl) rfl (by decide)) (cl_cons (clsg_blt X G (exB3_y c.ex (i := 29) rfl) rfl (by decide)) (cl_cons (clsg_blt X G (exB3_y c.ex (i := 30) rfl) rfl (by decide)) (cl_cons (clsg_blt X G (exB3_y c.ex (i := 31) rfl) rfl (by decide)) (cl_cons (clsg_blt X G (exB3_y c.ex (i := 32) rfl) rfl (by decide)) (cl_cons (clsg_blt X G (exB3_y c.ex (i := 33) rfl) rfl (by decide)) (cl_cons (clsg_blt X G (exB3_y c.ex (i := 34) rfl) rfl (by decide)) (cl_cons (clsg_blt X G (exB3_y c.ex (i := 35) rfl) rfl (by decide)) cl_nil)))))))))))))))))))))))))))))))))))) gl_nil c_l_own (He.glo_ok X G (c.d.fact 5 rfl)) (pt_cons (pat_plain F rfl (fun _ _ _ _ _ _ us ws h1 h2 => match us, ws, h1, h2 with | [_], [], _, _ => rfl) rfl rfl) pt_nil) _ _
theorem gg_l_over (X : K.In h) (G : h.Ns mainGlobals mg) (c : SaysE faL fnL (exB3 impL conL tabL xcL ycL) tabL w K)  : Glob P w K mg base 3 f_l_over := by
  obtain ⟨fd, F⟩ := c.d.def_ 6 (d := defD d_l_over (topS 43) [] []) rfl
  exact glob_ofX (exs := exsL) (cls := clsL) (d := d_l_over) (st := topS 43) (m := m_l_over) (blt := blt_l_over) (imp := imp_l_over) (con := con_l_over) (fns := fns_l_over) _ F s_l_over (bl_cons (He.free_ok X G (c.d.fact 19 rfl)) (bl_cons (He.free_ok X G (c.d.fact 25 rfl)) bl_nil)) im_nil co_nil (ex_cons ((xg_BadText X G c).mono (by decide)) (ex_cons ((xg_BadWord X G c).mono (by decide)) (ex_cons ((xg_BadRow X G c).mono (by decide)) (ex_cons ((xg_BadName X G c).mono (by decide)) (ex_cons ((xg_BadTerm X G c).mono (by decide)) (ex_cons ((xg_BadNumbers X G c).mono (by decide)) (ex_cons ((xg_BadDeed X G c).mono (by decide)) (ex_cons ((xg_Clash X G c).mono (by decide)) (ex_cons ((xg_Loose X G c).mono (by decide)) (ex_cons ((xg_Round X G c).mono (by decide)) (ex_cons ((xg_NoBrook X G c).mono (by decide)) (ex_cons ((xg_NoSpring X G c).mono (by decide)) (ex_cons ((xg_NoName X G c).mono (by decide)) (ex_cons ((xg_NoOut X G c).mono (by decide)) (ex_cons ((xg_NotGiven X G c).mono (by decide)) (ex_cons ((xg_NoPath X G c).mono (by decide)) (ex_cons ((xg_Dry X G c).mono (by decide)) (ex_cons ((xg_NotNow X G c).mono (by decide)) (ex_cons ((xg_Used X G c).mono (by decide)) (ex_cons ((xg_LastOut X G c).mono (by decide)) (ex_cons ((xg_IsOut X G c).mono (by decide)) (ex_cons ((xg_NotOut X G c).mono (by decide)) (ex_cons ((xg_Unsure X G c).mono (by decide)) (ex_cons ((xg_TooFar X G c).mono (by decide)) (ex_cons ((xg_TooFew X G c).mono (by decide)) (ex_cons ((xg_Small X G c).mono (by decide)) (ex_cons ((xg_TooMany X G c).mono (by decide)) (ex_cons ((xg_TooBig X G c).mono (by decide)) ex_nil)))))))))))))))))))))))))))) (cl_cons (clsg_own X G (exB3_y c.ex (i := 0) rfl)) (cl_cons (clsg_own X G (exB3_y c.ex (i := 1) rfl)) (cl_cons (clsg_own X G (exB3_y c.ex (i := 2) rfl)) (cl_cons (clsg_own X G (exB3_y c.ex (i := 3) rfl)) (cl_cons (clsg_own X G (exB3_y c.ex (i := 4) rfl)) (cl_cons (clsg_own X G (exB3_y c.ex (i := 5) rfl)) (cl_cons (clsg_own X G (exB3_y c.ex (i := 6) rfl)) (cl_cons (clsg_own X G (exB3_y c.ex (i := 7) rfl)) (cl_cons (clsg_own X G (exB3_y c.ex (i := 8) rfl)) (cl_cons (clsg_own X G (exB3_y c.ex (i := 9) rfl)) (cl_cons (clsg_own X G (exB3_y c.ex (i := 10) rfl)) (cl_cons (clsg_own X G (exB3_y c.ex (i := 11) rfl)) (cl_cons (clsg_own X G (exB3_y c.ex (i := 12) rfl)) (cl_cons (clsg_own X G (exB3_y c.ex (i := 13) rfl)) (cl_cons (clsg_own X G (exB3_y c.ex (i := 14) rfl)) (cl_cons (clsg_own X G (exB3_y c.ex (i := 15) rfl)) (cl_cons (clsg_own X G (exB3_y c.ex (i := 16) rfl)) (cl_cons (clsg_own X G (exB3_y c.ex (i := 17) rfl)) (cl_cons (clsg_own X G (exB3_y c.ex (i := 18) rfl)) (cl_cons (clsg_own X G (exB3_y c.ex (i := 19) rfl)) (cl_cons (clsg_own X G (exB3_y c.ex (i := 20) rfl)) (cl_cons (clsg_own X G (exB3_y c.ex (i := 21) rfl)) (cl_cons (clsg_own X G (exB3_y c.ex (i := 22) rfl)) (cl_cons (clsg_own X G (exB3_y c.ex (i := 23) rfl)) (cl_cons (clsg_own X G (exB3_y c.ex (i := 24) rfl)) (cl_cons (clsg_own X G (exB3_y c.ex (i := 25) rfl)) (cl_cons (clsg_own X G (exB3_y c.ex (i := 26) rfl)) (cl_cons (clsg_own X G (exB3_y c.ex (i := 27) rfl)) (cl_cons (clsg_blt X G (exB3_y c.ex (i := 28) rfl) rfl (by decide)) (cl_cons (clsg_blt X G (exB3_y c.ex (i := 29) rfl) rfl (by decide)) (cl_cons (clsg_blt X G (exB3_y c.ex (i := 30) rfl) rfl (by decide)) (cl_cons (clsg_blt X G (exB3_y c.ex (i := 31) rfl) rfl (by decide)) (cl_cons (clsg_blt X G (exB3_y c.ex (i := 32) rfl) rfl (by decide)) (cl_cons (clsg_blt X G (exB3_y c.ex (i := 33) rfl) rfl (by decide)) (cl_cons (clsg_blt X G (exB3_y c.ex (i := 34) rfl) rfl (by decide)) (cl_cons (clsg_blt X G (exB3_y c.ex (i := 35) rfl) rfl (by decide)) cl_nil)))))))))))))))))))))))))))))))))))) gl_nil c_l_over (He.glo_ok X G (c.d.fact 6 rfl)) (pt_cons (pat_plain F rfl (fun _ _ _ _ _ _ us ws h1 h2 => match us, ws, h1, h2 with | [_], [], _, _ => rfl) rfl rfl) pt_nil) _ _
theorem gg_l_made (X : K.In h) (G : h.Ns mainGlobals mg) (c : SaysE faL fnL (exB3 impL conL tabL xcL ycL) tabL w K)  : Glob P w K mg base 3 f_l_made := by
  obtain ⟨fd, F⟩ := c.d.def_ 7 (d := defD d_l_made (topS 44) [] []) rfl
  exact glob_ofX (exs := exsL) (cls := clsL) (d := d_l_made) (st := topS 44) (m := m_l_made) (blt := blt_l_made) (imp := imp_l_made) (con := con_l_made) (fns := fns_l_made) _ F s_l_made bl_nil im_nil co_nil (ex_cons ((xg_BadText X G c).mono (by decide)) (ex_cons ((xg_BadWord X G c).mono (by decide)) (ex_cons ((xg_BadRow X G c).mono (by decide)) (ex_cons ((xg_BadName X G c).mono (by decide)) (ex_cons ((xg_BadTerm X G c).mono (by decide)) (ex_cons ((xg_BadNumbers X G c).mono (by decide)) (ex_cons ((xg_BadDeed X G c).mono (by decide)) (ex_cons ((xg_Clash X G c).mono (by decide)) (ex_cons ((xg_Loose X G c).mono (by decide)) (ex_cons ((xg_Round X G c).mono (by decide)) (ex_cons ((xg_NoBrook X G c).mono (by decide)) (ex_cons ((xg_NoSpring X G c).mono (by decide)) (ex_cons ((xg_NoName X G c).mono (by decide)) (ex_cons ((xg_NoOut X G c).mono (by decide)) (ex_cons ((xg_NotGiven X G c).mono (by decide)) (ex_cons ((xg_NoPath X G c).mono (by decide)) (ex_cons ((xg_Dry X G c).mono (by decide)) (ex_cons ((xg_NotNow X G c).mono (by decide)) (ex_cons ((xg_Used X G c).mono (by decide)) (ex_cons ((xg_LastOut X G c).mono (by decide)) (ex_cons ((xg_IsOut X G c).mono (by decide)) (ex_cons ((xg_NotOut X G c).mono (by decide)) (ex_cons ((xg_Unsure X G c).mono (by decide)) (ex_cons ((xg_TooFar X G c).mono (by decide)) (ex_cons ((xg_TooFew X G c).mono (by decide)) (ex_cons ((xg_Small X G c).mono (by decide)) (ex_cons ((xg_TooMany X G c).mono (by decide)) (ex_cons ((xg_TooBig X G c).mono (by decide)) ex_nil)))))))))))))))))))))))))))) (cl_cons (clsg_own X G (exB3_y c.ex (i := 0) rfl)) (cl_cons (clsg_own X G (exB3_y c.ex (i := 1) rfl)) (cl_cons (clsg_own X G (exB3_y c.ex (i := 2) rfl)) (cl_cons (clsg_own X G (exB3_y c.ex (i := 3) rfl)) (cl_cons (clsg_own X G (exB3_y c.ex (i := 4) rfl)) (cl_cons (clsg_own X G (exB3_y c.ex (i := 5) rfl)) (cl_cons (clsg_own X G (exB3_y c.ex (i := 6) rfl)) (cl_cons (clsg_own X G (exB3_y c.ex (i := 7) rfl)) (cl_cons (clsg_own X G (exB3_y c.ex (i := 8) rfl)) (cl_cons (clsg_own X G (exB3_y c.ex (i := 9) rfl)) (cl_cons (clsg_own X G (exB3_y c.ex (i := 10) rfl)) (cl_cons (clsg_own X G (exB3_y c.ex (i := 11) rfl)) (cl_cons (clsg_own X G (exB3_y c.ex (i := 12) rfl)) (cl_cons (clsg_own X G (exB3_y c.ex (i := 13) rfl)) (cl_cons (clsg_own X G (exB3_y c.ex (i := 14) rfl)) (cl_cons (clsg_own X G (exB3_y c.ex (i := 15) rfl)) (cl_cons (clsg_own X G (exB3_y c.ex (i := 16) rfl)) (cl_cons (clsg_own X G (exB3_y c.ex (i := 17) rfl)) (cl_cons (clsg_own X G (exB3_y c.ex (i := 18) rfl)) (cl_cons (clsg_own X G (exB3_y c.ex (i := 19) rfl)) (cl_cons (clsg_own X G (exB3_y c.ex (i := 20) rfl)) (cl_cons (clsg_own X G (exB3_y c.ex (i := 21) rfl)) (cl_cons (clsg_own X G (exB3_y c.ex (i := 22) rfl)) (cl_cons (clsg_own X G (exB3_y c.ex (i := 23) rfl)) (cl_cons (clsg_own X G (exB3_y c.ex (i := 24) rfl)) (cl_cons (clsg_own X G (exB3_y c.ex (i := 25) rfl)) (cl_cons (clsg_own X G (exB3_y c.ex (i := 26) rfl)) (cl_cons (clsg_own X G (exB3_y c.ex (i := 27) rfl)) (cl_cons (clsg_blt X G (exB3_y c.ex (i := 28) rfl) rfl (by decide)) (cl_cons (clsg_blt X G (exB3_y c.ex (i := 29) rfl) rfl (by decide)) (cl_cons (clsg_blt X G (exB3_y c.ex (i := 30) rfl) rfl (by decide)) (cl_cons (clsg_blt X G (exB3_y c.ex (i := 31) rfl) rfl (by decide)) (cl_cons (clsg_blt X G (exB3_y c.ex (i := 32) rfl) rfl (by decide)) (cl_cons (clsg_blt X G (exB3_y c.ex (i := 33) rfl) rfl (by decide)) (cl_cons (clsg_blt X G (exB3_y c.ex (i := 34) rfl) rfl (by decide)) (cl_cons (clsg_blt X G (exB3_y c.ex (i := 35) rfl) rfl (by decide)) cl_nil)))))))))))))))))))))))))))))))))))) gl_nil c_l_made (He.glo_ok X G (c.d.fact 7 rfl)) (pt_cons (pat_plain F rfl (fun _ _ _ _ _ _ us ws h1 h2 => match us, ws, h1, h2 with | [_], [], _, _ => rfl) rfl rfl) pt_nil) _ _
theorem gg_l_called (X : K.In h) (G : h.Ns mainGlobals mg) (c : SaysE faL fnL (exB3 impL conL tabL xcL ycL) tabL w K)  : Glob P w K mg base 3 f_l_called := by
  obtain ⟨fd, F⟩ := c.d.def_ 8 (d := defD d_l_called (topS 45) [] []) rfl
  exact glob_ofX (exs := exsL) (cls := clsL) (d := d_l_called) (st := topS 45) (m := m_l_called) (blt := blt_l_called) (imp := imp_l_called) (con := con_l_called) (fns := fns_l_called) _ F s_l_called bl_nil im_nil co_nil (ex_cons ((xg_BadText X G c).mono (by decide)) (ex_cons ((xg_BadWord X G c).mono (by decide)) (ex_cons ((xg_BadRow X G c).mono (by decide)) (ex_cons ((xg_BadName X G c).mono (by decide)) (ex_cons ((xg_BadTerm X G c).mono (by decide)) (ex_cons ((xg_BadNumbers X G c).mono (by decide)) (ex_cons ((xg_BadDeed X G c).mono (by decide)) (ex_cons ((xg_Clash X G c).mono (by decide)) (ex_cons ((xg_Loose X G c).mono (by decide)) (ex_cons ((xg_Round X G c).mono (by decide)) (ex_cons ((xg_NoBrook X G c).mono (by decide)) (ex_cons ((xg_NoSpring X G c).mono (by decide)) (ex_cons ((xg_NoName X G c).mono (by decide)) (ex_cons ((xg_NoOut X G c).mono (by decide)) (ex_cons ((xg_NotGiven X G c).mono (by decide)) (ex_cons ((xg_NoPath X G c).mono (by decide)) (ex_cons ((xg_Dry X G c).mono (by decide)) (ex_cons ((xg_NotNow X G c).mono (by decide)) (ex_cons ((xg_Used X G c).mono (by decide)) (ex_cons ((xg_LastOut X G c).mono (by decide)) (ex_cons ((xg_IsOut X G c).mono (by decide)) (ex_cons ((xg_NotOut X G c).mono (by decide)) (ex_cons ((xg_Unsure X G c).mono (by decide)) (ex_cons ((xg_TooFar X G c).mono (by decide)) (ex_cons ((xg_TooFew X G c).mono (by decide)) (ex_cons ((xg_Small X G c).mono (by decide)) (ex_cons ((xg_TooMany X G c).mono (by decide)) (ex_cons ((xg_TooBig X G c).mono (by decide)) ex_nil)))))))))))))))))))))))))))) (cl_cons (clsg_own X G (exB3_y c.ex (i := 0) rfl)) (cl_cons (clsg_own X G (exB3_y c.ex (i := 1) rfl)) (cl_cons (clsg_own X G (exB3_y c.ex (i := 2) rfl)) (cl_cons (clsg_own X G (exB3_y c.ex (i := 3) rfl)) (cl_cons (clsg_own X G (exB3_y c.ex (i := 4) rfl)) (cl_cons (clsg_own X G (exB3_y c.ex (i := 5) rfl)) (cl_cons (clsg_own X G (exB3_y c.ex (i := 6) rfl)) (cl_cons (clsg_own X G (exB3_y c.ex (i := 7) rfl)) (cl_cons (clsg_own X G (exB3_y c.ex (i := 8) rfl)) (cl_cons (clsg_own X G (exB3_y c.ex (i := 9) rfl)) (cl_cons (clsg_own X G (exB3_y c.ex (i := 10) rfl)) (cl_cons (clsg_own X G (exB3_y c.ex (i := 11) rfl)) (cl_cons (clsg_own X G (exB3_y c.ex (i := 12) rfl)) (cl_cons (clsg_own X G (exB3_y c.ex (i := 13) rfl)) (cl_cons (clsg_own X G (exB3_y c.ex (i := 14) rfl)) (cl_cons (clsg_own X G (exB3_y c.ex (i := 15) rfl)) (cl_cons (clsg_own X G (exB3_y c.ex (i := 16) rfl)) (cl_cons (clsg_own X G (exB3_y c.ex (i := 17) rfl)) (cl_cons (clsg_own X G (exB3_y c.ex (i := 18) rfl)) (cl_cons (clsg_own X G (exB3_y c.ex (i := 19) rfl)) (cl_cons (clsg_own X G (exB3_y c.ex (i := 20) rfl)) (cl_cons (clsg_own X G (exB3_y c.ex (i := 21) rfl)) (cl_cons (clsg_own X G (exB3_y c.ex (i := 22) rfl)) (cl_cons (clsg_own X G (exB3_y c.ex (i := 23) rfl)) (cl_cons (clsg_own X G (exB3_y c.ex (i := 24) rfl)) (cl_cons (clsg_own X G (exB3_y c.ex (i := 25) rfl)) (cl_cons (clsg_own X G (exB3_y c.ex (i := 26) rfl)) (cl_cons (clsg_own X G (exB3_y c.ex (i := 27) rfl)) (cl_cons (clsg_blt X G (exB3_y c.ex (i := 28) rfl) rfl (by decide)) (cl_cons (clsg_blt X G (exB3_y c.ex (i := 29) rfl) rfl (by decide)) (cl_cons (clsg_blt X G (exB3_y c.ex (i := 30) rfl) rfl (by decide)) (cl_cons (clsg_blt X G (exB3_y c.ex (i := 31) rfl) rfl (by decide)) (cl_cons (clsg_blt X G (exB3_y c.ex (i := 32) rfl) rfl (by decide)) (cl_cons (clsg_blt X G (exB3_y c.ex (i := 33) rfl) rfl (by decide)) (cl_cons (clsg_blt X G (exB3_y c.ex (i := 34) rfl) rfl (by decide)) (cl_cons (clsg_blt X G (exB3_y c.ex (i := 35) rfl) rfl (by decide)) cl_nil)))))))))))))))))))))))))))))))))))) gl_nil c_l_called (He.glo_ok X G (c.d.fact 8 rfl)) (pt_cons (pat_plain F rfl (fun _ _ _ _ _ _ us ws h1 h2 => match us, ws, h1, h2 with | [_], [], _, _ => rfl) rfl rfl) pt_nil) _ _
theorem gg_l_fields (X : K.In h) (G : h.Ns mainGlobals mg) (c : SaysE faL fnL (exB3 impL conL tabL xcL ycL) tabL w K)  : Glob P w K mg base 3 f_l_fields := by
  obtain ⟨fd, F⟩ := c.d.def_ 9 (d := defD d_l_fields (topS 46) [] []) rfl
  exact glob_ofX (exs := exsL) (cls := clsL) (d := d_l_fields) (st := topS 46) (m := m_l_fields) (blt := blt_l_fields) (imp := imp_l_fields) (con := con_l_fields) (fns := fns_l_fields) _ F s_l_fields bl_nil im_nil co_nil (ex_cons ((xg_BadText X G c).mono (by decide)) (ex_cons ((xg_BadWord X G c).mono (by decide)) (ex_cons ((xg_BadRow X G c).mono (by decide)) (ex_cons ((xg_BadName X G c).mono (by decide)) (ex_cons ((xg_BadTerm X G c).mono (by decide)) (ex_cons ((xg_BadNumbers X G c).mono (by decide)) (ex_cons ((xg_BadDeed X G c).mono (by decide)) (ex_cons ((xg_Clash X G c).mono (by decide)) (ex_cons ((xg_Loose X G c).mono (by decide)) (ex_cons ((xg_Round X G c).mono (by decide)) (ex_cons ((xg_NoBrook X G c).mono (by decide)) (ex_cons ((xg_NoSpring X G c).mono (by decide)) (ex_cons ((xg_NoName X G c).mono (by decide)) (ex_cons ((xg_NoOut X G c).mono (by decide)) (ex_cons ((xg_NotGiven X G c).mono (by decide)) (ex_cons ((xg_NoPath X G c).mono (by decide)) (ex_cons ((xg_Dry X G c).mono (by decide)) (ex_cons ((xg_NotNow X G c).mono (by decide)) (ex_cons ((xg_Used X G c).mono (by decide)) (ex_cons ((xg_LastOut X G c).mono (by decide)) (ex_cons ((xg_IsOut X G c).mono (by decide)) (ex_cons ((xg_NotOut X G c).mono (by decide)) (ex_cons ((xg_Unsure X G c).mono (by decide)) (ex_cons ((xg_TooFar X G c).mono (by decide)) (ex_cons ((xg_TooFew X G c).mono (by decide)) (ex_cons ((xg_Small X G c).mono (by decide)) (ex_cons ((xg_TooMany X G c).mono (by decide)) (ex_cons ((xg_TooBig X G c).mono (by decide)) ex_nil)))))))))))))))))))))))))))) (cl_cons (clsg_own X G (exB3_y c.ex (i := 0) rfl)) (cl_cons (clsg_own X G (exB3_y c.ex (i := 1) rfl)) (cl_cons (clsg_own X G (exB3_y c.ex (i := 2) rfl)) (cl_cons (clsg_own X G (exB3_y c.ex (i := 3) rfl)) (cl_cons (clsg_own X G (exB3_y c.ex (i := 4) rfl)) (cl_cons (clsg_own X G (exB3_y c.ex (i := 5) rfl)) (cl_cons (clsg_own X G (exB3_y c.ex (i := 6) rfl)) (cl_cons (clsg_own X G (exB3_y c.ex (i := 7) rfl)) (cl_cons (clsg_own X G (exB3_y c.ex (i := 8) rfl)) (cl_cons (clsg_own X G (exB3_y c.ex (i := 9) rfl)) (cl_cons (clsg_own X G (exB3_y c.ex (i := 10) rfl)) (cl_cons (clsg_own X G (exB3_y c.ex (i := 11) rfl)) (cl_cons (clsg_own X G (exB3_y c.ex (i := 12) rfl)) (cl_cons (clsg_own X G (exB3_y c.ex (i := 13) rfl)) (cl_cons (clsg_own X G (exB3_y c.ex (i := 14) rfl)) (cl_cons (clsg_own X G (exB3_y c.ex (i := 15) rfl)) (cl_cons (clsg_own X G (exB3_y c.ex (i := 16) rfl)) (cl_cons (clsg_own X G (exB3_y c.ex (i := 17) rfl)) (cl_cons (clsg_own X G (exB3_y c.ex (i := 18) rfl)) (cl_cons (clsg_own X G (exB3_y c.ex (i := 19) rfl)) (cl_cons (clsg_own X G (exB3_y c.ex (i := 20) rfl)) (cl_cons (clsg_own X G (exB3_y c.ex (i := 21) rfl)) (cl_cons (clsg_own X G (exB3_y c.ex (i := 22) rfl)) (cl_cons (clsg_own X G (exB3_y c.ex (i := 23) rfl)) (cl_cons (clsg_own X G (exB3_y c.ex (i := 24) rfl)) (cl_cons (clsg_own X G (exB3_y c.ex (i := 25) rfl)) (cl_cons (clsg_own X G (exB3_y c.ex (i := 26) rfl)) (cl_cons (clsg_own X G (exB3_y c.ex (i := 27) rfl)) (cl_cons (clsg_blt X G (exB3_y c.ex (i := 28) rfl) rfl (by decide)) (cl_cons (clsg_blt X G (exB3_y c.ex (i := 29) rfl) rfl (by decide)) (cl_cons (clsg_blt X G (exB3_y c.ex (i := 30) rfl) rfl (by decide)) (cl_cons (clsg_blt X G (exB3_y c.ex (i := 31) rfl) rfl (by decide)) (cl_cons (clsg_blt X G (exB3_y c.ex (i := 32) rfl) rfl (by decide)) (cl_cons (clsg_blt X G (exB3_y c.ex (i := 33) rfl) rfl (by decide)) (cl_cons (clsg_blt X G (exB3_y c.ex (i := 34) rfl) rfl (by decide)) (cl_cons (clsg_blt X G (exB3_y c.ex (i := 35) rfl) rfl (by decide)) cl_nil)))))))))))))))))))))))))))))))))))) gl_nil c_l_fields (He.glo_ok X G (c.d.fact 9 rfl)) (pt_cons (pat_plain F rfl (fun _ _ _ _ _ _ us ws h1 h2 => match us, ws, h1, h2 with | [_], [], _, _ => rfl) rfl rfl) pt_nil) _ _
theorem gg_l_odd (X : K.In h) (G : h.Ns mainGlobals mg) (c : SaysE faL fnL (exB3 impL conL tabL xcL ycL) tabL w K) (g_l_take : Glob P w K mg base 1 f_l_take) : Glob P w K mg base 2 f_l_odd := by
  obtain ⟨fd, F⟩ := c.d.def_ 10 (d := defD d_l_odd (topS 47) [] []) rfl
  exact glob_of (d := d_l_odd) (st := topS 47) (m := m_l_odd) (blt := blt_l_odd) (imp := imp_l_odd) (con := con_l_odd) (fns := fns_l_odd) _ F s_l_odd bl_nil im_nil co_nil (gl_cons (g_l_take.mono (by decide)) gl_nil) c_l_odd (He.glo_ok X G (c.d.fact 10 rfl)) (pt_cons (pat_plain F rfl (fun _ _ _ _ _ _ us ws h1 h2 => match us, ws, h1, h2 with | [_], [], _, _ => rfl) rfl rfl) pt_nil) _ _
theorem gg_l_right (X : K.In h) (G : h.Ns mainGlobals mg) (c : SaysE faL fnL (exB3 impL conL tabL xcL ycL) tabL w K) (g_l_made : Glob P w K mg base 3 f_l_made) (g_l_called : Glob P w K mg base 3 f_l_called) (g_l_same : Glob P w K mg base 41 f_l_same) (g_l_fields : Glob P w K mg base 3 f_l_fields) (g_l_over : Glob P w K mg base 3 f_l_over) (g_l_own : Glob P w K mg base 3 f_l_own) : Glob P w K mg base 42 f_l_right := by
  obtain ⟨fd, F⟩ := c.d.def_ 11 (d := defD d_l_right (topS 48) [] []) rfl
  exact glob_of (d := d_l_right) (st := topS 48) (m := m_l_right) (blt := blt_l_right) (imp := imp_l_right) (con := con_l_right) (fns := fns_l_right) _ F s_l_right (bl_cons (He.free_ok X G (c.d.fact 22 rfl)) bl_nil) im_nil co_nil (gl_cons (g_l_made.mono (by decide)) (gl_cons (g_l_called.mono (by decide)) (gl_cons (g_l_same.mono (by decide)) (gl_cons (g_l_fields.mono (by decide)) (gl_cons (g_l_over.mono (by decide)) (gl_cons (g_l_own.mono (by decide)) gl_nil)))))) c_l_right (He.glo_ok X G (c.d.fact 11 rfl)) (pt_cons (pat_plain F rfl (fun _ _ _ _ _ _ us ws h1 h2 => match us, ws, h1, h2 with | [_], [], _, _ => rfl) rfl rfl) pt_nil) _ _
theorem ok_law (X : K.In h) (G : h.Ns mainGlobals mg) (c : SaysE faL fnL (exB3 impL conL tabL xcL ycL) tabL w K) {fa : Addr} (hfa : mg "law" = some (.ref fa)) : ∃ fd : FuncData, (∀ (s : Shared) (v : Value), BindsTo s fd ⟨[v], []⟩ [("_law_script", v)]) ∧ ∀ base : Heap, FnG P w K mg base 43 fa fd ["_law_script"] (spOf ⟨K, mg, w⟩ 1 f_law.fn) := by
  obtain ⟨fd, F⟩ := c.d.def_ 12 (d := defD d_law (topS 49) [] []) rfl
  have e := hfa.symm.trans (He.glo_ok X G (c.d.fact 12 (f := .glo "law") rfl))
  cases e
  refine ⟨fd, FunD.bindsA (ps := ["_law_script"]) F (fun _ _ _ _ _ _ us hl => match us, hl with | [_], _ => rfl) |> fun b s v => b s [v] rfl, fun base => ?_⟩
  have g_l_dip := gg_l_dip (P := P) (w := w) (base := base) X G c 
  have g_l_take := gg_l_take (P := P) (w := w) (base := base) X G c 
  have g_l_folded := gg_l_folded (P := P) (w := w) (base := base) X G c 
  have g_l_same := gg_l_same (P := P) (w := w) (base := base) X G c 
  have g_l_keywords := gg_l_keywords (P := P) (w := w) (base := base) X G c 
  have g_l_own := gg_l_own (P := P) (w := w) (base := base) X G c 
  have g_l_over := gg_l_over (P := P) (w := w) (base := base) X G c 
  have g_l_made := gg_l_made (P := P) (w := w) (base := base) X G c 
  have g_l_called := gg_l_called (P := P) (w := w) (base := base) X G c 
  have g_l_fields := gg_l_fields (P := P) (w := w) (base := base) X G c 
  have g_l_odd := gg_l_odd (P := P) (w := w) (base := base) X G c g_l_take
  have g_l_right := gg_l_right (P := P) (w := w) (base := base) X G c g_l_made g_l_called g_l_same g_l_fields g_l_over g_l_own
  exact fnok_of (P := P) (w := w) (base := base) (k := 42) (d := d_law) (st := topS 49) (m := m_law) (blt := blt_law) (imp := imp_law) (con := con_law) (fns := fns_law) F s_law (bl_cons (He.free_ok X G (c.d.fact 14 rfl)) (bl_cons (He.free_ok X G (c.d.fact 20 rfl)) (bl_cons (He.free_ok X G (c.d.fact 22 rfl)) (bl_cons (He.free_ok X G (c.d.fact 24 rfl)) bl_nil)))) im_nil (co_cons (co_at (exB_con (exB3_b c.ex)) X G 0 rfl) (co_cons (co_at (exB_con (exB3_b c.ex)) X G 1 rfl) (co_cons (co_at (exB_con (exB3_b c.ex)) X G 2 rfl) (co_cons (co_at (exB_con (exB3_b c.ex)) X G 3 rfl) (co_cons (co_at (exB_con (exB3_b c.ex)) X G 4 rfl) (co_cons (co_at (exB_con (exB3_b c.ex)) X G 5 rfl) (co_cons (co_at (exB_con (exB3_b c.ex)) X G 6 rfl) co_nil))))))) (gl_cons (g_l_same.mono (by decide)) (gl_cons (g_l_keywords.mono (by decide)) (gl_cons (g_l_right.mono (by decide)) (gl_cons (g_l_odd.mono (by decide)) (gl_cons (g_l_dip.mono (by decide)) (gl_cons (g_l_folded.mono (by decide)) gl_nil)))))) c_law 5
end
end Ev

set_option Elab.async false
set_option linter.all false
set_option maxRecDepth 100000
namespace Ev
open PySem PySem.Spec PyProof.Rows L2
theorem lessD_i (i j : Int) : lessD (.int i) (.int j) = some (.d (.bl (decide (i < j)))) := id rfl
theorem lesseqD_i (i j : Int) : lesseqD (.int i) (.int j) = some (.d (.bl (decide (i ≤ j)))) := id rfl
theorem moreD_i (i j : Int) : moreD (.int i) (.int j) = some (.d (.bl (decide (i > j)))) := id rfl
theorem moreeqD_i (i j : Int) : moreeqD (.int i) (.int j) = some (.d (.bl (decide (i ≥ j)))) := id rfl
/-- the box of draws: what is left of a great number, the seed, how many draws -/
def Bx (b : List D) (n : Int) : Prop := ∃ a s c : Int, b = [.int a, .int s, .int c] ∧ 0 ≤ a ∧ 0 ≤ s ∧ s < 2 ^ 62 ∧ 0 ≤ c ∧ c ≤ n
theorem Bx.mono {b : List D} {n m : Int} (h : Bx b n) (k : n ≤ m) : Bx b m := by
  obtain ⟨a, s, c, e, h1, h2, h3, h4, h5⟩ := h
  exact ⟨a, s, c, e, h1, h2, h3, h4, by omega⟩
theorem ixN_nat {n : Nat} {i : Int} {j : Nat} (h : i = (j : Int)) (hj : j < n) : ixN n i = some j := by
  subst h; unfold ixN; rw [if_pos (by omega), if_pos (by omega)]; simp
theorem mulC_r {i j : Int} (h : j.natAbs < 2 ^ 64) : mulC i j = true := by unfold mulC; simp only [Bool.or_eq_true, decide_eq_true_eq]; exact .inl (.inr h)
theorem mulC_l {i j : Int} (h : i.natAbs < 2 ^ 64) : mulC i j = true := by unfold mulC; simp only [Bool.or_eq_true, decide_eq_true_eq]; exact .inl (.inl h)
theorem fdivC_of {i j : Int} (h : 0 < j) (h2 : j < 2 ^ 200) : fdivC i j = true := by
  unfold fdivC
  exact decide_eq_true ⟨h, Nat.lt_of_lt_of_le (PySem.Flt.log2_lt_of (k := 200) (by decide) (by omega)) (by decide)⟩
theorem powC_of {i j : Int} {k : Nat} (h0 : 0 ≤ j) (h : i.natAbs < 2 ^ k) (hk : (k : Int) * j ≤ 2 ^ 27) : powC i j = true := by
  unfold powC
  refine decide_eq_true ⟨h0, ?_⟩
  have := PyProof.Rows.intBits_le h
  exact Int.le_trans (Int.mul_le_mul_of_nonneg_right (by omega) h0) hk
theorem take_spec {b : List D} {n m : Int} (h : Bx b n) (hn : n ≤ 2 ^ 40) (hm : 0 < m) (hm2 : m < 2 ^ 64) (cs : List (List D)) :
    ∃ r b', f_l_take.fn [.own b, .d (.int m), .mem cs] = some (.ok (.d (.int r)) [some (.own b'), some (.d (.int m)), some (.mem cs)]) ∧ Bx b' (n + 1) ∧ 0 ≤ r ∧ r < m := by
  obtain ⟨a, s, c, rfl, h1, h2, h3, h4, h5⟩ := h
  have hd : fdivC a m = true := fdivC_of hm (Int.lt_of_lt_of_le hm2 (by decide))
  by_cases ha : 0 < a
  · refine ⟨a % m, [.int (a / m), .int s, .int c], ?_, ⟨a / m, s, c, rfl, Int.ediv_nonneg h1 (by omega), h2, h3, h4, by omega⟩, Int.emod_nonneg _ (by omega), Int.emod_lt_of_pos _ hm⟩
    unfold f_l_take m_l_take
    simp [thn_ok, thn_err, bindM_a, retM_a, seqK_n, seqK_r, seqK_b, seqK_c, seqM_a, setS_a, putM_d, putM_o, putM_s, slotM_a, opdM_a, opdK_d, opdK_s, opdK_o, datM_a, datK_d, datK_s, datK_o, resM_a, resK_d, resK_s, resK_o, retS_a, argsM_n, argsM_c, opsM_n, opsM_c, tupM_a, lstM_a, liftOp_a, app2_s, op2_a, app1_s, op1_a, appN_s, opN_a, iteK_t, iteK_f, ifS_a, ifM_a, optM_a, blM_a, isBl_b, truK_s, truM_a, notM_a, andM_a, orM_a, andK_t, andK_f, andV_a, orK_f, orK_t, orV_a, notK_s, notV_a, cD_a, dropM_a, agsM_n, agsM_v, agsM_r, callG_a, callK_s, callRet_s, callFin, callEnd_a, setIx_a, ownM_a, meth_a, nextK_s, asgK_n, asgK_t, asgM_a, parM_a, forS_a, rngM_a, enumM_a, zipK_tt, zipK_ll, zipM_a, srcM_a, slM_a, partM_n, partM_s, itM_a, bodyFn_a, bodyGo_m, bodyK_r, bodyK_n, bodyEnd, ixM_a, ixK_t, ixK_l, ixK_c, ixK_s, ixK_w, ixK_m, dispM_a, seqD_n, seqD_c, setCell_a, setIxS_a, putAtS_o, chainM_a, chG_s, chK_t, chK_f, putM_w, opdK_w, datK_w, resK_w, subD_i, mulD_i, fdivD_i, modD_i, powD_i, shrD_i, andD_i, partsM_n, partsM_c, keepM_a, keepK_o, keepK_d, keepK_s, keepK_w, parS_a, setAll_c, setAll_n, sumLM_a, enumTM_a, enumL1_t, enumL1_l, raiseM_a, raisM_a, callRet_e, bodyK_e, tryE_t, tryE_f, tryK_o, tryK_e, tryM_a, runX_n, runX_c, callL_a, lendRet2_s, lendRet_s, lendK_s, lendEnd_a, D.flat, Op.val, Op.toR, S.toR, vals, ssOf, slotsIn, ndp, putBack, pick, lentIs, outs, asgT, asgTs, D.tru, addD, lessD_i, lesseqD_i, moreD_i, moreeqD_i, ixD, lenD, absD, intF, maxF, minF, gcdD, listF, D.seqT, D.seqL, eqD_int', neD_int, isD_ty, nisD_ty, typeF_a, tyn_non, tyn_bl, tyn_int, tyn_str, tyn_tup, tyn_lst, negD, bitsD, atI, ixN, ha, hd, hm]
  · have hp : powC (s + 39373 * (c + 1)) 5 = true := powC_of (k := 63) (by decide) (by omega) (by decide)
    have h39 : mulC 39373 (c + 1) = true := mulC_l (by decide)
    obtain ⟨o, ho⟩ : ∃ o, o = (s + 39373 * (c + 1)) ^ 5 % 2147483647 := ⟨_, rfl⟩
    have o0 : 0 ≤ o := by rw [ho]; exact Int.emod_nonneg _ (by decide)
    have o1 : o < 2147483647 := by rw [ho]; exact Int.emod_lt_of_pos _ (by decide)
    have hq : fdivC s 1000003 = true := fdivC_of (by decide) (by decide)
    have hm1 : mulC (o + (c + 1) + s / 1000003) (o % 40009 + 7 + (c + 1)) = true := mulC_r (by omega)
    obtain ⟨p, hp2⟩ : ∃ p, p = (o + (c + 1) + s / 1000003) * (o % 40009 + 7 + (c + 1)) % 2147483629 := ⟨_, rfl⟩
    have h48 : mulC p 48271 = true := mulC_r (by decide)
    have h64 : fdivC ((p * 48271 + o) % 2147483587) 64 = true := fdivC_of (by decide) (by decide)
    refine ⟨(p * 48271 + o) % 2147483587 / 64 % m, [.int a, .int s, .int (c + 1)], ?_, ⟨a, s, c + 1, rfl, h1, h2, h3, by omega, by omega⟩, Int.emod_nonneg _ (by omega), Int.emod_lt_of_pos _ hm⟩
    unfold f_l_take m_l_take
    simp [thn_ok, thn_err, bindM_a, retM_a, seqK_n, seqK_r, seqK_b, seqK_c, seqM_a, setS_a, putM_d, putM_o, putM_s, slotM_a, opdM_a, opdK_d, opdK_s, opdK_o, datM_a, datK_d, datK_s, datK_o, resM_a, resK_d, resK_s, resK_o, retS_a, argsM_n, argsM_c, opsM_n, opsM_c, tupM_a, lstM_a, liftOp_a, app2_s, op2_a, app1_s, op1_a, appN_s, opN_a, iteK_t, iteK_f, ifS_a, ifM_a, optM_a, blM_a, isBl_b, truK_s, truM_a, notM_a, andM_a, orM_a, andK_t, andK_f, andV_a, orK_f, orK_t, orV_a, notK_s, notV_a, cD_a, dropM_a, agsM_n, agsM_v, agsM_r, callG_a, callK_s, callRet_s, callFin, callEnd_a, setIx_a, ownM_a, meth_a, nextK_s, asgK_n, asgK_t, asgM_a, parM_a, forS_a, rngM_a, enumM_a, zipK_tt, zipK_ll, zipM_a, srcM_a, slM_a, partM_n, partM_s, itM_a, bodyFn_a, bodyGo_m, bodyK_r, bodyK_n, bodyEnd, ixM_a, ixK_t, ixK_l, ixK_c, ixK_s, ixK_w, ixK_m, dispM_a, seqD_n, seqD_c, setCell_a, setIxS_a, putAtS_o, chainM_a, chG_s, chK_t, chK_f, putM_w, opdK_w, datK_w, resK_w, subD_i, mulD_i, fdivD_i, modD_i, powD_i, shrD_i, andD_i, partsM_n, partsM_c, keepM_a, keepK_o, keepK_d, keepK_s, keepK_w, parS_a, setAll_c, setAll_n, sumLM_a, enumTM_a, enumL1_t, enumL1_l, raiseM_a, raisM_a, callRet_e, bodyK_e, tryE_t, tryE_f, tryK_o, tryK_e, tryM_a, runX_n, runX_c, callL_a, lendRet2_s, lendRet_s, lendK_s, lendEnd_a, D.flat, Op.val, Op.toR, S.toR, vals, ssOf, slotsIn, ndp, putBack, pick, lentIs, outs, asgT, asgTs, D.tru, addD, lessD_i, lesseqD_i, moreD_i, moreeqD_i, ixD, lenD, absD, intF, maxF, minF, gcdD, listF, D.seqT, D.seqL, eqD_int', neD_int, isD_ty, nisD_ty, typeF_a, tyn_non, tyn_bl, tyn_int, tyn_str, tyn_tup, tyn_lst, negD, bitsD, atI, ixN, ha, hp, h39, ← ho, hq, hm1, ← hp2, h48, h64, hd, hm]
end Ev

set_option Elab.async false
set_option linter.all false
set_option maxRecDepth 100000
namespace Ev
open PySem PySem.Spec PyProof.Rows L2
/-! ### plain data -/
mutual
def plD : D → Bool
  | .non => true
  | .bl _ => true
  | .int i => decide (i.natAbs < 2 ^ 60)
  | .str x => decide (x.length ≤ 16) && x.cps.toList.all fun c => decide (c < 127)
  | .tup xs => true && plDs xs
  | .lst xs => true && plDs xs
  | .scr _ => false
  | .ty _ => false
  | .cls _ => false
  | .dct _ _ => false
  | .exc _ _ _ => false
  | .loc _ => false
def plDs : List D → Bool
  | [] => true
  | x :: xs => plD x && plDs xs
end
theorem asc_ok {x : Str} (h : (x.cps.toList.all fun c => decide (c < 127)) = true) : PyData.strOk x = true := by
  unfold PyData.strOk
  rw [← Array.all_toList]
  rw [List.all_eq_true] at h ⊢
  intro c hc
  have := h c hc
  simp only [decide_eq_true_eq] at this ⊢
  omega
theorem plDs_at : ∀ {xs : List D} {i : Nat} {x : D}, plDs xs = true → xs[i]? = some x → plD x = true
  | y :: ys, 0, x, h, e => by cases e; rw [plDs, Bool.and_eq_true] at h; exact h.1
  | y :: ys, i + 1, x, h, e => by rw [plDs, Bool.and_eq_true] at h; exact plDs_at h.2 (by simpa using e)
theorem plDs_mem {xs : List D} {x : D} (h : plDs xs = true) (e : x ∈ xs) : plD x = true := by
  obtain ⟨i, hi⟩ := List.getElem?_of_mem e
  exact plDs_at h hi
def isInt : D → Bool
  | .int _ => true
  | _ => false
theorem pl_ty {x : D} (h : plD x = true) : ∃ n, x.tyn = some n ∧ decide (n = "int") = isInt x := by
  cases x <;> first | (exact ⟨_, rfl, rfl⟩) | (exact ⟨_, rfl, by decide⟩) | (simp [plD] at h)
/-- a number in lowest terms -/
def numB : D → Bool
  | .tup [.int n, .int p] => decide (1 ≤ p) && decide (Builtin.bitAnd p (p - 1) = 0) && (decide (p = 1) || decide (Builtin.bitAnd n 1 = 1))
  | _ => false
end Ev

set_option Elab.async false
set_option linter.all false
set_option maxRecDepth 100000
namespace Ev
open PySem PySem.Spec PyProof.Rows L2
def withinB (x : D) (w q : Int) : Bool := numB x && match x with
  | .tup [.int n, .int p] => decide (p ≤ q) && decide ((n.natAbs : Int) ≤ w * p)
  | _ => false
theorem numB_is {x : D} (h : numB x = true) : ∃ n p, x = .tup [.int n, .int p] ∧ 1 ≤ p := by
  unfold numB at h
  split at h
  · rename_i n p
    simp only [Bool.and_eq_true, decide_eq_true_eq] at h
    exact ⟨n, p, rfl, h.1.1⟩
  · cases h
/-- a comprehension that reckons item by item -/
theorem compGo_map {vs : List Nat} {T : Tg} {te : M D} {δ : Dl} (f : D → D) : ∀ (ds acc : List D), acc.length + ds.length ≤ sizeLine → (∀ d ∈ ds, ∃ δ2, itM T d te (wipeD δ vs) = some (.ok (f d) δ2) ∧ wipeD δ2 vs = wipeD δ vs) →
    compGo vs T (retM true) te ds acc (wipeD δ vs) = some (.ok (acc ++ ds.map f) (wipeD δ vs))
  | [], acc, _, _ => by simp [compGo, retM]
  | d :: ds, acc, hl, st => by
    obtain ⟨δ2, e, hw⟩ := st d (List.mem_cons_self ..)
    rw [List.length_cons] at hl
    unfold itM at e
    unfold compGo
    cases ea : asgT T d (wipeD δ vs) with
    | none => rw [ea] at e; cases e
    | some δ1 =>
      rw [ea] at e
      simp only at e ⊢
      unfold bindM retM
      simp only [if_true]
      rw [e]
      simp only
      have ih := compGo_map (vs := vs) (T := T) (te := te) (δ := δ) f ds (acc ++ [f d]) (by rw [List.length_append]; simp only [List.length_cons, List.length_nil]; omega) (fun x hx => st x (List.mem_cons_of_mem _ hx))
      rw [if_pos (by omega), hw]
      exact ih.trans (by simp)
theorem compM_map {vs : List Nat} {T : Tg} {src : M (List D)} {te : M D} {δ δs : Dl} {ds : List D} (f : D → D) (hs : src δ = some (.ok ds δs)) (hn : noOwn δs vs = true) (hl : ds.length ≤ sizeLine)
    (st : ∀ d ∈ ds, ∃ δ2, itM T d te (wipeD δs vs) = some (.ok (f d) δ2) ∧ wipeD δ2 vs = wipeD δs vs) : compM vs T src (retM true) te δ = some (.ok (.own (ds.map f)) (backD δs (wipeD δs vs) vs)) := by
  unfold compM bindM
  rw [hs]
  simp only [hn, if_true]
  rw [compGo_map f ds [] (by simpa using hl) st]
  simp
theorem bls_map (p : D → Bool) : ∀ ds : List D, bls (ds.map fun d => .bl (p d)) = some (ds.map p)
  | [] => rfl
  | d :: ds => by rw [List.map_cons, bls, bls_map p ds]; rfl
theorem all_map (p : D → Bool) (ds : List D) : boolsD (·.all id) [.lst (ds.map fun d => .bl (p d))] = some (.d (.bl (ds.all p))) := by
  unfold boolsD
  simp only [D.seqL, bls_map, Option.map_some]
  rw [List.all_map]; rfl
/-! ### names -/
def KW : List Str := ["fixed", "sum", "less", "by", "pick", "late", "half", "twice", "most", "least", "over", "spring", "brook", "out", "beat"]
def letters (x : Str) : Bool := x.cps.toList.all fun c => decide (97 ≤ c) && decide (c ≤ 122)
def nameB : D → Bool
  | .str x => decide (1 ≤ x.length) && decide (x.length ≤ 6) && (!(KW.any fun k => k == x) && letters x)
  | _ => false
def signB : D → Bool
  | .str x => match x.cps.toList with
    | [c] => decide (97 ≤ c) && decide (c ≤ 122)
    | _ => false
  | _ => false
theorem len_a (i j : Int) : lesseqD (.int i) (.int j) = some (.d (.bl (decide (i ≤ j)))) := id rfl
theorem le_str (a b : Str) : lesseqD (.str a) (.str b) = some (.d (.bl (!decide (b.cps.toList < a.cps.toList)))) := id rfl
theorem one_lt (a b : Nat) : (([a] : List Nat) < [b]) ↔ a < b := by
  rw [List.cons_lt_cons_iff]; simp
theorem cps_a : ("a" : Str).cps.toList = [97] := by decide +kernel
theorem cps_z : ("z" : Str).cps.toList = [122] := by decide +kernel
theorem signs_all (x : Str) : (signsD x).all signB = letters x := by
  unfold signsD letters
  rw [List.all_map]; rfl
theorem sign_body (c : Nat) (s0 : Option S) (cs : List (List D)) : itM (.nm 1) (.str ⟨#[c]⟩) (datM (chainM lesseqD lesseqD (cD (.str "a")) (slotM 1) (cD (.str "z")))) [s0, none, some (.mem cs)] = some (.ok (.bl (signB (.str ⟨#[c]⟩))) [s0, some (.d (.str ⟨#[c]⟩)), some (.mem cs)]) := by
  have e1 : lesseqD (.str "a") (.str ⟨#[c]⟩) = some (.d (.bl (decide (97 ≤ c)))) := by
    rw [le_str, cps_a]
    show some (S.d (D.bl (!decide ([c] < [97])))) = _
    have : (!decide ([c] < [97])) = decide (97 ≤ c) := by
      by_cases h : 97 ≤ c
      · rw [decide_eq_true h, decide_eq_false (by rw [one_lt]; omega)]; rfl
      · rw [decide_eq_false h, decide_eq_true ((one_lt _ _).mpr (by omega))]; rfl
    rw [this]
  have e2 : lesseqD (.str ⟨#[c]⟩) (.str "z") = some (.d (.bl (decide (c ≤ 122)))) := by
    rw [le_str, cps_z]
    show some (S.d (D.bl (!decide ([122] < [c])))) = _
    have : (!decide ([122] < [c])) = decide (c ≤ 122) := by
      by_cases h : c ≤ 122
      · rw [decide_eq_true h, decide_eq_false (by rw [one_lt]; omega)]; rfl
      · rw [decide_eq_false h, decide_eq_true ((one_lt _ _).mpr (by omega))]; rfl
    rw [this]
  by_cases h : 97 ≤ c
  · simp [thn_ok, thn_err, bindM_a, retM_a, seqK_n, seqK_r, seqK_b, seqK_c, seqM_a, setS_a, putM_d, putM_o, putM_s, slotM_a, opdM_a, opdK_d, opdK_s, opdK_o, datM_a, datK_d, datK_s, datK_o, resM_a, resK_d, resK_s, resK_o, retS_a, argsM_n, argsM_c, opsM_n, opsM_c, tupM_a, lstM_a, liftOp_a, app2_s, op2_a, app1_s, op1_a, appN_s, opN_a, iteK_t, iteK_f, ifS_a, ifM_a, optM_a, blM_a, isBl_b, truK_s, truM_a, notM_a, andM_a, orM_a, andK_t, andK_f, andV_a, orK_f, orK_t, orV_a, notK_s, notV_a, cD_a, dropM_a, agsM_n, agsM_v, agsM_r, callG_a, callK_s, callRet_s, callFin, callEnd_a, setIx_a, ownM_a, meth_a, nextK_s, asgK_n, asgK_t, asgM_a, parM_a, forS_a, rngM_a, enumM_a, zipK_tt, zipK_ll, zipM_a, srcM_a, slM_a, partM_n, partM_s, itM_a, bodyFn_a, bodyGo_m, bodyK_r, bodyK_n, bodyEnd, ixM_a, ixK_t, ixK_l, ixK_c, ixK_s, ixK_w, ixK_m, dispM_a, seqD_n, seqD_c, setCell_a, setIxS_a, putAtS_o, chainM_a, chG_s, chK_t, chK_f, putM_w, opdK_w, datK_w, resK_w, subD_i, mulD_i, fdivD_i, modD_i, powD_i, shrD_i, andD_i, partsM_n, partsM_c, keepM_a, keepK_o, keepK_d, keepK_s, keepK_w, parS_a, setAll_c, setAll_n, sumLM_a, enumTM_a, enumL1_t, enumL1_l, raiseM_a, raisM_a, callRet_e, bodyK_e, tryE_t, tryE_f, tryK_o, tryK_e, tryM_a, runX_n, runX_c, callL_a, lendRet2_s, lendRet_s, lendK_s, lendEnd_a, D.flat, Op.val, Op.toR, S.toR, vals, ssOf, slotsIn, ndp, putBack, pick, lentIs, outs, asgT, asgTs, D.tru, addD, lessD_i, lesseqD_i, moreD_i, moreeqD_i, ixD, lenD, absD, intF, maxF, minF, gcdD, listF, D.seqT, D.seqL, eqD_int', neD_int, isD_ty, nisD_ty, typeF_a, tyn_non, tyn_bl, tyn_int, tyn_str, tyn_tup, tyn_lst, negD, bitsD, atI, ixN, e1, e2, h, signB]
  · simp [thn_ok, thn_err, bindM_a, retM_a, seqK_n, seqK_r, seqK_b, seqK_c, seqM_a, setS_a, putM_d, putM_o, putM_s, slotM_a, opdM_a, opdK_d, opdK_s, opdK_o, datM_a, datK_d, datK_s, datK_o, resM_a, resK_d, resK_s, resK_o, retS_a, argsM_n, argsM_c, opsM_n, opsM_c, tupM_a, lstM_a, liftOp_a, app2_s, op2_a, app1_s, op1_a, appN_s, opN_a, iteK_t, iteK_f, ifS_a, ifM_a, optM_a, blM_a, isBl_b, truK_s, truM_a, notM_a, andM_a, orM_a, andK_t, andK_f, andV_a, orK_f, orK_t, orV_a, notK_s, notV_a, cD_a, dropM_a, agsM_n, agsM_v, agsM_r, callG_a, callK_s, callRet_s, callFin, callEnd_a, setIx_a, ownM_a, meth_a, nextK_s, asgK_n, asgK_t, asgM_a, parM_a, forS_a, rngM_a, enumM_a, zipK_tt, zipK_ll, zipM_a, srcM_a, slM_a, partM_n, partM_s, itM_a, bodyFn_a, bodyGo_m, bodyK_r, bodyK_n, bodyEnd, ixM_a, ixK_t, ixK_l, ixK_c, ixK_s, ixK_w, ixK_m, dispM_a, seqD_n, seqD_c, setCell_a, setIxS_a, putAtS_o, chainM_a, chG_s, chK_t, chK_f, putM_w, opdK_w, datK_w, resK_w, subD_i, mulD_i, fdivD_i, modD_i, powD_i, shrD_i, andD_i, partsM_n, partsM_c, keepM_a, keepK_o, keepK_d, keepK_s, keepK_w, parS_a, setAll_c, setAll_n, sumLM_a, enumTM_a, enumL1_t, enumL1_l, raiseM_a, raisM_a, callRet_e, bodyK_e, tryE_t, tryE_f, tryK_o, tryK_e, tryM_a, runX_n, runX_c, callL_a, lendRet2_s, lendRet_s, lendK_s, lendEnd_a, D.flat, Op.val, Op.toR, S.toR, vals, ssOf, slotsIn, ndp, putBack, pick, lentIs, outs, asgT, asgTs, D.tru, addD, lessD_i, lesseqD_i, moreD_i, moreeqD_i, ixD, lenD, absD, intF, maxF, minF, gcdD, listF, D.seqT, D.seqL, eqD_int', neD_int, isD_ty, nisD_ty, typeF_a, tyn_non, tyn_bl, tyn_int, tyn_str, tyn_tup, tyn_lst, negD, bitsD, atI, ixN, e1, h, signB]
end Ev

set_option Elab.async false
set_option linter.all false
set_option maxRecDepth 100000
namespace Ev
open PySem PySem.Spec PyProof.Rows L2
theorem eqD_str {a b : Str} (ha : PyData.strOk a = true) (hb : PyData.strOk b = true) : eqD (.str a) (.str b) = some (.d (.bl (a == b))) := by
  simp [eqD, eqvD, D.pd, SeqAt.shaped, PyData.canLay0, PyData.depth, PyData.eqv, ha, hb]
theorem eqD_str' {a b : Str} {c : Bool} (ha : PyData.strOk a = true) (hb : PyData.strOk b = true) (hc : (a == b) = c) : eqD (.str a) (.str b) = some (.d (.bl c)) := by
  rw [eqD_str ha hb, hc]
def winB : D → Bool
  | .int i => decide (2 ≤ i) && decide (i ≤ 5)
  | _ => false
def kindB (k : Str) (x : D) : Bool := if k = "name" then nameB x else if k = "window" then winB x else withinB x 99 16
def isKind (k : Str) : Prop := k = "name" ∨ k = "window" ∨ k = "number"
/-- what a word asks behind it: kinds of things, how many terms -/
def shapeOf (w : Str) : Option (List Str × Nat) :=
  if ("fixed" : Str) = w then some (["number"], 0) else if ("name" : Str) = w then some (["name"], 0) else if ("sum" : Str) = w then some ([], 2) else if ("less" : Str) = w then some ([], 2) else
  if ("by" : Str) = w then some (["number"], 1) else if ("pick" : Str) = w then some ([], 3) else if ("late" : Str) = w then some (["number"], 1) else if ("half" : Str) = w then some ([], 1) else
  if ("twice" : Str) = w then some ([], 1) else if ("most" : Str) = w then some (["window", "number"], 1) else if ("least" : Str) = w then some (["window", "number"], 1) else if ("over" : Str) = w then some (["window", "number"], 1) else none
def toD (p : List Str × Nat) : D := .tup [.tup (p.1.map D.str), .int (p.2 : Int)]
theorem ite_or {α : Type} {c : Prop} [Decidable c] {a p : α} {o : Option α} (h : (if c then some a else o) = some p) : a = p ∨ o = some p := by
  by_cases e : c
  · rw [if_pos e] at h; exact .inl (Option.some.inj h)
  · rw [if_neg e] at h; exact .inr h
theorem shape_cases {w : Str} {p : List Str × Nat} (h : shapeOf w = some p) : (p.1 = ([] : List Str) ∨ p.1 = (["number"] : List Str) ∨ p.1 = (["name"] : List Str) ∨ p.1 = (["window", "number"] : List Str)) ∧ p.2 ≤ 3 := by
  unfold shapeOf at h
  iterate 12
    rcases ite_or h with rfl | h
    · simp
  cases h
def kindsB : List Str → List D → Bool
  | [], _ => true
  | k :: ks, x :: xs => kindB k x && kindsB ks xs
  | _ :: _, [] => false
def headB : D → Bool
  | .tup (.str w :: xs) => match shapeOf w with
    | some p => decide (xs.length = p.1.length + p.2) && kindsB p.1 xs
    | none => false
  | _ => false
theorem at_1 (a b : D) (r : List D) : atI (a :: b :: r) 1 = some b := by
  unfold atI; rw [ixN_nat (j := 1) (by rfl) (by simp)]; rfl
theorem at_2 (a b c : D) (r : List D) : atI (a :: b :: c :: r) 2 = some c := by
  unfold atI; rw [ixN_nat (j := 2) (by rfl) (by simp)]; rfl
theorem at_0 (a : D) (r : List D) : atI (a :: r) 0 = some a := by
  unfold atI; rw [ixN_nat (j := 0) (by rfl) (by simp)]; rfl
theorem line0 : 0 < sizeLine := by decide
theorem line1 : 1 < sizeLine := by decide
theorem enum1 (ks : List D) : enumFD 1 ks = (List.range ks.length).map fun (i : Nat) => D.tup [.int (1 + (i : Int)), ks.getD i .non] := rfl
abbrev headS (x w : D) (p : List Str × Nat) (cs : List (List D)) : Dl := [some (.d x), some (.d w), some (.d (.tup (p.1.map D.str))), some (.d (.int (p.2 : Int))), none, none, some (.mem cs)]
end Ev

set_option Elab.async false
set_option linter.all false
set_option maxRecDepth 100000
namespace Ev
open PySem PySem.Spec PyProof.Rows L2
theorem cut_drop (xs : List D) (k : Nat) (h : k ≤ xs.length) : cutD xs (some (k : Int)) none = xs.drop k := by
  unfold cutD
  rw [HT.sIx_nat, HT.sIx_none, Nat.min_eq_left h, ← List.length_drop, List.take_length]
def kids : D → List D
  | .tup (.str w :: ys) => match shapeOf w with
    | some p => ys.drop p.1.length
    | none => []
  | _ => []
def isWin (w : Str) : Bool := ("most" : Str) == w || (("least" : Str) == w || (("over" : Str) == w || false))
def own (x : D) : Int := match x with
  | .tup (.str w :: .int k :: _) => if isWin w then k else 0
  | _ => 0
theorem head_is {x : D} (h : headB x = true) : ∃ w p ys, x = .tup (.str w :: ys) ∧ shapeOf w = some p ∧ ys.length = p.1.length + p.2 ∧ kindsB p.1 ys = true := by
  unfold headB at h
  split at h
  · rename_i w ys
    split at h
    · rename_i p hp
      simp only [Bool.and_eq_true, decide_eq_true_eq] at h
      exact ⟨w, p, ys, rfl, hp, h.1, h.2⟩
    · cases h
  · cases h
theorem win_shape {w : Str} (h : isWin w = true) : shapeOf w = some ((["window", "number"] : List Str), 1) := by
  unfold isWin at h
  simp only [Bool.or_eq_true, beq_iff_eq] at h
  rcases h with h | h | h | h
  · rw [← h]; rfl
  · rw [← h]; rfl
  · rw [← h]; rfl
  · cases h
theorem win_is {y : D} (h : kindB "window" y = true) : ∃ k, y = .int k ∧ 2 ≤ k ∧ k ≤ 5 := by
  have n1 : ("window" : Str) ≠ "name" := by decide +kernel
  unfold kindB at h
  rw [if_neg n1, if_pos rfl] at h
  unfold winB at h
  split at h
  · rename_i k
    simp only [Bool.and_eq_true, decide_eq_true_eq] at h
    exact ⟨k, rfl, h.1, h.2⟩
  · cases h
theorem own_range {x : D} (h : headB x = true) : 0 ≤ own x ∧ own x ≤ 5 := by
  obtain ⟨w, p, ys, rfl, hs, hl, hk⟩ := head_is h
  unfold own
  split
  · rename_i w' k r e
    cases e
    split
    · rename_i hw
      have e := hs.symm.trans (win_shape hw)
      injection e with e; subst e
      have n1 : ("window" : Str) ≠ "name" := by decide +kernel
      simp [kindsB, kindB, winB, n1] at hk
      omega
    · omega
  · omega
/-! ### terms as trees -/
def formN : Nat → D → Bool
  | 0, _ => false
  | n + 1, x => headB x && (kids x).all (formN n)
def szN : Nat → D → Nat
  | 0, _ => 0
  | n + 1, x => 1 + ((kids x).map (szN n)).sum
def mxL : List Nat → Nat
  | [] => 0
  | a :: r => max a (mxL r)
def dpN : Nat → D → Nat
  | 0, _ => 0
  | n + 1, x => 1 + mxL ((kids x).map (dpN n))
def wnN : Nat → D → Int
  | 0, _ => 0
  | n + 1, x => own x + ((kids x).map (wnN n)).sum
mutual
def dpD : D → Nat
  | .tup xs => 1 + dpDs xs
  | .lst xs => 1 + dpDs xs
  | .non => 0
  | .bl _ => 0
  | .int _ => 0
  | .str _ => 0
  | .scr _ => 0
  | .ty _ => 0
  | .cls _ => 0
  | .dct _ _ => 0
  | .exc _ _ _ => 0
  | .loc _ => 0
def dpDs : List D → Nat
  | [] => 0
  | x :: xs => max (dpD x) (dpDs xs)
end
theorem dpDs_mem : ∀ {xs : List D} {x : D}, x ∈ xs → dpD x ≤ dpDs xs
  | y :: ys, x, h => by
    rw [dpDs]
    rcases List.mem_cons.mp h with rfl | h
    · exact Nat.le_max_left _ _
    · exact Nat.le_trans (dpDs_mem h) (Nat.le_max_right _ _)
theorem kids_dp {x y : D} (h : y ∈ kids x) : dpD y < dpD x := by
  unfold kids at h
  split at h
  · split at h
    · have := dpDs_mem (List.mem_of_mem_drop h)
      rw [dpD, dpDs]
      omega
    · cases h
  · cases h
theorem kids_pl {x y : D} (hx : plD x = true) (h : y ∈ kids x) : plD y = true := by
  unfold kids at h
  split at h
  · split at h
    · rw [plD, Bool.and_eq_true] at hx
      exact plDs_mem hx.2 (List.mem_cons_of_mem _ (List.mem_of_mem_drop h))
    · cases h
  · cases h
theorem all_congr' {α : Type} {f g : α → Bool} : ∀ {l : List α}, (∀ x ∈ l, f x = g x) → l.all f = l.all g
  | [], _ => rfl
  | a :: r, h => by rw [List.all_cons, List.all_cons, h a (List.mem_cons_self ..), all_congr' fun x hx => h x (List.mem_cons_of_mem _ hx)]
theorem lev : ∀ (n m : Nat) (x : D), dpD x < n → n ≤ m → formN m x = formN n x ∧ szN m x = szN n x ∧ dpN m x = dpN n x ∧ wnN m x = wnN n x
  | 0, _, _, h, _ => by omega
  | n + 1, 0, _, _, h => by omega
  | n + 1, m + 1, x, h, hm => by
    have ih : ∀ y ∈ kids x, formN m y = formN n y ∧ szN m y = szN n y ∧ dpN m y = dpN n y ∧ wnN m y = wnN n y := fun y hy => lev n m y (by have := kids_dp hy; omega) (by omega)
    refine ⟨?_, ?_, ?_, ?_⟩
    · rw [formN, formN, all_congr' fun y hy => (ih y hy).1]
    · rw [szN, szN, List.map_congr_left fun y hy => (ih y hy).2.1]
    · rw [dpN, dpN, List.map_congr_left fun y hy => (ih y hy).2.2.1]
    · rw [wnN, wnN, List.map_congr_left fun y hy => (ih y hy).2.2.2]
def form (x : D) : Bool := formN 40 x
def sz (x : D) : Nat := szN 40 x
def dp (x : D) : Nat := dpN 40 x
def wn (x : D) : Int := wnN 40 x
theorem form_eq {x : D} (h : dpD x < 40) : form x = (headB x && (kids x).all form) := by
  unfold form
  rw [← (lev 40 41 x h (by omega)).1, formN]
theorem sz_eq {x : D} (h : dpD x < 40) : sz x = 1 + ((kids x).map sz).sum := by
  unfold sz
  rw [← (lev 40 41 x h (by omega)).2.1, szN]
theorem dp_eq {x : D} (h : dpD x < 40) : dp x = 1 + mxL ((kids x).map dp) := by
  unfold dp
  rw [← (lev 40 41 x h (by omega)).2.2.1, dpN]
theorem wn_eq {x : D} (h : dpD x < 40) : wn x = own x + ((kids x).map wn).sum := by
  unfold wn
  rw [← (lev 40 41 x h (by omega)).2.2.2, wnN]
theorem sum_nonneg : ∀ {l : List Int}, (∀ i ∈ l, 0 ≤ i) → 0 ≤ l.sum
  | [], _ => by simp
  | a :: r, h => by
    have h1 := h a (List.mem_cons_self ..)
    have h2 := sum_nonneg fun i hi => h i (List.mem_cons_of_mem _ hi)
    rw [List.sum_cons]; omega
theorem wn_nonneg : ∀ (n : Nat) (x : D), formN n x = true → 0 ≤ wnN n x
  | 0, _, h => by cases h
  | n + 1, x, h => by
    rw [formN, Bool.and_eq_true] at h
    rw [wnN]
    have h1 := (own_range h.1).1
    have h2 : 0 ≤ ((kids x).map (wnN n)).sum := sum_nonneg fun i hi => by
      rw [List.mem_map] at hi
      obtain ⟨y, hy, rfl⟩ := hi
      exact wn_nonneg n y (List.all_eq_true.mp h.2 y hy)
    omega
def dueB (x : D) : Bool := form x && (decide (sz x ≤ 60) && (decide (dp x ≤ 8) && decide (wn x ≤ 16)))
end Ev

set_option Elab.async false
set_option linter.all false
set_option maxRecDepth 100000
namespace Ev
open PySem PySem.Spec PyProof.Rows L2
theorem popF_app (l : List D) (e : D) : popF (l ++ [e]) [] = some (e, l) := by
  unfold popF
  simp
theorem augM_a (j : Nat) (f : Int → Int → Int) (m : M R) (δ : Dl) : augM j f m δ = (match δ[j]? with
  | some (some (.d (.int i))) => bindM (datM m) (fun d => match d with
    | .int k => putM j (.d (.int (f i k)))
    | _ => fun _ => none) δ
  | _ => none) := id rfl
theorem tru_own (xs : List D) : D.tru (.lst xs) = some (!xs.isEmpty) := by cases xs <;> rfl
def enc (p : D × Int) : D := .tup [p.1, .int p.2]
def stT (x0 : D) (a b : Int) (rest : List D) (s4 s5 : Option S) (cs : List (List D)) : Dl := [some (.d x0), some (.d (.int a)), some (.d (.int b)), some (.own rest), s4, s5, none, some (.mem cs)]
theorem kids_len {x : D} (h : headB x = true) : (kids x).length ≤ 3 := by
  obtain ⟨w, p, ys, rfl, hs, hl, hk⟩ := head_is h
  have := (shape_cases hs).2
  simp only [kids, hs, List.length_drop]
  omega
section
variable {x0 x : D} {a b k : Int} {r : List D} {s4 s5 : Option S} {cs : List (List D)}
end
end Ev

set_option Elab.async false
set_option linter.all false
set_option maxRecDepth 100000
namespace Ev
open PySem PySem.Spec PyProof.Rows L2
def DueP (rest : List (D × Int)) (a b : Int) : Prop := (∀ p ∈ rest, form p.1 = true ∧ p.2 + (dp p.1 : Int) ≤ 9) ∧ a + (((rest.map fun p => sz p.1).sum : Nat) : Int) ≤ 60 ∧ b + (rest.map fun p => wn p.1).sum ≤ 16
theorem mxL_le {n : Nat} : ∀ {l : List Nat}, mxL l ≤ n ↔ ∀ i ∈ l, i ≤ n
  | [] => by simp [mxL]
  | a :: r => by
    rw [mxL, Nat.max_le, mxL_le (l := r)]; simp
theorem wn_sum {rest : List (D × Int)} (h : ∀ p ∈ rest, form p.1 = true) : 0 ≤ (rest.map fun p => wn p.1).sum := sum_nonneg fun i hi => by
  rw [List.mem_map] at hi
  obtain ⟨p, hp, rfl⟩ := hi
  exact wn_nonneg 40 p.1 (h p hp)
theorem due_step {x : D} {k a b : Int} {r : List (D × Int)} (hd : dpD x < 40) (hh : headB x = true) (hk : ¬ 8 < k) : DueP (r ++ (kids x).map fun y => (y, k + 1)) (a + 1) (b + own x) ↔ DueP (r ++ [(x, k)]) a b := by
  have hf : form x = true ↔ ∀ y ∈ kids x, form y = true := by rw [form_eq hd, hh, Bool.true_and, List.all_eq_true]
  have hs := sz_eq hd
  have hw := wn_eq hd
  have hdp : (dp x : Int) ≤ 9 - k ↔ ∀ y ∈ kids x, (dp y : Int) ≤ 8 - k := by
    rw [dp_eq hd]
    have e : ((1 + mxL ((kids x).map dp) : Nat) : Int) ≤ 9 - k ↔ mxL ((kids x).map dp) ≤ (8 - k).toNat := by omega
    rw [e, mxL_le]
    simp only [List.mem_map, forall_exists_index, and_imp, forall_apply_eq_imp_iff₂]
    constructor
    · intro h y hy; have := h y hy; omega
    · intro h y hy; have := h y hy; omega
  unfold DueP
  simp only [List.map_append, List.map_map, List.sum_append, List.map_cons, List.map_nil, List.sum_cons, List.sum_nil, List.mem_append, List.mem_map, List.mem_singleton]
  have m1 : ((kids x).map ((fun p : D × Int => sz p.1) ∘ fun y => (y, k + 1))) = (kids x).map sz := List.map_congr_left fun _ _ => rfl
  have m2 : ((kids x).map ((fun p : D × Int => wn p.1) ∘ fun y => (y, k + 1))) = (kids x).map wn := List.map_congr_left fun _ _ => rfl
  rw [m1, m2]
  constructor
  · rintro ⟨h1, h2, h3⟩
    refine ⟨?_, by rw [hs]; omega, by rw [hw]; omega⟩
    rintro p (hp | rfl)
    · exact h1 p (.inl hp)
    · refine ⟨hf.mpr fun y hy => (h1 (y, k + 1) (.inr ⟨y, hy, rfl⟩)).1, ?_⟩
      have := hdp.mpr fun y hy => by have := (h1 (y, k + 1) (.inr ⟨y, hy, rfl⟩)).2; simp only at this; omega
      show k + (dp x : Int) ≤ 9
      omega
  · rintro ⟨h1, h2, h3⟩
    have hx := h1 (x, k) (.inr rfl)
    simp only at hx
    refine ⟨?_, by rw [hs] at h2; omega, by rw [hw] at h3; omega⟩
    rintro p (hp | ⟨y, hy, rfl⟩)
    · exact h1 p (.inl hp)
    · refine ⟨hf.mp hx.1 y hy, ?_⟩
      have := hdp.mp (by omega) y hy
      simp only; omega
theorem due_not {x : D} {k a b : Int} {r : List (D × Int)} (hd : dpD x < 40) (h : 8 < k ∨ headB x = false ∨ 60 < a + 1 ∨ 16 < b + own x) : ¬ DueP (r ++ [(x, k)]) a b := by
  rintro ⟨h1, h2, h3⟩
  have hx := h1 (x, k) (by simp)
  simp only at hx
  have hd1 : 1 ≤ dp x := by rw [dp_eq hd]; omega
  have hs1 : 1 ≤ sz x := by rw [sz_eq hd]; omega
  simp only [List.map_append, List.sum_append, List.map_cons, List.map_nil, List.sum_cons, List.sum_nil] at h2 h3
  rcases h with h | h | h | h
  · omega
  · have := hx.1; rw [form_eq hd, h] at this; cases this
  · omega
  · have w1 : 0 ≤ (r.map fun p => wn p.1).sum := wn_sum fun p hp => (h1 p (by simp [hp])).1
    have w2 : own x ≤ wn x := by
      rw [wn_eq hd]
      have hf := hx.1
      rw [form_eq hd, Bool.and_eq_true, List.all_eq_true] at hf
      have : 0 ≤ ((kids x).map wn).sum := sum_nonneg fun i hi => by
        rw [List.mem_map] at hi
        obtain ⟨y, hy, rfl⟩ := hi
        exact wn_nonneg 40 y (hf.2 y hy)
      omega
    omega
/-- the loop, and how it ends -/
def EndT (x0 : D) (cs : List (List D)) (δ : Dl) : Prop := ∃ a b r s4 s5, δ = stT x0 a b r s4 s5 cs
theorem snoc_cases {α : Type} (l : List α) : l = [] ∨ ∃ r x, l = r ++ [x] := by
  rcases List.eq_nil_or_concat l with h | ⟨r, x, h⟩
  · exact .inl h
  · exact .inr ⟨r, x, by simpa using h⟩
end Ev

set_option Elab.async false
set_option linter.all false
set_option maxRecDepth 100000
namespace Ev
open PySem PySem.Spec PyProof.Rows L2
/-! ### the law's own look -/
theorem methS_a (f : Str → List D → Option S) (mo : M R) (ms : List (M R)) (δ : Dl) : methS f mo ms δ = thn (opdM mo δ) (fun x => fun δ => match x.val δ with
  | some (.str a) => bindM (opsM ms) (fun os => fun δ => match vals δ os with
    | some ds => liftOp (f a ds) δ
    | none => none) δ
  | _ => none) := id rfl
theorem kw_split : Txt.split "fixed sum less by pick late half twice most least over spring brook out beat" " " = KW := by decide +kernel
theorem l_keywords_spec (cs : List (List D)) : f_l_keywords.fn [.mem cs] = some (.ok (.own (KW.map D.str)) [some (.mem cs)]) := by
  have hz : ("fixed sum less by pick late half twice most least over spring brook out beat" : Str).length + 2 ≤ sizeLine := by decide +kernel
  have h1 : ((" " : Str).length == 0) = false := by decide +kernel
  have hs : splitF "fixed sum less by pick late half twice most least over spring brook out beat" [.str " "] = some (.own (KW.map D.str)) := by
    unfold splitF
    simp only [h1, true_and]
    rw [if_pos hz, kw_split]
  unfold f_l_keywords m_l_keywords
  simp [thn_ok, thn_err, bindM_a, retM_a, seqK_n, seqK_r, seqK_b, seqK_c, seqM_a, setS_a, putM_d, putM_o, putM_s, slotM_a, opdM_a, opdK_d, opdK_s, opdK_o, datM_a, datK_d, datK_s, datK_o, resM_a, resK_d, resK_s, resK_o, retS_a, argsM_n, argsM_c, opsM_n, opsM_c, tupM_a, lstM_a, liftOp_a, app2_s, op2_a, app1_s, op1_a, appN_s, opN_a, iteK_t, iteK_f, ifS_a, ifM_a, optM_a, blM_a, isBl_b, truK_s, truM_a, notM_a, andM_a, orM_a, andK_t, andK_f, andV_a, orK_f, orK_t, orV_a, notK_s, notV_a, cD_a, dropM_a, agsM_n, agsM_v, agsM_r, callG_a, callK_s, callRet_s, callFin, callEnd_a, setIx_a, ownM_a, meth_a, nextK_s, asgK_n, asgK_t, asgM_a, parM_a, forS_a, rngM_a, enumM_a, zipK_tt, zipK_ll, zipM_a, srcM_a, slM_a, partM_n, partM_s, itM_a, bodyFn_a, bodyGo_m, bodyK_r, bodyK_n, bodyEnd, ixM_a, ixK_t, ixK_l, ixK_c, ixK_s, ixK_w, ixK_m, dispM_a, seqD_n, seqD_c, setCell_a, setIxS_a, putAtS_o, chainM_a, chG_s, chK_t, chK_f, putM_w, opdK_w, datK_w, resK_w, subD_i, mulD_i, fdivD_i, modD_i, powD_i, shrD_i, andD_i, partsM_n, partsM_c, keepM_a, keepK_o, keepK_d, keepK_s, keepK_w, parS_a, setAll_c, setAll_n, sumLM_a, enumTM_a, enumL1_t, enumL1_l, raiseM_a, raisM_a, callRet_e, bodyK_e, tryE_t, tryE_f, tryK_o, tryK_e, tryM_a, runX_n, runX_c, callL_a, lendRet2_s, lendRet_s, lendK_s, lendEnd_a, D.flat, Op.val, Op.toR, S.toR, vals, ssOf, slotsIn, ndp, putBack, pick, lentIs, outs, asgT, asgTs, D.tru, addD, lessD_i, lesseqD_i, moreD_i, moreeqD_i, ixD, lenD, absD, intF, maxF, minF, gcdD, listF, D.seqT, D.seqL, eqD_int', neD_int, isD_ty, nisD_ty, typeF_a, tyn_non, tyn_bl, tyn_int, tyn_str, tyn_tup, tyn_lst, negD, bitsD, methS_a, hs]
theorem in_KW (x : Str) : inD (.str x) (.lst (KW.map D.str)) = some (.d (.bl (KW.any fun k => k == x))) := by
  have e : inB (.str x) (.lst (KW.map D.str)) = some (KW.any fun k => k == x) := by
    show some (inV (.str x) _) = _
    unfold inV KW
    simp only [List.any_cons, List.any_nil, eqV]
  unfold inD; rw [e]; rfl
def AZ : Str := "abcdefghijklmnopqrstuvwxyz"
theorem az_has (c : Nat) : AZ.cps.contains c = (decide (97 ≤ c) && decide (c ≤ 122)) := by
  have : AZ.cps = ((List.range 26).map fun i => 97 + i).toArray := by decide +kernel
  rw [this, List.contains_toArray]
  by_cases h : 97 ≤ c ∧ c ≤ 122
  · rw [decide_eq_true h.1, decide_eq_true h.2, List.contains_eq_mem, decide_eq_true]
    · rfl
    · rw [List.mem_map]; exact ⟨c - 97, by rw [List.mem_range]; omega, by omega⟩
  · have : (decide (97 ≤ c) && decide (c ≤ 122)) = false := by
      rw [Bool.eq_false_iff]; intro z; rw [Bool.and_eq_true, decide_eq_true_eq, decide_eq_true_eq] at z; exact h z
    rw [this, List.contains_eq_mem, decide_eq_false]
    rw [List.mem_map]
    rintro ⟨i, hi, rfl⟩
    rw [List.mem_range] at hi
    exact h ⟨by omega, by omega⟩
theorem strip_nil (x : Str) : (Txt.stripChars x AZ == ("" : Str)) = letters x := by
  have hx : Txt.stripChars x AZ = Txt.stripBy AZ.cps.contains true true x := rfl
  rw [hx, stripBy_eq]
  obtain ⟨l1, l2, l3⟩ := lo_facts AZ.cps.contains x
  obtain ⟨h1, h2, h3, h4⟩ := hi_facts AZ.cps.contains x _ l1
  generalize hlo : stripLo AZ.cps.contains true x = lo at *
  generalize hhi : stripHi AZ.cps.contains true x lo = hi at *
  have hall : letters x = true ↔ ∀ k, k < x.length → AZ.cps.contains (x.cps.getD k 0) = true := by
    unfold letters
    rw [List.all_eq_true]
    constructor
    · intro h k hk
      rw [az_has]
      refine h _ ?_
      have hk' : k < x.cps.size := hk
      simp [Array.getD, hk']
    · intro h c hc
      rw [Array.mem_toList_iff] at hc
      obtain ⟨k, hk, rfl⟩ := Array.mem_iff_getElem.mp hc
      have := h k hk
      rw [az_has] at this
      simpa [Array.getD, hk] using this
  have hemp : (Builtin.Str.strSub x lo hi == ("" : Str)) = true ↔ hi = lo := by
    rw [beq_iff_eq]
    have e0 : ("" : Str) = ⟨#[]⟩ := by decide +kernel
    rw [e0]
    show (⟨x.cps.extract lo hi⟩ : Str) = ⟨#[]⟩ ↔ _
    rw [Str.mk.injEq]
    have hs : x.length = x.cps.size := rfl
    constructor
    · intro h
      have := congrArg Array.size h
      rw [Array.size_extract] at this
      simp at this
      omega
    · intro h
      subst h
      apply Array.eq_empty_of_size_eq_zero
      rw [Array.size_extract]; omega
  rw [Bool.eq_iff_iff, hemp, hall]
  constructor
  · intro e k hk
    by_cases hkl : k < lo
    · exact l2 k hkl
    · exact h3 k (by omega) hk
  · intro h
    rcases l3 with l3 | l3
    · omega
    · by_cases hll : lo < x.length
      · rw [h lo hll] at l3; cases l3
      · omega
theorem strip_ok (x : Str) (h : PyData.strOk x = true) : PyData.strOk (Txt.stripChars x AZ) = true := by
  have hx : Txt.stripChars x AZ = Txt.stripBy AZ.cps.contains true true x := rfl
  rw [hx, stripBy_eq]
  unfold PyData.strOk at h ⊢
  show (x.cps.extract _ _).all _ = true
  rw [← Array.all_toList, List.all_eq_true] at h ⊢
  intro c hc
  rw [Array.toList_extract] at hc
  exact h c (List.mem_of_mem_drop (List.mem_of_mem_take hc))
end Ev

set_option Elab.async false
set_option linter.all false
set_option maxRecDepth 100000
namespace Ev
open PySem PySem.Spec PyProof.Rows L2
/-- a loop that ends with False at the first item that fails -/
theorem forM_test {T : Tg} {body : M Fl} (I : Dl → Prop) (p : D → Bool) : ∀ (ds : List D) (δ : Dl), I δ → (∀ d ∈ ds, ∀ δ, I δ → ∃ δ', itM T d body δ = some (.ok (if p d then .next else .ret (.d (.bl false))) δ') ∧ I δ') →
    ∃ δ', forM T body ds δ = some (.ok (if ds.all p then .next else .ret (.d (.bl false))) δ') ∧ I δ'
  | [], δ, h, _ => ⟨δ, rfl, h⟩
  | d :: ds, δ, h, st => by
    obtain ⟨δ1, e, h1⟩ := st d (List.mem_cons_self ..) δ h
    unfold itM at e
    unfold forM
    cases ea : asgT T d δ with
    | none => rw [ea] at e; cases e
    | some δ0 =>
      rw [ea] at e
      simp only at e ⊢
      unfold bindM
      rw [e]
      rw [List.all_cons]
      cases hp : p d with
      | false => exact ⟨δ1, rfl, h1⟩
      | true =>
        simp only [if_true, Bool.true_and]
        exact forM_test I p ds δ1 h1 fun x hx => st x (List.mem_cons_of_mem _ hx)
mutual
theorem pd_pl : ∀ x : D, plD x = true → ∃ p, x.pd = some p ∧ p.canLay0 = true ∧ p.depth ≤ dpD x
  | .non, _ => ⟨_, rfl, rfl, Nat.zero_le _⟩
  | .bl b, _ => ⟨_, rfl, rfl, Nat.zero_le _⟩
  | .int i, _ => ⟨_, rfl, rfl, Nat.zero_le _⟩
  | .str x, h => by rw [plD, Bool.and_eq_true] at h; exact ⟨_, rfl, asc_ok h.2, Nat.zero_le _⟩
  | .tup xs, h => by
    rw [plD, Bool.and_eq_true] at h
    obtain ⟨ps, h1, h2, h3⟩ := pds_pl xs h.2
    refine ⟨.tuple ps, by rw [D.pd, h1]; rfl, by rw [PyData.canLay0]; exact h2, ?_⟩
    rw [PyData.depth, dpD]; omega
  | .lst xs, h => by
    rw [plD, Bool.and_eq_true] at h
    obtain ⟨ps, h1, h2, h3⟩ := pds_pl xs h.2
    refine ⟨.list ps, by rw [D.pd, h1]; rfl, by rw [PyData.canLay0]; exact h2, ?_⟩
    rw [PyData.depth, dpD]; omega
  | .scr _, h => by simp [plD] at h
  | .ty _, h => by simp [plD] at h
  | .cls _, h => by simp [plD] at h
  | .dct _ _, h => by simp [plD] at h
  | .exc _ _ _, h => by simp [plD] at h
  | .loc _, h => by simp [plD] at h
theorem pds_pl : ∀ xs : List D, plDs xs = true → ∃ ps, pds xs = some ps ∧ PyData.canLayAll0 ps = true ∧ PyData.depthAll ps ≤ dpDs xs
  | [], _ => ⟨[], rfl, rfl, Nat.le_refl _⟩
  | x :: xs, h => by
    rw [plDs, Bool.and_eq_true] at h
    obtain ⟨p, h1, h2, h3⟩ := pd_pl x h.1
    obtain ⟨ps, h4, h5, h6⟩ := pds_pl xs h.2
    refine ⟨p :: ps, by rw [pds, h1, h4], by rw [PyData.canLayAll0, h2, h5]; rfl, ?_⟩
    rw [PyData.depthAll, dpDs]; omega
end
theorem eq_nil {xs : List D} (h : plD (.tup xs) = true) (hd : dpD (.tup xs) ≤ 60) : eqD (.tup xs) (.tup []) = some (.d (.bl (isNil xs))) := by
  obtain ⟨p, h1, h2, h3⟩ := pd_pl _ h
  have sh : SeqAt.shaped p = true := by unfold SeqAt.shaped; rw [h2, decide_eq_true (by omega)]; rfl
  have e2 : D.pd (.tup []) = some (.tuple []) := rfl
  have s2 : SeqAt.shaped (.tuple []) = true := by decide +kernel
  unfold eqD eqvD
  rw [h1, e2]
  simp only [sh, s2, Bool.and_self, if_true, Option.map_some]
  congr 3
  cases xs with
  | nil => cases h1; rfl
  | cons a r =>
    rw [D.pd, Option.map_eq_some_iff] at h1
    obtain ⟨ps, e, rfl⟩ := h1
    rw [pds] at e
    split at e
    · cases e; rfl
    · cases e
end Ev

set_option Elab.async false
set_option linter.all false
set_option maxRecDepth 100000
namespace Ev
open PySem PySem.Spec PyProof.Rows L2
/-- a comprehension that takes some -/
theorem compGo_filter {vs : List Nat} {T : Tg} {tt : M Bool} {te : M D} {δw : Dl} (p : D → Bool) (f : D → D) : ∀ (ds acc : List D), acc.length + ds.length ≤ sizeLine →
    (∀ d ∈ ds, ∃ δ1 δ2, asgT T d δw = some δ1 ∧ tt δ1 = some (.ok (p d) δ2) ∧ if p d then ∃ δ3, te δ2 = some (.ok (f d) δ3) ∧ wipeD δ3 vs = δw else wipeD δ2 vs = δw) →
    compGo vs T tt te ds acc δw = some (.ok (acc ++ (ds.filter p).map f) δw)
  | [], acc, _, _ => by simp [compGo, retM]
  | d :: ds, acc, hl, st => by
    obtain ⟨δ1, δ2, h1, h2, h3⟩ := st d (List.mem_cons_self ..)
    rw [List.length_cons] at hl
    unfold compGo
    rw [h1]
    simp only
    unfold bindM
    rw [h2]
    simp only
    cases hp : p d with
    | false =>
      rw [hp] at h3
      simp only [Bool.false_eq_true, if_false] at h3 ⊢
      rw [h3, compGo_filter p f ds acc (by omega) (fun x hx => st x (List.mem_cons_of_mem _ hx)), List.filter_cons, hp]
      simp
    | true =>
      rw [hp] at h3
      simp only [if_true] at h3 ⊢
      obtain ⟨δ3, e, h4⟩ := h3
      rw [e]
      simp only
      rw [if_pos (by omega), h4, compGo_filter p f ds (acc ++ [f d]) (by rw [List.length_append]; simp only [List.length_cons, List.length_nil]; omega) (fun x hx => st x (List.mem_cons_of_mem _ hx)), List.filter_cons, hp]
      simp
def isKid : D → Bool
  | .tup (.str _ :: _) => true
  | _ => false
theorem form_kid {n : Nat} {y : D} (h : formN n y = true) : isKid y = true := by
  cases n with
  | zero => cases h
  | succ n =>
    rw [formN, Bool.and_eq_true] at h
    obtain ⟨w, p, ys, rfl, _⟩ := head_is h.1
    rfl
theorem kind_nokid {k : Str} {y : D} (hk : isKind k) (h : kindB k y = true) : isKid y = false := by
  rcases hk with rfl | rfl | rfl
  · unfold kindB nameB at h
    rw [if_pos rfl] at h
    cases y <;> first | rfl | cases h
  · obtain ⟨k, rfl, _⟩ := win_is h; rfl
  · have n2 : ("number" : Str) ≠ "name" := by decide +kernel
    have n3 : ("number" : Str) ≠ "window" := by decide +kernel
    unfold kindB at h
    rw [if_neg n2, if_neg n3] at h
    unfold withinB at h
    rw [Bool.and_eq_true] at h
    obtain ⟨n, p, rfl, _⟩ := numB_is h.1
    rfl
theorem filter_all {α : Type} {p : α → Bool} : ∀ {l : List α}, (∀ x ∈ l, p x = true) → l.filter p = l
  | [], _ => rfl
  | a :: r, h => by rw [List.filter_cons, h a (List.mem_cons_self ..), if_pos rfl, filter_all fun x hx => h x (List.mem_cons_of_mem _ hx)]
theorem filter_kids : ∀ (ks : List Str) (ys : List D), (∀ k ∈ ks, isKind k) → kindsB ks ys = true → (∀ y ∈ ys.drop ks.length, isKid y = true) → ys.filter isKid = ys.drop ks.length
  | [], ys, _, _, h => filter_all h
  | k :: ks, y :: ys, hk, h, hr => by
    rw [kindsB, Bool.and_eq_true] at h
    rw [List.filter_cons, kind_nokid (hk k (List.mem_cons_self ..)) h.1]
    exact filter_kids ks ys (fun k h => hk k (List.mem_cons_of_mem _ h)) h.2 hr
  | k :: ks, [], _, h, _ => by simp [kindsB] at h
theorem foldl_mx : ∀ (l : List Nat) (m : Nat), (l.map fun i : Nat => (i : Int)).foldl (fun m y => if y > m then y else m) (m : Int) = ((max m (mxL l) : Nat) : Int)
  | [], m => by simp [mxL]
  | a :: r, m => by
    rw [List.map_cons, List.foldl_cons]
    have e : (if (a : Int) > (m : Int) then (a : Int) else (m : Int)) = ((max m a : Nat) : Int) := by split <;> omega
    rw [e, foldl_mx r (max m a), mxL]
    congr 1; omega
theorem intsOf_map : ∀ l : List Int, intsOf (l.map D.int) = some l
  | [] => rfl
  | a :: r => by rw [List.map_cons, intsOf, intsOf_map r]; rfl
theorem sum_cast : ∀ l : List Nat, (l.map fun i : Nat => (i : Int)).sum = ((l.sum : Nat) : Int)
  | [] => rfl
  | a :: r => by rw [List.map_cons, List.sum_cons, sum_cast r, List.sum_cons]; omega
theorem max_rows (l : List Nat) : maxF [.lst (.int 0 :: (l.map fun i : Nat => D.int (i : Int)))] = some (.d (.int (mxL l : Nat))) := by
  have e : intsOf (.int 0 :: (l.map fun i : Nat => D.int (i : Int))) = some (0 :: l.map fun i : Nat => (i : Int)) := by
    have := intsOf_map (0 :: l.map fun i : Nat => (i : Int))
    rw [List.map_cons, List.map_map] at this
    exact this
  unfold maxF
  simp only [D.seqL, e]
  have := foldl_mx l 0
  simp only [Nat.zero_max] at this
  exact congrArg (fun z => some (S.d (D.int z))) this
theorem sum_rows (l : List Int) : sumD [.lst (l.map D.int)] = some (.d (.int l.sum)) := by
  unfold sumD
  simp only [D.seqL, intsOf_map, Option.map_some]
end Ev

set_option Elab.async false
set_option linter.all false
set_option maxRecDepth 100000
namespace Ev
open PySem PySem.Spec PyProof.Rows L2
mutual
def wtD : D → Nat
  | .tup xs => 3 + wtDs xs
  | .lst xs => 3 + wtDs xs
  | .non => 200
  | .bl _ => 200
  | .int _ => 200
  | .str _ => 200
  | .scr _ => 200
  | .ty _ => 200
  | .cls _ => 200
  | .dct _ _ => 200
  | .exc _ _ _ => 200
  | .loc _ => 200
def wtDs : List D → Nat
  | [] => 0
  | x :: xs => wtD x + 2 + wtDs xs
end
theorem char_len : ∀ c < 127, (Builtin.Str.reprChar 39 c).length ≤ 8 ∧ (Builtin.Str.reprChar 34 c).length ≤ 8 := by decide +kernel
theorem fold_len (q : Nat) : ∀ (l : List Nat) (acc : Array Nat), (∀ c ∈ l, (Builtin.Str.reprChar q c).length ≤ 8) → (l.foldl (fun out c => out ++ (Builtin.Str.reprChar q c).toArray) acc).size ≤ acc.size + 8 * l.length
  | [], acc, _ => by simp
  | c :: r, acc, h => by
    rw [List.foldl_cons]
    have h1 := h c (List.mem_cons_self ..)
    have h2 := fold_len q r (acc ++ (Builtin.Str.reprChar q c).toArray) (fun x hx => h x (List.mem_cons_of_mem _ hx))
    simp only [Array.size_append, List.size_toArray] at h2
    simp only [List.length_cons]
    refine Nat.le_trans h2 ?_
    omega
theorem repr_len {x : Str} (h : x.length ≤ 16) (ha : (x.cps.toList.all fun c => decide (c < 127)) = true) : (reprText x).length ≤ 130 := by
  have hq : reprQuote x = 34 ∨ reprQuote x = 39 := by
    unfold reprQuote; split <;> simp
  rw [List.all_eq_true] at ha
  have hc : ∀ c ∈ x.cps.toList, (Builtin.Str.reprChar (reprQuote x) c).length ≤ 8 := fun c hc => by
    have h1 := ha c hc
    rw [decide_eq_true_eq] at h1
    rcases hq with e | e <;> rw [e]
    · exact (char_len c h1).2
    · exact (char_len c h1).1
  have := fold_len (reprQuote x) x.cps.toList #[reprQuote x] hc
  show ((x.cps.foldl (fun out c => out ++ (Builtin.Str.reprChar (reprQuote x) c).toArray) #[reprQuote x]).push (reprQuote x)).size ≤ 130
  rw [Array.size_push, ← Array.foldl_toList]
  have hl : x.cps.toList.length = x.length := by simp [Str.length]
  rw [hl] at this
  simp at this ⊢
  omega
end Ev

set_option Elab.async false
set_option linter.all false
set_option maxRecDepth 100000
namespace Ev
open PySem PySem.Spec PyProof.Rows L2
theorem slen (a b : Str) : (a ++ b).length = a.length + b.length := by
  show (a.cps ++ b.cps).size = _
  rw [Array.size_append]; rfl
theorem tupleText_len (ts : List Str) : (tupleText ts).length ≤ 3 + piled ts := by
  unfold tupleText
  rw [slen, slen]
  have h1 : ("(" : Str).length = 1 := by decide +kernel
  have h2 : (Str.join ", " ts).length ≤ piled ts := by
    by_cases h : ts = []
    · subst h; decide +kernel
    · have := join_length_add ts h; omega
  have h3 : ((if ts.length == 1 then ",)" else ")" : String) : Str).length ≤ 2 := by
    split <;> decide +kernel
  omega
theorem textFrom_le : ∀ (ts : List Str) (k : Nat) (acc : Str), (textFrom k acc ts).length ≤ acc.length + piled ts
  | [], k, acc => by rw [textFrom]; omega
  | t :: r, k, acc => by
    rw [textFrom]
    have ih := textFrom_le r (k + 1) (acc ++ (if k > 0 then ", " else "" : String) ++ t)
    rw [slen, slen] at ih
    have h3 : ((if k > 0 then ", " else "" : String) : Str).length ≤ 2 := by
      split <;> decide +kernel
    rw [piled_cons]; omega
theorem listText_len (ts : List Str) : (listText ts).length ≤ 3 + piled ts := by
  unfold listText
  rw [slen]
  have h1 : ("[" : Str).length = 1 := by decide +kernel
  have h2 : ("]" : Str).length = 1 := by decide +kernel
  have := textFrom_le ts 0 "["
  omega
theorem int_len {i : Int} (h : i.natAbs < 2 ^ 60) : (Str.ofString (toString i)).length ≤ 100 := by
  have := int_text_length_le10 (a := i) (k := 19) (by decide) (Nat.lt_trans h (by decide))
  rw [PySem.ofString_length]; omega
theorem ok_of (s : String) : PyData.strOk (Str.ofString s) = true := by
  unfold PyData.strOk
  rw [Str.ofString_eq_toList, ← Array.all_toList, List.all_eq_true]
  intro c hc
  simp only [List.mem_map] at hc
  obtain ⟨ch, _, rfl⟩ := hc
  rw [decide_eq_true_eq]
  have hv := ch.valid
  show ch.val.toNat < 1114112
  rcases hv with h | ⟨_, h⟩
  · omega
  · exact h
theorem ok_app {a b : Str} (ha : PyData.strOk a = true) (hb : PyData.strOk b = true) : PyData.strOk (a ++ b) = true := by
  unfold PyData.strOk at *
  show (a.cps ++ b.cps).all _ = true
  rw [Array.all_append, ha, hb]; rfl
theorem ok_join : ∀ ts : List Str, (∀ t ∈ ts, PyData.strOk t = true) → PyData.strOk (Str.join ", " ts) = true
  | [], _ => by decide +kernel
  | [x], h => h x (List.mem_singleton.mpr rfl)
  | x :: y :: r, h => by
    have ih := ok_join (y :: r) fun t ht => h t (List.mem_cons_of_mem _ ht)
    show PyData.strOk (x ++ ", " ++ Str.join ", " (y :: r)) = true
    exact ok_app (ok_app (h x (List.mem_cons_self ..)) (ok_of _)) ih
theorem ok_tuple (ts : List Str) (h : ∀ t ∈ ts, PyData.strOk t = true) : PyData.strOk (tupleText ts) = true := by
  unfold tupleText
  exact ok_app (ok_app (ok_of _) (ok_join ts h)) (by split <;> exact ok_of _)
theorem ok_from : ∀ (ts : List Str) (k : Nat) (acc : Str), PyData.strOk acc = true → (∀ t ∈ ts, PyData.strOk t = true) → PyData.strOk (textFrom k acc ts) = true
  | [], _, _, h, _ => h
  | t :: r, k, acc, h, hs => ok_from r (k + 1) _ (ok_app (ok_app h (by split <;> exact ok_of _)) (hs t (List.mem_cons_self ..))) fun x hx => hs x (List.mem_cons_of_mem _ hx)
theorem ok_list (ts : List Str) (h : ∀ t ∈ ts, PyData.strOk t = true) : PyData.strOk (listText ts) = true := by
  unfold listText
  exact ok_app (ok_from ts 0 _ (ok_of _) h) (ok_of _)
theorem char_ok : ∀ c < 127, ((Builtin.Str.reprChar 39 c).all (fun d => decide (d < 1114112))) = true ∧ ((Builtin.Str.reprChar 34 c).all (fun d => decide (d < 1114112))) = true := by decide +kernel
theorem fold_ok (q : Nat) : ∀ (l : List Nat) (acc : Array Nat), (∀ c ∈ l, ((Builtin.Str.reprChar q c).all (fun d => decide (d < 1114112))) = true) → (acc.all fun d => decide (d < 1114112)) = true → ((l.foldl (fun out c => out ++ (Builtin.Str.reprChar q c).toArray) acc).all fun d => decide (d < 1114112)) = true
  | [], acc, _, h => h
  | c :: r, acc, h, ha => by
    rw [List.foldl_cons]
    refine fold_ok q r _ (fun x hx => h x (List.mem_cons_of_mem _ hx)) ?_
    rw [Array.all_append, ha, List.all_toArray, h c (List.mem_cons_self ..)]; rfl
theorem ok_repr {x : Str} (ha : (x.cps.toList.all fun c => decide (c < 127)) = true) : PyData.strOk (reprText x) = true := by
  have hq : reprQuote x = 34 ∨ reprQuote x = 39 := by
    unfold reprQuote; split <;> simp
  rw [List.all_eq_true] at ha
  have hc : ∀ c ∈ x.cps.toList, ((Builtin.Str.reprChar (reprQuote x) c).all (fun d => decide (d < 1114112))) = true := fun c hc => by
    have h1 := ha c hc
    rw [decide_eq_true_eq] at h1
    rcases hq with e | e <;> rw [e]
    · exact (char_ok c h1).2
    · exact (char_ok c h1).1
  have q0 : (#[reprQuote x].all fun d => decide (d < 1114112)) = true := by
    rcases hq with e | e <;> rw [e] <;> simp
  have := fold_ok (reprQuote x) x.cps.toList #[reprQuote x] hc q0
  unfold PyData.strOk
  show ((x.cps.foldl (fun out c => out ++ (Builtin.Str.reprChar (reprQuote x) c).toArray) #[reprQuote x]).push (reprQuote x)).all _ = true
  rw [Array.all_push, ← Array.foldl_toList, this]
  rcases hq with e | e <;> rw [e] <;> decide
mutual
theorem shown_len : ∀ (x : D) (p : PyData), plD x = true → x.pd = some p → p.shown.length ≤ wtD x ∧ p.showable = true ∧ PyData.strOk p.shown = true
  | .non, _, _, e => by cases e; exact ⟨by rw [PyData.shown, wtD]; decide +kernel, by rw [PyData.showable], by rw [PyData.shown]; exact ok_of _⟩
  | .bl b, _, _, e => by cases e; refine ⟨?_, by rw [PyData.showable], by rw [PyData.shown]; cases b <;> exact ok_of _⟩; rw [PyData.shown, wtD]; cases b <;> decide +kernel
  | .int i, _, h, e => by
    cases e
    rw [plD, decide_eq_true_eq] at h
    refine ⟨?_, ?_, by rw [PyData.shown]; exact ok_of _⟩
    · rw [PyData.shown, wtD]; have := int_len h; exact Nat.le_trans this (by decide)
    · rw [PyData.showable, decide_eq_true_eq]
      exact Nat.lt_of_lt_of_le (PySem.Flt.log2_lt_of (k := 60) (by decide) h) (by decide)
  | .str x, _, h, e => by
    cases e
    rw [plD, Bool.and_eq_true, decide_eq_true_eq] at h
    refine ⟨?_, by rw [PyData.showable], by rw [PyData.shown]; exact ok_repr h.2⟩
    rw [PyData.shown, wtD]; exact Nat.le_trans (repr_len h.1 h.2) (by decide)
  | .tup xs, p, h, e => by
    rw [plD, Bool.and_eq_true] at h
    rw [D.pd, Option.map_eq_some_iff] at e
    obtain ⟨ps, e1, rfl⟩ := e
    obtain ⟨h1, h2, h3⟩ := showns_len xs ps h.2 e1
    refine ⟨?_, by rw [PyData.showable]; exact h2, by rw [PyData.shown]; exact ok_tuple _ h3⟩
    rw [PyData.shown, wtD]; have := tupleText_len (PyData.shownAll ps); omega
  | .lst xs, p, h, e => by
    rw [plD, Bool.and_eq_true] at h
    rw [D.pd, Option.map_eq_some_iff] at e
    obtain ⟨ps, e1, rfl⟩ := e
    obtain ⟨h1, h2, h3⟩ := showns_len xs ps h.2 e1
    refine ⟨?_, by rw [PyData.showable]; exact h2, by rw [PyData.shown]; exact ok_list _ h3⟩
    rw [PyData.shown, wtD]; have := listText_len (PyData.shownAll ps); omega
  | .scr _, _, h, _ => by simp [plD] at h
  | .ty _, _, h, _ => by simp [plD] at h
  | .cls _, _, h, _ => by simp [plD] at h
  | .dct _ _, _, h, _ => by simp [plD] at h
  | .exc _ _ _, _, h, _ => by simp [plD] at h
  | .loc _, _, h, _ => by simp [plD] at h
theorem showns_len : ∀ (xs : List D) (ps : List PyData), plDs xs = true → pds xs = some ps → piled (PyData.shownAll ps) ≤ wtDs xs ∧ PyData.showableAll ps = true ∧ ∀ t ∈ PyData.shownAll ps, PyData.strOk t = true
  | [], ps, _, e => by cases e; exact ⟨by rw [PyData.shownAll, wtDs]; exact Nat.le_refl _, rfl, fun t h => by rw [PyData.shownAll] at h; cases h⟩
  | x :: xs, ps, h, e => by
    rw [plDs, Bool.and_eq_true] at h
    rw [pds] at e
    split at e
    · rename_i q qs e1 e2
      cases e
      obtain ⟨h1, h2, k1⟩ := shown_len x q h.1 e1
      obtain ⟨h3, h4, k2⟩ := showns_len xs qs h.2 e2
      refine ⟨?_, by rw [PyData.showableAll, h2, h4]; rfl, fun t ht => by
        rw [PyData.shownAll] at ht
        rcases List.mem_cons.mp ht with rfl | ht
        · exact k1
        · exact k2 t ht⟩
      rw [PyData.shownAll, piled_cons, wtDs]; omega
    · cases e
end
theorem repr_spec {x : D} (hx : plD x = true) (hd : dpD x ≤ 60) (hw : wtD x ≤ 10000000) : ∃ s, reprD [x] = some (.d (.str s)) ∧ PyData.strOk s = true := by
  obtain ⟨p, h1, h2, h3⟩ := pd_pl x hx
  obtain ⟨h4, h5, h6⟩ := shown_len x p hx h1
  refine ⟨p.shown, ?_, h6⟩
  unfold reprD
  simp only [h1]
  rw [if_pos]
  unfold reprP
  have hi : intSmall p = true := by
    cases x with
    | int i =>
      cases h1
      rw [plD, decide_eq_true_eq] at hx
      exact decide_eq_true (Nat.lt_of_lt_of_le (PySem.Flt.log2_lt_of (k := 60) (by decide) hx) (by decide))
    | non => cases h1; rfl
    | bl b => cases h1; rfl
    | str s => cases h1; rfl
    | tup xs => rw [D.pd, Option.map_eq_some_iff] at h1; obtain ⟨_, _, rfl⟩ := h1; rfl
    | lst xs => rw [D.pd, Option.map_eq_some_iff] at h1; obtain ⟨_, _, rfl⟩ := h1; rfl
    | _ => simp [plD] at hx
  rw [hi, h5, PyData.hasDict_of_canLay p h2, decide_eq_true (show p.depth ≤ 60 by omega), decide_eq_true (show p.shown.length ≤ sizeLine from Nat.le_trans h4 (Nat.le_trans hw (by decide)))]
  rfl
/-- what told_right is to see: plain data, not too deep, not too long -/
structure Good (x : D) : Prop where
  pl : plD x = true
  dp : dpD x ≤ 36
  wt : wtD x ≤ 10000000
end Ev

set_option Elab.async false
set_option linter.all false
set_option maxRecDepth 100000
namespace Ev
open PySem PySem.Spec PyProof.Rows L2
def cmn (t l : Int) : Int := if Builtin.bitAnd t (0 - t) < l then Builtin.bitAnd t (0 - t) else l
def numR (t l : Int) : D := if t = 0 then .tup [.int 0, .int 1] else .tup [.int (t / cmn t l), .int (l / cmn t l)]
def tops : List Int := [-9, -8, -7, -6, -5, -4, -3, -2, -1, 0, 1, 2, 3, 4, 5, 6, 7, 8, 9]
def lows : List Int := [1, 2, 4, 16]
theorem tops_mem {t : Int} (h1 : -9 ≤ t) (h2 : t ≤ 9) : t ∈ tops := by
  have : t = -9 ∨ t = -8 ∨ t = -7 ∨ t = -6 ∨ t = -5 ∨ t = -4 ∨ t = -3 ∨ t = -2 ∨ t = -1 ∨ t = 0 ∨ t = 1 ∨ t = 2 ∨ t = 3 ∨ t = 4 ∨ t = 5 ∨ t = 6 ∨ t = 7 ∨ t = 8 ∨ t = 9 := by omega
  unfold tops
  simp only [List.mem_cons, List.not_mem_nil, or_false]
  exact this
theorem num_fin : ∀ t ∈ tops, ∀ l ∈ lows, withinB (numR t l) 99 16 = true ∧ plD (numR t l) = true ∧ dpD (numR t l) = 1 ∧ (t ≠ 0 → 0 < cmn t l ∧ cmn t l < 100) := by decide +kernel
theorem num_wt (t l : Int) : wtD (numR t l) = 407 := by unfold numR; split <;> rfl
theorem at_nat {xs : List D} {i : Int} {j : Nat} {d : D} (h : i = (j : Int)) (hd : xs[j]? = some d) : atI xs i = some d := by
  unfold atI
  rw [ixN_nat h (List.getElem?_eq_some_iff.mp hd).1]; exact hd
theorem at_some {xs : List D} {r : Int} (h0 : 0 ≤ r) (h1 : r < xs.length) : ∃ d, atI xs r = some d ∧ d ∈ xs := by
  have : r.toNat < xs.length := by omega
  refine ⟨xs[r.toNat], at_nat (j := r.toNat) (by omega) (List.getElem?_eq_getElem this), List.getElem_mem this⟩
end Ev

set_option Elab.async false
set_option linter.all false
set_option maxRecDepth 100000
namespace Ev
open PySem PySem.Spec PyProof.Rows L2
theorem cut_lo (xs : List D) (n : Nat) : cutD xs none (some (n : Int)) = xs.take n := by
  unfold cutD
  rw [HT.sIx_none, HT.sIx_nat, List.drop_zero, Nat.sub_zero]
  by_cases h : n ≤ xs.length
  · rw [Nat.min_eq_left h]
  · rw [Nat.min_eq_right (by omega), List.take_of_length_le (by omega), List.take_of_length_le (by omega)]
theorem cut_hi (xs : List D) (n m : Nat) : ∃ k l, cutD xs (some (n : Int)) (some (m : Int)) = (xs.drop k).take l ∧ (xs.length ≤ n → k = xs.length) := by
  unfold cutD
  rw [HT.sIx_nat, HT.sIx_nat]
  exact ⟨_, _, rfl, fun h => Nat.min_eq_right h⟩
theorem enumD_at {xs : List D} {i : Nat} {d : D} (h : (enumD xs)[i]? = some d) : ∃ e, xs[i]? = some e ∧ d = .tup [D.int i, e] := by
  unfold enumD at h
  rw [List.getElem?_map] at h
  cases e : (List.range xs.length)[i]? with
  | none => rw [e] at h; cases h
  | some j =>
    rw [e] at h
    obtain ⟨hl, hj⟩ := List.getElem?_eq_some_iff.mp e
    rw [List.getElem_range] at hj
    rw [List.length_range] at hl
    subst hj
    cases h
    refine ⟨xs[i], List.getElem?_eq_getElem hl, ?_⟩
    show D.tup [D.int ↑i, xs.getD i D.non] = _
    rw [List.getD_eq_getElem?_getD, List.getElem?_eq_getElem hl]; rfl
theorem map_int_at {ys : List Int} {j : Nat} (h : j < ys.length) : (ys.map D.int)[j]? = some (D.int ys[j]) := by
  rw [List.getElem?_map, List.getElem?_eq_getElem h]; rfl
theorem folded_spec (ns : List Int) (hl : ns.length ≤ 63) (cs : List (List D)) : ∃ ys : List Int, ys.length ≤ 2 ∧ f_l_folded.fn [.d (.scr (ns.map D.int)), .d (D.int 2), .mem cs] = some (.ok (.own (ys.map D.int)) [some (.d (.scr (ns.map D.int))), some (.d (D.int 2)), some (.mem cs)]) := by
  obtain ⟨k, l, ec, hk⟩ := cut_hi (ns.map D.int) 2 63
  have el := cut_lo (ns.map D.int) 2
  rw [← List.map_take] at el
  rw [← List.map_drop, ← List.map_take] at ec
  rw [List.length_map] at hk
  rw [show ((2 : Nat) : Int) = 2 from rfl] at el
  rw [show ((2 : Nat) : Int) = 2 from rfl, show ((63 : Nat) : Int) = 63 from rfl] at ec
  obtain ⟨zs, hz⟩ : ∃ zs, zs = (ns.drop k).take l := ⟨_, rfl⟩
  obtain ⟨ws, hw⟩ : ∃ ws, ws = ns.take 2 := ⟨_, rfl⟩
  have hw4 : ws.length = min 2 ns.length := by rw [hw]; simp
  rw [← hw] at el
  rw [← hz] at ec
  have hz4 : zs ≠ [] → 2 ≤ ns.length := fun hn => by
    by_cases h : 2 ≤ ns.length
    · exact h
    · rw [hk (by omega), List.drop_length] at hz
      simp at hz
      exact absurd hz hn
  obtain ⟨δ', e, ys, x, y, hy, rfl⟩ := forM0 (T := .tup [.nm 3, .nm 4]) (body := seqM (setIxS 2 (op2 addD (ixM 5 (slotM 2) (op2 modD (slotM 3) (slotM 1))) (op2 mulD (slotM 4) (op2 addD (slotM 3) (cD (D.int 2))))) (op2 modD (slotM 3) (slotM 1))) (retM .next))
    (fun _ δ => ∃ (ys : List Int) (x y : Option S), ys.length = min 2 ns.length ∧ δ = [some (.d (.scr (ns.map D.int))), some (.d (D.int 2)), some (.own (ys.map D.int)), x, y, some (.mem cs)]) (enumD (zs.map D.int)) [some (.d (.scr (ns.map D.int))), some (.d (D.int 2)), some (.own (ws.map D.int)), none, none, some (.mem cs)] ⟨ws, none, none, hw4, rfl⟩ (by
    rintro i d δ hd ⟨ys, x, y, hy, rfl⟩
    obtain ⟨e, he, rfl⟩ := enumD_at hd
    obtain ⟨hi, _⟩ := List.getElem?_eq_some_iff.mp he
    rw [List.length_map] at hi
    rw [map_int_at hi] at he
    cases he
    have h4 := hz4 (fun z => by rw [z] at hi; exact absurd hi (by simp))
    have hj : i % 2 < ys.length := by omega
    have e1 : ((i : Int) % 2) = ((i % 2 : Nat) : Int) := by omega
    have ha : atI (ys.map D.int) ((i : Int) % 2) = some (D.int ys[i % 2]) := at_nat e1 (map_int_at hj)
    have hb : ixN ys.length ((i : Int) % 2) = some (i % 2) := ixN_nat e1 hj
    have hm : mulC zs[i] ((i : Int) + 2) = true := mulC_r (by
      have : zs.length ≤ ns.length := by rw [hz]; simp only [List.length_take, List.length_drop]; omega
      omega)
    refine ⟨_, ?_, ys.set (i % 2) (ys[i % 2] + zs[i] * ((i : Int) + 2)), some (.d (D.int i)), some (.d (D.int zs[i])), by rw [List.length_set]; exact hy, rfl⟩
    rw [List.map_set]
    simp [thn_ok, thn_err, bindM_a, retM_a, seqK_n, seqK_r, seqK_b, seqK_c, seqM_a, setS_a, putM_d, putM_o, putM_s, slotM_a, opdM_a, opdK_d, opdK_s, opdK_o, datM_a, datK_d, datK_s, datK_o, resM_a, resK_d, resK_s, resK_o, retS_a, argsM_n, argsM_c, opsM_n, opsM_c, tupM_a, lstM_a, liftOp_a, app2_s, op2_a, app1_s, op1_a, appN_s, opN_a, iteK_t, iteK_f, ifS_a, ifM_a, optM_a, blM_a, isBl_b, truK_s, truM_a, notM_a, andM_a, orM_a, andK_t, andK_f, andV_a, orK_f, orK_t, orV_a, notK_s, notV_a, cD_a, dropM_a, agsM_n, agsM_v, agsM_r, callG_a, callK_s, callRet_s, callFin, callEnd_a, setIx_a, ownM_a, meth_a, nextK_s, asgK_n, asgK_t, asgM_a, parM_a, forS_a, rngM_a, enumM_a, zipK_tt, zipK_ll, zipM_a, srcM_a, slM_a, partM_n, partM_s, itM_a, bodyFn_a, bodyGo_m, bodyK_r, bodyK_n, bodyEnd, ixM_a, ixK_t, ixK_l, ixK_c, ixK_s, ixK_w, ixK_m, dispM_a, seqD_n, seqD_c, setCell_a, setIxS_a, putAtS_o, chainM_a, chG_s, chK_t, chK_f, putM_w, opdK_w, datK_w, resK_w, subD_i, mulD_i, fdivD_i, modD_i, powD_i, shrD_i, andD_i, partsM_n, partsM_c, keepM_a, keepK_o, keepK_d, keepK_s, keepK_w, parS_a, setAll_c, setAll_n, sumLM_a, enumTM_a, enumL1_t, enumL1_l, raiseM_a, raisM_a, callRet_e, bodyK_e, tryE_t, tryE_f, tryK_o, tryK_e, tryM_a, runX_n, runX_c, callL_a, lendRet2_s, lendRet_s, lendK_s, lendEnd_a, D.flat, Op.val, Op.toR, S.toR, vals, ssOf, slotsIn, ndp, putBack, pick, lentIs, outs, asgT, asgTs, D.tru, addD, lessD_i, lesseqD_i, moreD_i, moreeqD_i, ixD, lenD, absD, intF, maxF, minF, gcdD, listF, D.seqT, D.seqL, eqD_int', neD_int, isD_ty, nisD_ty, typeF_a, tyn_non, tyn_bl, tyn_int, tyn_str, tyn_tup, tyn_lst, negD, bitsD, ha, hb, hm])
  refine ⟨ys, by omega, ?_⟩
  unfold f_l_folded m_l_folded
  simp [thn_ok, thn_err, bindM_a, retM_a, seqK_n, seqK_r, seqK_b, seqK_c, seqM_a, setS_a, putM_d, putM_o, putM_s, slotM_a, opdM_a, opdK_d, opdK_s, opdK_o, datM_a, datK_d, datK_s, datK_o, resM_a, resK_d, resK_s, resK_o, retS_a, argsM_n, argsM_c, opsM_n, opsM_c, tupM_a, lstM_a, liftOp_a, app2_s, op2_a, app1_s, op1_a, appN_s, opN_a, iteK_t, iteK_f, ifS_a, ifM_a, optM_a, blM_a, isBl_b, truK_s, truM_a, notM_a, andM_a, orM_a, andK_t, andK_f, andV_a, orK_f, orK_t, orV_a, notK_s, notV_a, cD_a, dropM_a, agsM_n, agsM_v, agsM_r, callG_a, callK_s, callRet_s, callFin, callEnd_a, setIx_a, ownM_a, meth_a, nextK_s, asgK_n, asgK_t, asgM_a, parM_a, forS_a, rngM_a, enumM_a, zipK_tt, zipK_ll, zipM_a, srcM_a, slM_a, partM_n, partM_s, itM_a, bodyFn_a, bodyGo_m, bodyK_r, bodyK_n, bodyEnd, ixM_a, ixK_t, ixK_l, ixK_c, ixK_s, ixK_w, ixK_m, dispM_a, seqD_n, seqD_c, setCell_a, setIxS_a, putAtS_o, chainM_a, chG_s, chK_t, chK_f, putM_w, opdK_w, datK_w, resK_w, subD_i, mulD_i, fdivD_i, modD_i, powD_i, shrD_i, andD_i, partsM_n, partsM_c, keepM_a, keepK_o, keepK_d, keepK_s, keepK_w, parS_a, setAll_c, setAll_n, sumLM_a, enumTM_a, enumL1_t, enumL1_l, raiseM_a, raisM_a, callRet_e, bodyK_e, tryE_t, tryE_f, tryK_o, tryK_e, tryM_a, runX_n, runX_c, callL_a, lendRet2_s, lendRet_s, lendK_s, lendEnd_a, D.flat, Op.val, Op.toR, S.toR, vals, ssOf, slotsIn, ndp, putBack, pick, lentIs, outs, asgT, asgTs, D.tru, addD, lessD_i, lesseqD_i, moreD_i, moreeqD_i, ixD, lenD, absD, intF, maxF, minF, gcdD, listF, D.seqT, D.seqL, eqD_int', neD_int, isD_ty, nisD_ty, typeF_a, tyn_non, tyn_bl, tyn_int, tyn_str, tyn_tup, tyn_lst, negD, bitsD, slD, el, ec, e]
theorem dip_spec (ys : List Int) (hl : ys.length ≤ 2) (k : Nat) (hk : k ≤ ys.length) (cs : List (List D)) : ∃ b, Bx b 0 ∧ f_l_dip.fn [.d (.lst (ys.map D.int)), .d (D.int k), .mem cs] = some (.ok (.own b) [some (.d (.lst (ys.map D.int))), some (.d (D.int k)), some (.mem cs)]) := by
  obtain ⟨c, hc⟩ : ∃ c : Int, (if k < ys.length then atI (ys.map D.int) k else some (D.int 0)) = some (D.int c) := by
    by_cases h : k < ys.length
    · rw [if_pos h]; exact ⟨_, at_nat rfl (map_int_at h)⟩
    · rw [if_neg h]; exact ⟨0, rfl⟩
  have hp : powC 10 18 = true := by decide
  have hd : fdivC c 2305843009213693951 = true := fdivC_of (by decide) (by decide)
  have hm : mulC 39373 k = true := mulC_l (by decide)
  have h1 : ∀ x, mulC x 1 = true := fun x => mulC_r (by decide)
  have h0 : ∀ x, mulC x 0 = true := fun x => mulC_r (by decide)
  obtain ⟨a, ha⟩ : ∃ a : Int, a = (if c < 0 then -c else c) := ⟨_, rfl⟩
  have a0 : 0 ≤ a := by rw [ha]; split <;> omega
  have s0 := Int.emod_nonneg c (show (2305843009213693951 : Int) ≠ 0 by decide)
  have s1 := Int.emod_lt_of_pos c (show (0 : Int) < 2305843009213693951 by decide)
  refine ⟨[D.int (a * (if a ≥ 10 ^ 18 then 1 else 0)), D.int (c % 2305843009213693951 + 39373 * k + 17), D.int 0], ⟨_, _, _, rfl, by split <;> omega, by omega, by omega, by omega, by omega⟩, ?_⟩
  unfold f_l_dip m_l_dip
  by_cases h : k < ys.length
  · rw [if_pos h] at hc
    by_cases g : (1000000000000000000 : Int) ≤ a
    · simp [thn_ok, thn_err, bindM_a, retM_a, seqK_n, seqK_r, seqK_b, seqK_c, seqM_a, setS_a, putM_d, putM_o, putM_s, slotM_a, opdM_a, opdK_d, opdK_s, opdK_o, datM_a, datK_d, datK_s, datK_o, resM_a, resK_d, resK_s, resK_o, retS_a, argsM_n, argsM_c, opsM_n, opsM_c, tupM_a, lstM_a, liftOp_a, app2_s, op2_a, app1_s, op1_a, appN_s, opN_a, iteK_t, iteK_f, ifS_a, ifM_a, optM_a, blM_a, isBl_b, truK_s, truM_a, notM_a, andM_a, orM_a, andK_t, andK_f, andV_a, orK_f, orK_t, orV_a, notK_s, notV_a, cD_a, dropM_a, agsM_n, agsM_v, agsM_r, callG_a, callK_s, callRet_s, callFin, callEnd_a, setIx_a, ownM_a, meth_a, nextK_s, asgK_n, asgK_t, asgM_a, parM_a, forS_a, rngM_a, enumM_a, zipK_tt, zipK_ll, zipM_a, srcM_a, slM_a, partM_n, partM_s, itM_a, bodyFn_a, bodyGo_m, bodyK_r, bodyK_n, bodyEnd, ixM_a, ixK_t, ixK_l, ixK_c, ixK_s, ixK_w, ixK_m, dispM_a, seqD_n, seqD_c, setCell_a, setIxS_a, putAtS_o, chainM_a, chG_s, chK_t, chK_f, putM_w, opdK_w, datK_w, resK_w, subD_i, mulD_i, fdivD_i, modD_i, powD_i, shrD_i, andD_i, partsM_n, partsM_c, keepM_a, keepK_o, keepK_d, keepK_s, keepK_w, parS_a, setAll_c, setAll_n, sumLM_a, enumTM_a, enumL1_t, enumL1_l, raiseM_a, raisM_a, callRet_e, bodyK_e, tryE_t, tryE_f, tryK_o, tryK_e, tryM_a, runX_n, runX_c, callL_a, lendRet2_s, lendRet_s, lendK_s, lendEnd_a, D.flat, Op.val, Op.toR, S.toR, vals, ssOf, slotsIn, ndp, putBack, pick, lentIs, outs, asgT, asgTs, D.tru, addD, lessD_i, lesseqD_i, moreD_i, moreeqD_i, ixD, lenD, absD, intF, maxF, minF, gcdD, listF, D.seqT, D.seqL, eqD_int', neD_int, isD_ty, nisD_ty, typeF_a, tyn_non, tyn_bl, tyn_int, tyn_str, tyn_tup, tyn_lst, negD, bitsD, ← ha, h, hc, hp, hd, hm, h1, g]
    · simp [thn_ok, thn_err, bindM_a, retM_a, seqK_n, seqK_r, seqK_b, seqK_c, seqM_a, setS_a, putM_d, putM_o, putM_s, slotM_a, opdM_a, opdK_d, opdK_s, opdK_o, datM_a, datK_d, datK_s, datK_o, resM_a, resK_d, resK_s, resK_o, retS_a, argsM_n, argsM_c, opsM_n, opsM_c, tupM_a, lstM_a, liftOp_a, app2_s, op2_a, app1_s, op1_a, appN_s, opN_a, iteK_t, iteK_f, ifS_a, ifM_a, optM_a, blM_a, isBl_b, truK_s, truM_a, notM_a, andM_a, orM_a, andK_t, andK_f, andV_a, orK_f, orK_t, orV_a, notK_s, notV_a, cD_a, dropM_a, agsM_n, agsM_v, agsM_r, callG_a, callK_s, callRet_s, callFin, callEnd_a, setIx_a, ownM_a, meth_a, nextK_s, asgK_n, asgK_t, asgM_a, parM_a, forS_a, rngM_a, enumM_a, zipK_tt, zipK_ll, zipM_a, srcM_a, slM_a, partM_n, partM_s, itM_a, bodyFn_a, bodyGo_m, bodyK_r, bodyK_n, bodyEnd, ixM_a, ixK_t, ixK_l, ixK_c, ixK_s, ixK_w, ixK_m, dispM_a, seqD_n, seqD_c, setCell_a, setIxS_a, putAtS_o, chainM_a, chG_s, chK_t, chK_f, putM_w, opdK_w, datK_w, resK_w, subD_i, mulD_i, fdivD_i, modD_i, powD_i, shrD_i, andD_i, partsM_n, partsM_c, keepM_a, keepK_o, keepK_d, keepK_s, keepK_w, parS_a, setAll_c, setAll_n, sumLM_a, enumTM_a, enumL1_t, enumL1_l, raiseM_a, raisM_a, callRet_e, bodyK_e, tryE_t, tryE_f, tryK_o, tryK_e, tryM_a, runX_n, runX_c, callL_a, lendRet2_s, lendRet_s, lendK_s, lendEnd_a, D.flat, Op.val, Op.toR, S.toR, vals, ssOf, slotsIn, ndp, putBack, pick, lentIs, outs, asgT, asgTs, D.tru, addD, lessD_i, lesseqD_i, moreD_i, moreeqD_i, ixD, lenD, absD, intF, maxF, minF, gcdD, listF, D.seqT, D.seqL, eqD_int', neD_int, isD_ty, nisD_ty, typeF_a, tyn_non, tyn_bl, tyn_int, tyn_str, tyn_tup, tyn_lst, negD, bitsD, ← ha, h, hc, hp, hd, hm, h0, g]
  · rw [if_neg h] at hc
    cases hc
    rw [if_neg (show ¬ (0 : Int) < 0 by decide)] at ha
    subst ha
    simp [thn_ok, thn_err, bindM_a, retM_a, seqK_n, seqK_r, seqK_b, seqK_c, seqM_a, setS_a, putM_d, putM_o, putM_s, slotM_a, opdM_a, opdK_d, opdK_s, opdK_o, datM_a, datK_d, datK_s, datK_o, resM_a, resK_d, resK_s, resK_o, retS_a, argsM_n, argsM_c, opsM_n, opsM_c, tupM_a, lstM_a, liftOp_a, app2_s, op2_a, app1_s, op1_a, appN_s, opN_a, iteK_t, iteK_f, ifS_a, ifM_a, optM_a, blM_a, isBl_b, truK_s, truM_a, notM_a, andM_a, orM_a, andK_t, andK_f, andV_a, orK_f, orK_t, orV_a, notK_s, notV_a, cD_a, dropM_a, agsM_n, agsM_v, agsM_r, callG_a, callK_s, callRet_s, callFin, callEnd_a, setIx_a, ownM_a, meth_a, nextK_s, asgK_n, asgK_t, asgM_a, parM_a, forS_a, rngM_a, enumM_a, zipK_tt, zipK_ll, zipM_a, srcM_a, slM_a, partM_n, partM_s, itM_a, bodyFn_a, bodyGo_m, bodyK_r, bodyK_n, bodyEnd, ixM_a, ixK_t, ixK_l, ixK_c, ixK_s, ixK_w, ixK_m, dispM_a, seqD_n, seqD_c, setCell_a, setIxS_a, putAtS_o, chainM_a, chG_s, chK_t, chK_f, putM_w, opdK_w, datK_w, resK_w, subD_i, mulD_i, fdivD_i, modD_i, powD_i, shrD_i, andD_i, partsM_n, partsM_c, keepM_a, keepK_o, keepK_d, keepK_s, keepK_w, parS_a, setAll_c, setAll_n, sumLM_a, enumTM_a, enumL1_t, enumL1_l, raiseM_a, raisM_a, callRet_e, bodyK_e, tryE_t, tryE_f, tryK_o, tryK_e, tryM_a, runX_n, runX_c, callL_a, lendRet2_s, lendRet_s, lendK_s, lendEnd_a, D.flat, Op.val, Op.toR, S.toR, vals, ssOf, slotsIn, ndp, putBack, pick, lentIs, outs, asgT, asgTs, D.tru, addD, lessD_i, lesseqD_i, moreD_i, moreeqD_i, ixD, lenD, absD, intF, maxF, minF, gcdD, listF, D.seqT, D.seqL, eqD_int', neD_int, isD_ty, nisD_ty, typeF_a, tyn_non, tyn_bl, tyn_int, tyn_str, tyn_tup, tyn_lst, negD, bitsD, h, hp, hd, hm, h0]
end Ev

set_option Elab.async false
set_option linter.all false
set_option maxRecDepth 100000
namespace Ev
open PySem PySem.Spec PyProof.Rows L2
/-- each turn of the law is true -/
def RightOk : Prop := ∀ (b : List D) (cs : List (List D)), Bx b 0 → ∃ b' cs', f_l_right.fn [.own b, .mem cs] = some (.ok (.d (.bl true)) [some (.own b'), some (.mem cs')])
def callTK (n : Nat) (fn : Fn) (r : R) : M R := fun δ => match r with
  | .own xs => if δ.length = n + 1 then callTE n fn xs δ else none
  | _ => none
theorem callT_a (n : Nat) (fn : Fn) (m : M R) (δ : Dl) : callT n fn m δ = thn (m δ) (callTK n fn) := by
  unfold callT bindM thn callTK
  cases m δ with
  | none => rfl
  | some r => cases r with
    | err => rfl
    | ok r δ1 => cases r <;> rfl
theorem callTK_o (n : Nat) (fn : Fn) (xs : List D) (δ : Dl) : callTK n fn (.own xs) δ = if δ.length = n + 1 then callTE n fn xs δ else none := id rfl
theorem callTE_m {n : Nat} {fn : Fn} {xs b' : List D} {δ : Dl} {cs cs' : List (List D)} {s : S} (h : δ[n]? = some (some (.mem cs))) (e : fn [.own xs, .mem cs] = some (.ok s [some (.own b'), some (.mem cs')])) : callTE n fn xs δ = some (.ok s.toR (δ.set n (some (.mem cs')))) := by
  unfold callTE
  rw [h]
  simp only [e]
  rfl
end Ev

set_option Elab.async false
set_option linter.all false
set_option maxRecDepth 100000
namespace Ev
open PySem PySem.Spec PyProof.Rows L2
theorem cut_drop' (xs : List D) (k : Nat) : cutD xs (some (k : Int)) none = xs.drop k := by
  unfold cutD
  rw [HT.sIx_nat, HT.sIx_none]
  by_cases h : k ≤ xs.length
  · rw [Nat.min_eq_left h, ← List.length_drop, List.take_length]
  · rw [Nat.min_eq_right (by omega), List.drop_length, List.drop_of_length_le (by omega)]; simp
theorem plDs_app : ∀ {xs ys : List D}, plDs (xs ++ ys) = (plDs xs && plDs ys)
  | [], ys => by rw [List.nil_append, plDs, Bool.true_and]
  | x :: xs, ys => by rw [List.cons_append, plDs, plDs, plDs_app, Bool.and_assoc]
theorem wtDs_app : ∀ {xs ys : List D}, wtDs (xs ++ ys) = wtDs xs + wtDs ys
  | [], ys => by rw [List.nil_append, wtDs]; omega
  | x :: xs, ys => by rw [List.cons_append, wtDs, wtDs, wtDs_app]; omega
theorem dpDs_app : ∀ {xs ys : List D}, dpDs (xs ++ ys) = max (dpDs xs) (dpDs ys)
  | [], ys => by rw [List.nil_append, dpDs]; omega
  | x :: xs, ys => by rw [List.cons_append, dpDs, dpDs, dpDs_app]; omega
theorem wt_pos (x : D) : 3 ≤ wtD x := by cases x <;> rw [wtD] <;> omega
theorem len_wt : ∀ xs : List D, 5 * xs.length ≤ wtDs xs
  | [] => by simp
  | x :: xs => by have := len_wt xs; have := wt_pos x; rw [wtDs, List.length_cons]; omega
/-- plain, not deeper than d, not heavier than w -/
def Ok (d w : Nat) (y : D) : Prop := plD y = true ∧ dpD y ≤ d ∧ wtD y ≤ w
def Oks (d w : Nat) (ys : List D) : Prop := plDs ys = true ∧ dpDs ys ≤ d ∧ wtDs ys ≤ w
theorem Oks.app {d w w' : Nat} {xs ys : List D} (h : Oks d w xs) (h' : Oks d w' ys) : Oks d (w + w') (xs ++ ys) :=
  ⟨by rw [plDs_app, h.1, h'.1]; rfl, by rw [dpDs_app]; exact Nat.max_le.mpr ⟨h.2.1, h'.2.1⟩, by rw [wtDs_app]; exact Nat.add_le_add h.2.2 h'.2.2⟩
theorem Ok.one {d w : Nat} {y : D} (h : Ok d w y) : Oks d (w + 2) [y] :=
  ⟨by rw [plDs, h.1]; rfl, by rw [dpDs, dpDs]; have := h.2.1; omega, by rw [wtDs, wtDs]; have := h.2.2; omega⟩
theorem Oks.tup {d w : Nat} {xs : List D} (h : Oks d w xs) : Ok (d + 1) (w + 3) (.tup xs) :=
  ⟨by rw [plD, h.1]; rfl, by rw [dpD]; have := h.2.1; omega, by rw [wtD]; have := h.2.2; omega⟩
theorem Oks.lst {d w : Nat} {xs : List D} (h : Oks d w xs) : Ok (d + 1) (w + 3) (.lst xs) :=
  ⟨by rw [plD, h.1]; rfl, by rw [dpD]; have := h.2.1; omega, by rw [wtD]; have := h.2.2; omega⟩
theorem Ok.mono {d w d' w' : Nat} {y : D} (h : Ok d w y) (h1 : d ≤ d') (h2 : w ≤ w') : Ok d' w' y := ⟨h.1, Nat.le_trans h.2.1 h1, Nat.le_trans h.2.2 h2⟩
theorem Oks.mono {d w d' w' : Nat} {y : List D} (h : Oks d w y) (h1 : d ≤ d') (h2 : w ≤ w') : Oks d' w' y := ⟨h.1, Nat.le_trans h.2.1 h1, Nat.le_trans h.2.2 h2⟩
/-- a list in three: what's ahead of a place, what stands there, what's behind -/
theorem three {xs : List D} {i : Nat} {y : D} (h : xs[i]? = some y) : xs = xs.take i ++ [y] ++ xs.drop (i + 1) := by
  obtain ⟨hi, rfl⟩ := List.getElem?_eq_some_iff.mp h
  rw [List.append_assoc, List.singleton_append, ← List.drop_eq_getElem_cons hi, List.take_append_drop]
end Ev

set_option Elab.async false
set_option linter.all false
set_option maxRecDepth 100000
namespace Ev
open PySem PySem.Spec PyProof.Rows L2
inductive At : D → List D → D → Prop
  | nil (x : D) : At x [] x
  | cons {x y z : D} {i : Nat} {q : List D} : (kids x)[i]? = some y → At y q z → At x (.int (i : Int) :: q) z
end Ev

set_option Elab.async false
set_option linter.all false
set_option maxRecDepth 100000
namespace Ev
open PySem PySem.Spec PyProof.Rows L2
theorem zipD_self (xs : List D) : zipD xs xs = xs.map fun y => .tup [y, y] := by
  unfold zipD
  induction xs with
  | nil => rfl
  | cons a r ih => rw [List.zipWith_cons_cons, ih]; rfl
theorem zipAM_a (a b : M R) (δ : Dl) : zipAM a b δ = thn (argsM [a, b] δ) (fun ds => optM (zipOf ds)) := id rfl
theorem same_comp {n : Nat} {cs : List (List D)} {X : D} {xs : List D} (hX : X = .tup xs ∨ X = .lst xs) (hl : xs.length ≤ sizeLine) (ih : ∀ y ∈ xs, fn_l_same n [.d y, .d y, .mem cs] = some (.ok (.d (.bl true)) [some (.d y), some (.d y), some (.mem cs)])) :
    compM [3, 4] (.tup [(.nm 3), (.nm 4)]) (zipAM (slotM 0) (slotM 1)) (retM true) (datM (callG 5 (fn_l_same n) [0, 1] [] [.val (slotM 3), .val (slotM 4)] [])) [some (.d X), some (.d X), none, none, none, some (.mem cs)] = some (.ok (.own (xs.map fun _ => .bl true)) [some (.d X), some (.d X), none, none, none, some (.mem cs)]) := by
  have hs : zipAM (slotM 0) (slotM 1) [some (.d X), some (.d X), none, none, none, some (.mem cs)] = some (.ok (xs.map fun y => .tup [y, y]) [some (.d X), some (.d X), none, none, none, some (.mem cs)]) := by
    rw [← zipD_self]
    rcases hX with rfl | rfl <;> simp [thn_ok, thn_err, bindM_a, retM_a, seqK_n, seqK_r, seqK_b, seqK_c, seqM_a, setS_a, putM_d, putM_o, putM_s, slotM_a, opdM_a, opdK_d, opdK_s, opdK_o, datM_a, datK_d, datK_s, datK_o, resM_a, resK_d, resK_s, resK_o, retS_a, argsM_n, argsM_c, opsM_n, opsM_c, tupM_a, lstM_a, liftOp_a, app2_s, op2_a, app1_s, op1_a, appN_s, opN_a, iteK_t, iteK_f, ifS_a, ifM_a, optM_a, blM_a, isBl_b, truK_s, truM_a, notM_a, andM_a, orM_a, andK_t, andK_f, andV_a, orK_f, orK_t, orV_a, notK_s, notV_a, cD_a, dropM_a, agsM_n, agsM_v, agsM_r, callG_a, callK_s, callRet_s, callFin, callEnd_a, setIx_a, ownM_a, meth_a, nextK_s, asgK_n, asgK_t, asgM_a, parM_a, forS_a, rngM_a, enumM_a, zipK_tt, zipK_ll, zipM_a, srcM_a, slM_a, partM_n, partM_s, itM_a, bodyFn_a, bodyGo_m, bodyK_r, bodyK_n, bodyEnd, ixM_a, ixK_t, ixK_l, ixK_c, ixK_s, ixK_w, ixK_m, dispM_a, seqD_n, seqD_c, setCell_a, setIxS_a, putAtS_o, chainM_a, chG_s, chK_t, chK_f, putM_w, opdK_w, datK_w, resK_w, subD_i, mulD_i, fdivD_i, modD_i, powD_i, shrD_i, andD_i, partsM_n, partsM_c, keepM_a, keepK_o, keepK_d, keepK_s, keepK_w, parS_a, setAll_c, setAll_n, sumLM_a, enumTM_a, enumL1_t, enumL1_l, raiseM_a, raisM_a, callRet_e, bodyK_e, tryE_t, tryE_f, tryK_o, tryK_e, tryM_a, runX_n, runX_c, callL_a, lendRet2_s, lendRet_s, lendK_s, lendEnd_a, D.flat, Op.val, Op.toR, S.toR, vals, ssOf, slotsIn, ndp, putBack, pick, lentIs, outs, asgT, asgTs, D.tru, addD, lessD_i, lesseqD_i, moreD_i, moreeqD_i, ixD, lenD, absD, intF, maxF, minF, gcdD, listF, D.seqT, D.seqL, eqD_int', neD_int, isD_ty, nisD_ty, typeF_a, tyn_non, tyn_bl, tyn_int, tyn_str, tyn_tup, tyn_lst, negD, bitsD, zipAM_a, zipOf]
  rw [compM_map (ds := xs.map fun y => D.tup [y, y]) (δs := [some (.d X), some (.d X), none, none, none, some (.mem cs)]) (fun _ => .bl true) hs (by simp [noOwn]) (by rw [List.length_map]; exact hl) (fun d hd => ?_)]
  · simp [backD, wipeD]
  · obtain ⟨y, hy, rfl⟩ := List.mem_map.mp hd
    have e := ih y hy
    exact ⟨[some (.d X), some (.d X), none, some (.d y), some (.d y), some (.mem cs)], by simp [thn_ok, thn_err, bindM_a, retM_a, seqK_n, seqK_r, seqK_b, seqK_c, seqM_a, setS_a, putM_d, putM_o, putM_s, slotM_a, opdM_a, opdK_d, opdK_s, opdK_o, datM_a, datK_d, datK_s, datK_o, resM_a, resK_d, resK_s, resK_o, retS_a, argsM_n, argsM_c, opsM_n, opsM_c, tupM_a, lstM_a, liftOp_a, app2_s, op2_a, app1_s, op1_a, appN_s, opN_a, iteK_t, iteK_f, ifS_a, ifM_a, optM_a, blM_a, isBl_b, truK_s, truM_a, notM_a, andM_a, orM_a, andK_t, andK_f, andV_a, orK_f, orK_t, orV_a, notK_s, notV_a, cD_a, dropM_a, agsM_n, agsM_v, agsM_r, callG_a, callK_s, callRet_s, callFin, callEnd_a, setIx_a, ownM_a, meth_a, nextK_s, asgK_n, asgK_t, asgM_a, parM_a, forS_a, rngM_a, enumM_a, zipK_tt, zipK_ll, zipM_a, srcM_a, slM_a, partM_n, partM_s, itM_a, bodyFn_a, bodyGo_m, bodyK_r, bodyK_n, bodyEnd, ixM_a, ixK_t, ixK_l, ixK_c, ixK_s, ixK_w, ixK_m, dispM_a, seqD_n, seqD_c, setCell_a, setIxS_a, putAtS_o, chainM_a, chG_s, chK_t, chK_f, putM_w, opdK_w, datK_w, resK_w, subD_i, mulD_i, fdivD_i, modD_i, powD_i, shrD_i, andD_i, partsM_n, partsM_c, keepM_a, keepK_o, keepK_d, keepK_s, keepK_w, parS_a, setAll_c, setAll_n, sumLM_a, enumTM_a, enumL1_t, enumL1_l, raiseM_a, raisM_a, callRet_e, bodyK_e, tryE_t, tryE_f, tryK_o, tryK_e, tryM_a, runX_n, runX_c, callL_a, lendRet2_s, lendRet_s, lendK_s, lendEnd_a, D.flat, Op.val, Op.toR, S.toR, vals, ssOf, slotsIn, ndp, putBack, pick, lentIs, outs, asgT, asgTs, D.tru, addD, lessD_i, lesseqD_i, moreD_i, moreeqD_i, ixD, lenD, absD, intF, maxF, minF, gcdD, listF, D.seqT, D.seqL, eqD_int', neD_int, isD_ty, nisD_ty, typeF_a, tyn_non, tyn_bl, tyn_int, tyn_str, tyn_tup, tyn_lst, negD, bitsD, wipeD, asgT, e], by simp [wipeD]⟩
theorem wt_mem {y : D} : ∀ {xs : List D}, y ∈ xs → wtD y ≤ wtDs xs
  | x :: r, h => by
    rw [wtDs]
    rcases List.mem_cons.mp h with rfl | h
    · omega
    · have := wt_mem h; omega
theorem same_all (cs : List (List D)) : ∀ (n : Nat) (d : D), plD d = true → dpD d < n → wtD d ≤ 100000 → fn_l_same n [.d d, .d d, .mem cs] = some (.ok (.d (.bl true)) [some (.d d), some (.d d), some (.mem cs)])
  | 0, d, _, h, _ => by omega
  | n + 1, d, hp, hd, hw => by
    cases d with
    | non => unfold fn_l_same m_l_same; simp [thn_ok, thn_err, bindM_a, retM_a, seqK_n, seqK_r, seqK_b, seqK_c, seqM_a, setS_a, putM_d, putM_o, putM_s, slotM_a, opdM_a, opdK_d, opdK_s, opdK_o, datM_a, datK_d, datK_s, datK_o, resM_a, resK_d, resK_s, resK_o, retS_a, argsM_n, argsM_c, opsM_n, opsM_c, tupM_a, lstM_a, liftOp_a, app2_s, op2_a, app1_s, op1_a, appN_s, opN_a, iteK_t, iteK_f, ifS_a, ifM_a, optM_a, blM_a, isBl_b, truK_s, truM_a, notM_a, andM_a, orM_a, andK_t, andK_f, andV_a, orK_f, orK_t, orV_a, notK_s, notV_a, cD_a, dropM_a, agsM_n, agsM_v, agsM_r, callG_a, callK_s, callRet_s, callFin, callEnd_a, setIx_a, ownM_a, meth_a, nextK_s, asgK_n, asgK_t, asgM_a, parM_a, forS_a, rngM_a, enumM_a, zipK_tt, zipK_ll, zipM_a, srcM_a, slM_a, partM_n, partM_s, itM_a, bodyFn_a, bodyGo_m, bodyK_r, bodyK_n, bodyEnd, ixM_a, ixK_t, ixK_l, ixK_c, ixK_s, ixK_w, ixK_m, dispM_a, seqD_n, seqD_c, setCell_a, setIxS_a, putAtS_o, chainM_a, chG_s, chK_t, chK_f, putM_w, opdK_w, datK_w, resK_w, subD_i, mulD_i, fdivD_i, modD_i, powD_i, shrD_i, andD_i, partsM_n, partsM_c, keepM_a, keepK_o, keepK_d, keepK_s, keepK_w, parS_a, setAll_c, setAll_n, sumLM_a, enumTM_a, enumL1_t, enumL1_l, raiseM_a, raisM_a, callRet_e, bodyK_e, tryE_t, tryE_f, tryK_o, tryK_e, tryM_a, runX_n, runX_c, callL_a, lendRet2_s, lendRet_s, lendK_s, lendEnd_a, D.flat, Op.val, Op.toR, S.toR, vals, ssOf, slotsIn, ndp, putBack, pick, lentIs, outs, asgT, asgTs, D.tru, addD, lessD_i, lesseqD_i, moreD_i, moreeqD_i, ixD, lenD, absD, intF, maxF, minF, gcdD, listF, D.seqT, D.seqL, eqD_int', neD_int, isD_ty, nisD_ty, typeF_a, tyn_non, tyn_bl, tyn_int, tyn_str, tyn_tup, tyn_lst, negD, bitsD, isi_non_dict, isi_non_list, isi_non_tuple, isi_non_bool, isi_non_str, isi_non_int, isi_non_lt, is_non_non, isi_int_dict, isi_int_list, isi_int_tuple, isi_int_bool, isi_int_str, isi_int_int, isi_int_lt, is_int_non, isi_bl_dict, isi_bl_list, isi_bl_tuple, isi_bl_bool, isi_bl_str, isi_bl_int, isi_bl_lt, is_bl_non, isi_str_dict, isi_str_list, isi_str_tuple, isi_str_bool, isi_str_str, isi_str_int, isi_str_lt, is_str_non, isi_tup_dict, isi_tup_list, isi_tup_tuple, isi_tup_bool, isi_tup_str, isi_tup_int, isi_tup_lt, is_tup_non, isi_lst_dict, isi_lst_list, isi_lst_tuple, isi_lst_bool, isi_lst_str, isi_lst_int, isi_lst_lt, is_lst_non, isi_scr_dict, isi_scr_list, isi_scr_tuple, isi_scr_bool, isi_scr_str, isi_scr_int, isi_scr_lt, is_scr_non, eqD_bl, neD_bl, eqD_int]
    | bl b => unfold fn_l_same m_l_same; simp [thn_ok, thn_err, bindM_a, retM_a, seqK_n, seqK_r, seqK_b, seqK_c, seqM_a, setS_a, putM_d, putM_o, putM_s, slotM_a, opdM_a, opdK_d, opdK_s, opdK_o, datM_a, datK_d, datK_s, datK_o, resM_a, resK_d, resK_s, resK_o, retS_a, argsM_n, argsM_c, opsM_n, opsM_c, tupM_a, lstM_a, liftOp_a, app2_s, op2_a, app1_s, op1_a, appN_s, opN_a, iteK_t, iteK_f, ifS_a, ifM_a, optM_a, blM_a, isBl_b, truK_s, truM_a, notM_a, andM_a, orM_a, andK_t, andK_f, andV_a, orK_f, orK_t, orV_a, notK_s, notV_a, cD_a, dropM_a, agsM_n, agsM_v, agsM_r, callG_a, callK_s, callRet_s, callFin, callEnd_a, setIx_a, ownM_a, meth_a, nextK_s, asgK_n, asgK_t, asgM_a, parM_a, forS_a, rngM_a, enumM_a, zipK_tt, zipK_ll, zipM_a, srcM_a, slM_a, partM_n, partM_s, itM_a, bodyFn_a, bodyGo_m, bodyK_r, bodyK_n, bodyEnd, ixM_a, ixK_t, ixK_l, ixK_c, ixK_s, ixK_w, ixK_m, dispM_a, seqD_n, seqD_c, setCell_a, setIxS_a, putAtS_o, chainM_a, chG_s, chK_t, chK_f, putM_w, opdK_w, datK_w, resK_w, subD_i, mulD_i, fdivD_i, modD_i, powD_i, shrD_i, andD_i, partsM_n, partsM_c, keepM_a, keepK_o, keepK_d, keepK_s, keepK_w, parS_a, setAll_c, setAll_n, sumLM_a, enumTM_a, enumL1_t, enumL1_l, raiseM_a, raisM_a, callRet_e, bodyK_e, tryE_t, tryE_f, tryK_o, tryK_e, tryM_a, runX_n, runX_c, callL_a, lendRet2_s, lendRet_s, lendK_s, lendEnd_a, D.flat, Op.val, Op.toR, S.toR, vals, ssOf, slotsIn, ndp, putBack, pick, lentIs, outs, asgT, asgTs, D.tru, addD, lessD_i, lesseqD_i, moreD_i, moreeqD_i, ixD, lenD, absD, intF, maxF, minF, gcdD, listF, D.seqT, D.seqL, eqD_int', neD_int, isD_ty, nisD_ty, typeF_a, tyn_non, tyn_bl, tyn_int, tyn_str, tyn_tup, tyn_lst, negD, bitsD, isi_non_dict, isi_non_list, isi_non_tuple, isi_non_bool, isi_non_str, isi_non_int, isi_non_lt, is_non_non, isi_int_dict, isi_int_list, isi_int_tuple, isi_int_bool, isi_int_str, isi_int_int, isi_int_lt, is_int_non, isi_bl_dict, isi_bl_list, isi_bl_tuple, isi_bl_bool, isi_bl_str, isi_bl_int, isi_bl_lt, is_bl_non, isi_str_dict, isi_str_list, isi_str_tuple, isi_str_bool, isi_str_str, isi_str_int, isi_str_lt, is_str_non, isi_tup_dict, isi_tup_list, isi_tup_tuple, isi_tup_bool, isi_tup_str, isi_tup_int, isi_tup_lt, is_tup_non, isi_lst_dict, isi_lst_list, isi_lst_tuple, isi_lst_bool, isi_lst_str, isi_lst_int, isi_lst_lt, is_lst_non, isi_scr_dict, isi_scr_list, isi_scr_tuple, isi_scr_bool, isi_scr_str, isi_scr_int, isi_scr_lt, is_scr_non, eqD_bl, neD_bl, eqD_int]
    | int i => unfold fn_l_same m_l_same; simp [thn_ok, thn_err, bindM_a, retM_a, seqK_n, seqK_r, seqK_b, seqK_c, seqM_a, setS_a, putM_d, putM_o, putM_s, slotM_a, opdM_a, opdK_d, opdK_s, opdK_o, datM_a, datK_d, datK_s, datK_o, resM_a, resK_d, resK_s, resK_o, retS_a, argsM_n, argsM_c, opsM_n, opsM_c, tupM_a, lstM_a, liftOp_a, app2_s, op2_a, app1_s, op1_a, appN_s, opN_a, iteK_t, iteK_f, ifS_a, ifM_a, optM_a, blM_a, isBl_b, truK_s, truM_a, notM_a, andM_a, orM_a, andK_t, andK_f, andV_a, orK_f, orK_t, orV_a, notK_s, notV_a, cD_a, dropM_a, agsM_n, agsM_v, agsM_r, callG_a, callK_s, callRet_s, callFin, callEnd_a, setIx_a, ownM_a, meth_a, nextK_s, asgK_n, asgK_t, asgM_a, parM_a, forS_a, rngM_a, enumM_a, zipK_tt, zipK_ll, zipM_a, srcM_a, slM_a, partM_n, partM_s, itM_a, bodyFn_a, bodyGo_m, bodyK_r, bodyK_n, bodyEnd, ixM_a, ixK_t, ixK_l, ixK_c, ixK_s, ixK_w, ixK_m, dispM_a, seqD_n, seqD_c, setCell_a, setIxS_a, putAtS_o, chainM_a, chG_s, chK_t, chK_f, putM_w, opdK_w, datK_w, resK_w, subD_i, mulD_i, fdivD_i, modD_i, powD_i, shrD_i, andD_i, partsM_n, partsM_c, keepM_a, keepK_o, keepK_d, keepK_s, keepK_w, parS_a, setAll_c, setAll_n, sumLM_a, enumTM_a, enumL1_t, enumL1_l, raiseM_a, raisM_a, callRet_e, bodyK_e, tryE_t, tryE_f, tryK_o, tryK_e, tryM_a, runX_n, runX_c, callL_a, lendRet2_s, lendRet_s, lendK_s, lendEnd_a, D.flat, Op.val, Op.toR, S.toR, vals, ssOf, slotsIn, ndp, putBack, pick, lentIs, outs, asgT, asgTs, D.tru, addD, lessD_i, lesseqD_i, moreD_i, moreeqD_i, ixD, lenD, absD, intF, maxF, minF, gcdD, listF, D.seqT, D.seqL, eqD_int', neD_int, isD_ty, nisD_ty, typeF_a, tyn_non, tyn_bl, tyn_int, tyn_str, tyn_tup, tyn_lst, negD, bitsD, isi_non_dict, isi_non_list, isi_non_tuple, isi_non_bool, isi_non_str, isi_non_int, isi_non_lt, is_non_non, isi_int_dict, isi_int_list, isi_int_tuple, isi_int_bool, isi_int_str, isi_int_int, isi_int_lt, is_int_non, isi_bl_dict, isi_bl_list, isi_bl_tuple, isi_bl_bool, isi_bl_str, isi_bl_int, isi_bl_lt, is_bl_non, isi_str_dict, isi_str_list, isi_str_tuple, isi_str_bool, isi_str_str, isi_str_int, isi_str_lt, is_str_non, isi_tup_dict, isi_tup_list, isi_tup_tuple, isi_tup_bool, isi_tup_str, isi_tup_int, isi_tup_lt, is_tup_non, isi_lst_dict, isi_lst_list, isi_lst_tuple, isi_lst_bool, isi_lst_str, isi_lst_int, isi_lst_lt, is_lst_non, isi_scr_dict, isi_scr_list, isi_scr_tuple, isi_scr_bool, isi_scr_str, isi_scr_int, isi_scr_lt, is_scr_non, eqD_bl, neD_bl, eqD_int]
    | str x =>
      have ox : PyData.strOk x = true := by
        rw [plD, Bool.and_eq_true] at hp
        exact asc_ok hp.2
      have e := eqD_str' ox ox (c := true) (by simp)
      unfold fn_l_same m_l_same; simp [thn_ok, thn_err, bindM_a, retM_a, seqK_n, seqK_r, seqK_b, seqK_c, seqM_a, setS_a, putM_d, putM_o, putM_s, slotM_a, opdM_a, opdK_d, opdK_s, opdK_o, datM_a, datK_d, datK_s, datK_o, resM_a, resK_d, resK_s, resK_o, retS_a, argsM_n, argsM_c, opsM_n, opsM_c, tupM_a, lstM_a, liftOp_a, app2_s, op2_a, app1_s, op1_a, appN_s, opN_a, iteK_t, iteK_f, ifS_a, ifM_a, optM_a, blM_a, isBl_b, truK_s, truM_a, notM_a, andM_a, orM_a, andK_t, andK_f, andV_a, orK_f, orK_t, orV_a, notK_s, notV_a, cD_a, dropM_a, agsM_n, agsM_v, agsM_r, callG_a, callK_s, callRet_s, callFin, callEnd_a, setIx_a, ownM_a, meth_a, nextK_s, asgK_n, asgK_t, asgM_a, parM_a, forS_a, rngM_a, enumM_a, zipK_tt, zipK_ll, zipM_a, srcM_a, slM_a, partM_n, partM_s, itM_a, bodyFn_a, bodyGo_m, bodyK_r, bodyK_n, bodyEnd, ixM_a, ixK_t, ixK_l, ixK_c, ixK_s, ixK_w, ixK_m, dispM_a, seqD_n, seqD_c, setCell_a, setIxS_a, putAtS_o, chainM_a, chG_s, chK_t, chK_f, putM_w, opdK_w, datK_w, resK_w, subD_i, mulD_i, fdivD_i, modD_i, powD_i, shrD_i, andD_i, partsM_n, partsM_c, keepM_a, keepK_o, keepK_d, keepK_s, keepK_w, parS_a, setAll_c, setAll_n, sumLM_a, enumTM_a, enumL1_t, enumL1_l, raiseM_a, raisM_a, callRet_e, bodyK_e, tryE_t, tryE_f, tryK_o, tryK_e, tryM_a, runX_n, runX_c, callL_a, lendRet2_s, lendRet_s, lendK_s, lendEnd_a, D.flat, Op.val, Op.toR, S.toR, vals, ssOf, slotsIn, ndp, putBack, pick, lentIs, outs, asgT, asgTs, D.tru, addD, lessD_i, lesseqD_i, moreD_i, moreeqD_i, ixD, lenD, absD, intF, maxF, minF, gcdD, listF, D.seqT, D.seqL, eqD_int', neD_int, isD_ty, nisD_ty, typeF_a, tyn_non, tyn_bl, tyn_int, tyn_str, tyn_tup, tyn_lst, negD, bitsD, isi_non_dict, isi_non_list, isi_non_tuple, isi_non_bool, isi_non_str, isi_non_int, isi_non_lt, is_non_non, isi_int_dict, isi_int_list, isi_int_tuple, isi_int_bool, isi_int_str, isi_int_int, isi_int_lt, is_int_non, isi_bl_dict, isi_bl_list, isi_bl_tuple, isi_bl_bool, isi_bl_str, isi_bl_int, isi_bl_lt, is_bl_non, isi_str_dict, isi_str_list, isi_str_tuple, isi_str_bool, isi_str_str, isi_str_int, isi_str_lt, is_str_non, isi_tup_dict, isi_tup_list, isi_tup_tuple, isi_tup_bool, isi_tup_str, isi_tup_int, isi_tup_lt, is_tup_non, isi_lst_dict, isi_lst_list, isi_lst_tuple, isi_lst_bool, isi_lst_str, isi_lst_int, isi_lst_lt, is_lst_non, isi_scr_dict, isi_scr_list, isi_scr_tuple, isi_scr_bool, isi_scr_str, isi_scr_int, isi_scr_lt, is_scr_non, eqD_bl, neD_bl, eqD_int, e]
    | tup xs =>
      have hp' : plDs xs = true := by rw [plD, Bool.and_eq_true] at hp; exact hp.2
      have hl : xs.length ≤ sizeLine := Nat.le_trans (show _ ≤ 100000 by rw [wtD] at hw; have := len_wt xs; omega) (by decide)
      have ih : ∀ y ∈ xs, fn_l_same n [.d y, .d y, .mem cs] = some (.ok (.d (.bl true)) [some (.d y), some (.d y), some (.mem cs)]) := fun y hy => same_all cs n y (plDs_mem hp' hy) (by rw [dpD] at hd; have := dpDs_mem hy; omega) (by rw [wtD] at hw; have := wt_mem hy; omega)
      have hc := same_comp (X := .tup xs) (.inl rfl) hl ih
      have a1 := all_map (fun _ => true) xs
      have a2 : (xs.all fun _ => true) = true := by simp
      rw [a2] at a1
      generalize (xs.map fun _ => D.bl true) = Y at *
      unfold fn_l_same m_l_same; simp [thn_ok, thn_err, bindM_a, retM_a, seqK_n, seqK_r, seqK_b, seqK_c, seqM_a, setS_a, putM_d, putM_o, putM_s, slotM_a, opdM_a, opdK_d, opdK_s, opdK_o, datM_a, datK_d, datK_s, datK_o, resM_a, resK_d, resK_s, resK_o, retS_a, argsM_n, argsM_c, opsM_n, opsM_c, tupM_a, lstM_a, liftOp_a, app2_s, op2_a, app1_s, op1_a, appN_s, opN_a, iteK_t, iteK_f, ifS_a, ifM_a, optM_a, blM_a, isBl_b, truK_s, truM_a, notM_a, andM_a, orM_a, andK_t, andK_f, andV_a, orK_f, orK_t, orV_a, notK_s, notV_a, cD_a, dropM_a, agsM_n, agsM_v, agsM_r, callG_a, callK_s, callRet_s, callFin, callEnd_a, setIx_a, ownM_a, meth_a, nextK_s, asgK_n, asgK_t, asgM_a, parM_a, forS_a, rngM_a, enumM_a, zipK_tt, zipK_ll, zipM_a, srcM_a, slM_a, partM_n, partM_s, itM_a, bodyFn_a, bodyGo_m, bodyK_r, bodyK_n, bodyEnd, ixM_a, ixK_t, ixK_l, ixK_c, ixK_s, ixK_w, ixK_m, dispM_a, seqD_n, seqD_c, setCell_a, setIxS_a, putAtS_o, chainM_a, chG_s, chK_t, chK_f, putM_w, opdK_w, datK_w, resK_w, subD_i, mulD_i, fdivD_i, modD_i, powD_i, shrD_i, andD_i, partsM_n, partsM_c, keepM_a, keepK_o, keepK_d, keepK_s, keepK_w, parS_a, setAll_c, setAll_n, sumLM_a, enumTM_a, enumL1_t, enumL1_l, raiseM_a, raisM_a, callRet_e, bodyK_e, tryE_t, tryE_f, tryK_o, tryK_e, tryM_a, runX_n, runX_c, callL_a, lendRet2_s, lendRet_s, lendK_s, lendEnd_a, D.flat, Op.val, Op.toR, S.toR, vals, ssOf, slotsIn, ndp, putBack, pick, lentIs, outs, asgT, asgTs, D.tru, addD, lessD_i, lesseqD_i, moreD_i, moreeqD_i, ixD, lenD, absD, intF, maxF, minF, gcdD, listF, D.seqT, D.seqL, eqD_int', neD_int, isD_ty, nisD_ty, typeF_a, tyn_non, tyn_bl, tyn_int, tyn_str, tyn_tup, tyn_lst, negD, bitsD, isi_non_dict, isi_non_list, isi_non_tuple, isi_non_bool, isi_non_str, isi_non_int, isi_non_lt, is_non_non, isi_int_dict, isi_int_list, isi_int_tuple, isi_int_bool, isi_int_str, isi_int_int, isi_int_lt, is_int_non, isi_bl_dict, isi_bl_list, isi_bl_tuple, isi_bl_bool, isi_bl_str, isi_bl_int, isi_bl_lt, is_bl_non, isi_str_dict, isi_str_list, isi_str_tuple, isi_str_bool, isi_str_str, isi_str_int, isi_str_lt, is_str_non, isi_tup_dict, isi_tup_list, isi_tup_tuple, isi_tup_bool, isi_tup_str, isi_tup_int, isi_tup_lt, is_tup_non, isi_lst_dict, isi_lst_list, isi_lst_tuple, isi_lst_bool, isi_lst_str, isi_lst_int, isi_lst_lt, is_lst_non, isi_scr_dict, isi_scr_list, isi_scr_tuple, isi_scr_bool, isi_scr_str, isi_scr_int, isi_scr_lt, is_scr_non, eqD_bl, neD_bl, eqD_int, hc, a1]
    | lst xs =>
      have hp' : plDs xs = true := by rw [plD, Bool.and_eq_true] at hp; exact hp.2
      have hl : xs.length ≤ sizeLine := Nat.le_trans (show _ ≤ 100000 by rw [wtD] at hw; have := len_wt xs; omega) (by decide)
      have ih : ∀ y ∈ xs, fn_l_same n [.d y, .d y, .mem cs] = some (.ok (.d (.bl true)) [some (.d y), some (.d y), some (.mem cs)]) := fun y hy => same_all cs n y (plDs_mem hp' hy) (by rw [dpD] at hd; have := dpDs_mem hy; omega) (by rw [wtD] at hw; have := wt_mem hy; omega)
      have hc := same_comp (X := .lst xs) (.inr rfl) hl ih
      have a1 := all_map (fun _ => true) xs
      have a2 : (xs.all fun _ => true) = true := by simp
      rw [a2] at a1
      generalize (xs.map fun _ => D.bl true) = Y at *
      unfold fn_l_same m_l_same; simp [thn_ok, thn_err, bindM_a, retM_a, seqK_n, seqK_r, seqK_b, seqK_c, seqM_a, setS_a, putM_d, putM_o, putM_s, slotM_a, opdM_a, opdK_d, opdK_s, opdK_o, datM_a, datK_d, datK_s, datK_o, resM_a, resK_d, resK_s, resK_o, retS_a, argsM_n, argsM_c, opsM_n, opsM_c, tupM_a, lstM_a, liftOp_a, app2_s, op2_a, app1_s, op1_a, appN_s, opN_a, iteK_t, iteK_f, ifS_a, ifM_a, optM_a, blM_a, isBl_b, truK_s, truM_a, notM_a, andM_a, orM_a, andK_t, andK_f, andV_a, orK_f, orK_t, orV_a, notK_s, notV_a, cD_a, dropM_a, agsM_n, agsM_v, agsM_r, callG_a, callK_s, callRet_s, callFin, callEnd_a, setIx_a, ownM_a, meth_a, nextK_s, asgK_n, asgK_t, asgM_a, parM_a, forS_a, rngM_a, enumM_a, zipK_tt, zipK_ll, zipM_a, srcM_a, slM_a, partM_n, partM_s, itM_a, bodyFn_a, bodyGo_m, bodyK_r, bodyK_n, bodyEnd, ixM_a, ixK_t, ixK_l, ixK_c, ixK_s, ixK_w, ixK_m, dispM_a, seqD_n, seqD_c, setCell_a, setIxS_a, putAtS_o, chainM_a, chG_s, chK_t, chK_f, putM_w, opdK_w, datK_w, resK_w, subD_i, mulD_i, fdivD_i, modD_i, powD_i, shrD_i, andD_i, partsM_n, partsM_c, keepM_a, keepK_o, keepK_d, keepK_s, keepK_w, parS_a, setAll_c, setAll_n, sumLM_a, enumTM_a, enumL1_t, enumL1_l, raiseM_a, raisM_a, callRet_e, bodyK_e, tryE_t, tryE_f, tryK_o, tryK_e, tryM_a, runX_n, runX_c, callL_a, lendRet2_s, lendRet_s, lendK_s, lendEnd_a, D.flat, Op.val, Op.toR, S.toR, vals, ssOf, slotsIn, ndp, putBack, pick, lentIs, outs, asgT, asgTs, D.tru, addD, lessD_i, lesseqD_i, moreD_i, moreeqD_i, ixD, lenD, absD, intF, maxF, minF, gcdD, listF, D.seqT, D.seqL, eqD_int', neD_int, isD_ty, nisD_ty, typeF_a, tyn_non, tyn_bl, tyn_int, tyn_str, tyn_tup, tyn_lst, negD, bitsD, isi_non_dict, isi_non_list, isi_non_tuple, isi_non_bool, isi_non_str, isi_non_int, isi_non_lt, is_non_non, isi_int_dict, isi_int_list, isi_int_tuple, isi_int_bool, isi_int_str, isi_int_int, isi_int_lt, is_int_non, isi_bl_dict, isi_bl_list, isi_bl_tuple, isi_bl_bool, isi_bl_str, isi_bl_int, isi_bl_lt, is_bl_non, isi_str_dict, isi_str_list, isi_str_tuple, isi_str_bool, isi_str_str, isi_str_int, isi_str_lt, is_str_non, isi_tup_dict, isi_tup_list, isi_tup_tuple, isi_tup_bool, isi_tup_str, isi_tup_int, isi_tup_lt, is_tup_non, isi_lst_dict, isi_lst_list, isi_lst_tuple, isi_lst_bool, isi_lst_str, isi_lst_int, isi_lst_lt, is_lst_non, isi_scr_dict, isi_scr_list, isi_scr_tuple, isi_scr_bool, isi_scr_str, isi_scr_int, isi_scr_lt, is_scr_non, eqD_bl, neD_bl, eqD_int, hc, a1]
    | _ => cases hp
end Ev

set_option Elab.async false
set_option linter.all false
set_option maxRecDepth 100000
namespace Ev
open PySem PySem.Spec PyProof.Rows L2
def exA (a : D) : List D := [.exc "BadText" ["text"] [a], .exc "BadWord" ["at"] [a], .exc "BadRow" ["row"] [a], .exc "BadName" ["name"] [a], .exc "BadTerm" ["thing"] [a], .exc "BadNumbers" ["thing"] [a], .exc "BadDeed" ["number"] [a], .exc "Clash" ["number"] [a], .exc "Loose" ["place"] [a], .exc "Round" ["ring"] [a], .exc "NoBrook" ["name"] [a], .exc "NoSpring" ["name"] [a], .exc "NoName" ["name"] [a], .exc "NoOut" ["out"] [a], .exc "NotGiven" ["name"] [a], .exc "NoPath" ["path"] [a], .exc "Dry" ["name"] [a], .exc "NotNow" ["at"] [a], .exc "Used" ["other"] [a], .exc "LastOut" ["name"] [a], .exc "IsOut" ["name"] [a], .exc "NotOut" ["name"] [a], .exc "Unsure" ["node"] [a], .exc "TooFar" ["place"] [a], .exc "TooFew" ["need"] [a], .exc "Small" ["place"] [a], .exc "TooMany" ["most"] [a], .exc "TooBig" [] []]
def ownA : List D := (List.range 28).map fun (k : Nat) => D.lst [D.int (k : Int)]
def highA : List D := [.lst [.str "value"], .lst [.str "value"], .lst [.str "value"], .lst [.str "value"], .lst [.str "value"], .lst [.str "value"], .lst [.str "value"], .lst [.str "value"], .lst [.str "value"], .lst [.str "value"], .lst [.str "key", .str "lookup"], .lst [.str "key", .str "lookup"], .lst [.str "key", .str "lookup"], .lst [.str "key", .str "lookup"], .lst [.str "key", .str "lookup"], .lst [.str "lookup"], .lst [.str "lookup"], .lst [.str "run"], .lst [.str "run"], .lst [.str "run"], .lst [.str "run"], .lst [.str "run"], .lst [.str "run"], .lst [.str "sums", .str "over"], .lst [.str "sums", .str "over"], .lst [.str "sums", .str "over"], .lst [.str "sums", .str "over"], .lst [.str "sums", .str "over"]]
theorem made_ok (a : D) (cs : List (List D)) : f_l_made.fn [.d a, .mem cs] = some (.ok (.own (exA a)) [some (.d a), some (.mem cs)]) := by kernel_rfl
theorem called_ok (a : D) (cs : List (List D)) : f_l_called.fn [.d a, .mem cs] = some (.ok (.own (exA a)) [some (.d a), some (.mem cs)]) := by kernel_rfl
theorem fields_ok (a : D) (cs : List (List D)) : f_l_fields.fn [.d (.lst (exA a)), .mem cs] = some (.ok (.own (List.replicate 27 a)) [some (.d (.lst (exA a))), some (.mem cs)]) := by kernel_rfl
theorem own_all (a : D) (cs : List (List D)) (s0 s1 s3 : Option S) : compM [4] (.nm 4) (srcM (slotM 2)) (retM true) (datM (callG 5 f_l_own.fn [0] [] [.val (slotM 4)] [])) [s0, s1, some (.d (.lst (exA a))), s3, none, some (.mem cs)] = some (.ok (.own ownA) [s0, s1, some (.d (.lst (exA a))), s3, none, some (.mem cs)]) := by kernel_rfl
theorem over_all (a : D) (cs : List (List D)) (s0 s1 s3 : Option S) : compM [4] (.nm 4) (srcM (slotM 2)) (retM true) (datM (callG 5 f_l_over.fn [0] [] [.val (slotM 4)] [])) [s0, s1, some (.d (.lst (exA a))), s3, none, some (.mem cs)] = some (.ok (.own highA) [s0, s1, some (.d (.lst (exA a))), s3, none, some (.mem cs)]) := by kernel_rfl
theorem rng_all (cs : List (List D)) (s0 s1 s2 s4 : Option S) : compM [3] (.nm 3) (rngM (cD (.int 28))) (retM true) (datM (lstM [(slotM 3)])) [s0, s1, s2, none, s4, some (.mem cs)] = some (.ok (.own ownA) [s0, s1, s2, none, s4, some (.mem cs)]) := by kernel_rfl
theorem ne_own : neD (.lst ownA) (.lst ownA) = some (.d (.bl false)) := by kernel_rfl
theorem ne_high : neD (.lst highA) (.lst highA) = some (.d (.bl false)) := by kernel_rfl
end Ev

set_option Elab.async false
set_option linter.all false
set_option maxRecDepth 100000
namespace Ev
open PySem PySem.Spec PyProof.Rows L2
/-- what is handed to the errors -/
def Pl (d : D) : Prop := plD d = true ∧ dpD d ≤ 5 ∧ wtD d ≤ 3000
theorem rep_facts {a : D} (h : Pl a) : ∀ n : Nat, plDs (List.replicate n a) = true ∧ dpDs (List.replicate n a) ≤ 5 ∧ wtDs (List.replicate n a) ≤ 3002 * n
  | 0 => ⟨rfl, Nat.zero_le _, Nat.zero_le _⟩
  | n + 1 => by
    obtain ⟨h1, h2, h3⟩ := rep_facts h n
    obtain ⟨a1, a2, a3⟩ := h
    rw [List.replicate_succ]
    refine ⟨by rw [plDs, a1, h1]; rfl, by rw [dpDs]; omega, ?_⟩
    rw [wtDs]; omega
theorem mul27 (a : D) : mulD (.lst [a]) (.int 27) = some (.own (List.replicate 27 a)) := by kernel_rfl
def highM : M R := op2 addD (op2 addD (op2 addD (op2 addD (op2 mulD (lstM [(lstM [(cD (.str "value"))])]) (cD (.int 10))) (op2 mulD (lstM [(lstM [(cD (.str "key")), (cD (.str "lookup"))])]) (cD (.int 5)))) (op2 mulD (lstM [(lstM [(cD (.str "lookup"))])]) (cD (.int 2)))) (op2 mulD (lstM [(lstM [(cD (.str "run"))])]) (cD (.int 6)))) (op2 mulD (lstM [(lstM [(cD (.str "sums")), (cD (.str "over"))])]) (cD (.int 5)))
theorem high_ok (s0 s2 s3 s4 : Option S) (cs : List (List D)) : highM [s0, none, s2, s3, s4, some (.mem cs)] = some (.ok (.own highA) [s0, none, s2, s3, s4, some (.mem cs)]) := by kernel_rfl
def bodyA : M Fl := (seqM (ifS (orM (blM (op2 neD (compM [4] (.nm 4) (srcM (slotM 2)) (retM true) (datM (callG 5 f_l_own.fn [0] [] [.val (slotM 4)] []))) (compM [3] (.nm 3) (rngM (cD (.int 28))) (retM true) (datM (lstM [(slotM 3)]))))) (blM (op2 neD (compM [4] (.nm 4) (srcM (slotM 2)) (retM true) (datM (callG 5 f_l_over.fn [0] [] [.val (slotM 4)] []))) (slotM 1)))) (seqM (retS (cD (.bl false))) (retM .next)) (retM .next)) (seqM (ifS (notM (truM (callG 5 f_l_same.fn [0, 1] [] [.val (callG 5 f_l_fields.fn [0] [] [.val (slotM 2)] []), .val (op2 mulD (lstM [(slotM 0)]) (cD (.int 27)))] []))) (seqM (retS (cD (.bl false))) (retM .next)) (retM .next)) (retM .next)))
theorem turnA {a : D} (h : Pl a) (cs : List (List D)) (s1 : Option S) (hs : s1 = some (.own highA) ∨ s1 = some (.d (.lst highA))) (s2 : Option S) :
    itM (.nm 2) (.lst (exA a)) bodyA [some (.d a), s1, s2, none, none, some (.mem cs)] = some (.ok .next [some (.d a), s1, some (.d (.lst (exA a))), none, none, some (.mem cs)]) := by
  have e1 := own_all a cs (some (.d a)) s1 none
  have e2 := rng_all cs (some (.d a)) s1 (some (.d (.lst (exA a)))) none
  have e3 := over_all a cs (some (.d a)) s1 none
  have e4 := fields_ok a cs
  obtain ⟨r1, r2, r3⟩ := rep_facts h 27
  have e5 : f_l_same.fn [.d (.lst (List.replicate 27 a)), .d (.lst (List.replicate 27 a)), .mem cs] = some (.ok (.d (.bl true)) [some (.d (.lst (List.replicate 27 a))), some (.d (.lst (List.replicate 27 a))), some (.mem cs)]) := same_all cs 40 _ (by rw [plD, r1]; simp) (by rw [dpD]; omega) (by rw [wtD]; omega)
  have n1 := ne_own
  have n2 := ne_high
  have m1 := mul27 a
  generalize List.replicate 27 a = RR at *
  generalize exA a = EA at *
  unfold bodyA
  rcases hs with rfl | rfl
  · simp [thn_ok, thn_err, bindM_a, retM_a, seqK_n, seqK_r, seqK_b, seqK_c, seqM_a, setS_a, putM_d, putM_o, putM_s, slotM_a, opdM_a, opdK_d, opdK_s, opdK_o, datM_a, datK_d, datK_s, datK_o, resM_a, resK_d, resK_s, resK_o, retS_a, argsM_n, argsM_c, opsM_n, opsM_c, tupM_a, lstM_a, liftOp_a, app2_s, op2_a, app1_s, op1_a, appN_s, opN_a, iteK_t, iteK_f, ifS_a, ifM_a, optM_a, blM_a, isBl_b, truK_s, truM_a, notM_a, andM_a, orM_a, andK_t, andK_f, andV_a, orK_f, orK_t, orV_a, notK_s, notV_a, cD_a, dropM_a, agsM_n, agsM_v, agsM_r, callG_a, callK_s, callRet_s, callFin, callEnd_a, setIx_a, ownM_a, meth_a, nextK_s, asgK_n, asgK_t, asgM_a, parM_a, forS_a, rngM_a, enumM_a, zipK_tt, zipK_ll, zipM_a, srcM_a, slM_a, partM_n, partM_s, itM_a, bodyFn_a, bodyGo_m, bodyK_r, bodyK_n, bodyEnd, ixM_a, ixK_t, ixK_l, ixK_c, ixK_s, ixK_w, ixK_m, dispM_a, seqD_n, seqD_c, setCell_a, setIxS_a, putAtS_o, chainM_a, chG_s, chK_t, chK_f, putM_w, opdK_w, datK_w, resK_w, subD_i, mulD_i, fdivD_i, modD_i, powD_i, shrD_i, andD_i, partsM_n, partsM_c, keepM_a, keepK_o, keepK_d, keepK_s, keepK_w, parS_a, setAll_c, setAll_n, sumLM_a, enumTM_a, enumL1_t, enumL1_l, raiseM_a, raisM_a, callRet_e, bodyK_e, tryE_t, tryE_f, tryK_o, tryK_e, tryM_a, runX_n, runX_c, callL_a, lendRet2_s, lendRet_s, lendK_s, lendEnd_a, D.flat, Op.val, Op.toR, S.toR, vals, ssOf, slotsIn, ndp, putBack, pick, lentIs, outs, asgT, asgTs, D.tru, addD, lessD_i, lesseqD_i, moreD_i, moreeqD_i, ixD, lenD, absD, intF, maxF, minF, gcdD, listF, D.seqT, D.seqL, eqD_int', neD_int, isD_ty, nisD_ty, typeF_a, tyn_non, tyn_bl, tyn_int, tyn_str, tyn_tup, tyn_lst, negD, bitsD, asgT, e1, e2, e3, e4, e5, n1, n2, m1]
  · simp [thn_ok, thn_err, bindM_a, retM_a, seqK_n, seqK_r, seqK_b, seqK_c, seqM_a, setS_a, putM_d, putM_o, putM_s, slotM_a, opdM_a, opdK_d, opdK_s, opdK_o, datM_a, datK_d, datK_s, datK_o, resM_a, resK_d, resK_s, resK_o, retS_a, argsM_n, argsM_c, opsM_n, opsM_c, tupM_a, lstM_a, liftOp_a, app2_s, op2_a, app1_s, op1_a, appN_s, opN_a, iteK_t, iteK_f, ifS_a, ifM_a, optM_a, blM_a, isBl_b, truK_s, truM_a, notM_a, andM_a, orM_a, andK_t, andK_f, andV_a, orK_f, orK_t, orV_a, notK_s, notV_a, cD_a, dropM_a, agsM_n, agsM_v, agsM_r, callG_a, callK_s, callRet_s, callFin, callEnd_a, setIx_a, ownM_a, meth_a, nextK_s, asgK_n, asgK_t, asgM_a, parM_a, forS_a, rngM_a, enumM_a, zipK_tt, zipK_ll, zipM_a, srcM_a, slM_a, partM_n, partM_s, itM_a, bodyFn_a, bodyGo_m, bodyK_r, bodyK_n, bodyEnd, ixM_a, ixK_t, ixK_l, ixK_c, ixK_s, ixK_w, ixK_m, dispM_a, seqD_n, seqD_c, setCell_a, setIxS_a, putAtS_o, chainM_a, chG_s, chK_t, chK_f, putM_w, opdK_w, datK_w, resK_w, subD_i, mulD_i, fdivD_i, modD_i, powD_i, shrD_i, andD_i, partsM_n, partsM_c, keepM_a, keepK_o, keepK_d, keepK_s, keepK_w, parS_a, setAll_c, setAll_n, sumLM_a, enumTM_a, enumL1_t, enumL1_l, raiseM_a, raisM_a, callRet_e, bodyK_e, tryE_t, tryE_f, tryK_o, tryK_e, tryM_a, runX_n, runX_c, callL_a, lendRet2_s, lendRet_s, lendK_s, lendEnd_a, D.flat, Op.val, Op.toR, S.toR, vals, ssOf, slotsIn, ndp, putBack, pick, lentIs, outs, asgT, asgTs, D.tru, addD, lessD_i, lesseqD_i, moreD_i, moreeqD_i, ixD, lenD, absD, intF, maxF, minF, gcdD, listF, D.seqT, D.seqL, eqD_int', neD_int, isD_ty, nisD_ty, typeF_a, tyn_non, tyn_bl, tyn_int, tyn_str, tyn_tup, tyn_lst, negD, bitsD, asgT, e1, e2, e3, e4, e5, n1, n2, m1]
end Ev

set_option Elab.async false
set_option linter.all false
set_option maxRecDepth 100000
namespace Ev
open PySem PySem.Spec PyProof.Rows L2
theorem forM_go {T : Tg} {d : D} {ds : List D} {body : M Fl} {δ δ2 : Dl} (e : itM T d body δ = some (.ok .next δ2)) : forM T body (d :: ds) δ = forM T body ds δ2 := by
  unfold itM at e
  conv => lhs; unfold forM
  cases ea : asgT T d δ with
  | none => rw [ea] at e; cases e
  | some δ1 =>
    rw [ea] at e
    have e' : body δ1 = some (.ok .next δ2) := e
    show bindM body _ δ1 = _
    unfold bindM
    rw [e']
theorem right_spec {a : D} (h : Pl a) (cs : List (List D)) : f_l_right.fn [.d a, .mem cs] = some (.ok (.d (.bl true)) [some (.d a), some (.mem cs)]) := by
  have e0 := high_ok (some (.d a)) none none none cs
  have e1 := made_ok a cs
  have e2 := called_ok a cs
  have t1 := turnA h cs (some (.own highA)) (.inl rfl) none
  have t2 := turnA h cs (some (.own highA)) (.inl rfl) (some (.d (.lst (exA a))))
  have e3 : forM (.nm 2) bodyA [.lst (exA a), .lst (exA a)] [some (.d a), some (.own highA), none, none, none, some (.mem cs)] = some (.ok .next [some (.d a), some (.own highA), some (.d (.lst (exA a))), none, none, some (.mem cs)]) := by
    rw [forM_go t1, forM_go t2]; rfl
  unfold bodyA at e3
  generalize exA a = EA at *
  generalize highA = HA at *
  have em : m_l_right = seqM (setS 1 highM) (seqM (forS (.nm 2) (srcM (tupM [(callG 5 f_l_made.fn [0] [] [.val (slotM 0)] []), (callG 5 f_l_called.fn [0] [] [.val (slotM 0)] [])])) bodyA) (seqM (retS (cD (.bl true))) (retM .next))) := rfl
  unfold f_l_right
  rw [em]
  unfold bodyA
  simp [thn_ok, thn_err, bindM_a, retM_a, seqK_n, seqK_r, seqK_b, seqK_c, seqM_a, setS_a, putM_d, putM_o, putM_s, slotM_a, opdM_a, opdK_d, opdK_s, opdK_o, datM_a, datK_d, datK_s, datK_o, resM_a, resK_d, resK_s, resK_o, retS_a, argsM_n, argsM_c, opsM_n, opsM_c, tupM_a, lstM_a, liftOp_a, app2_s, op2_a, app1_s, op1_a, appN_s, opN_a, iteK_t, iteK_f, ifS_a, ifM_a, optM_a, blM_a, isBl_b, truK_s, truM_a, notM_a, andM_a, orM_a, andK_t, andK_f, andV_a, orK_f, orK_t, orV_a, notK_s, notV_a, cD_a, dropM_a, agsM_n, agsM_v, agsM_r, callG_a, callK_s, callRet_s, callFin, callEnd_a, setIx_a, ownM_a, meth_a, nextK_s, asgK_n, asgK_t, asgM_a, parM_a, forS_a, rngM_a, enumM_a, zipK_tt, zipK_ll, zipM_a, srcM_a, slM_a, partM_n, partM_s, itM_a, bodyFn_a, bodyGo_m, bodyK_r, bodyK_n, bodyEnd, ixM_a, ixK_t, ixK_l, ixK_c, ixK_s, ixK_w, ixK_m, dispM_a, seqD_n, seqD_c, setCell_a, setIxS_a, putAtS_o, chainM_a, chG_s, chK_t, chK_f, putM_w, opdK_w, datK_w, resK_w, subD_i, mulD_i, fdivD_i, modD_i, powD_i, shrD_i, andD_i, partsM_n, partsM_c, keepM_a, keepK_o, keepK_d, keepK_s, keepK_w, parS_a, setAll_c, setAll_n, sumLM_a, enumTM_a, enumL1_t, enumL1_l, raiseM_a, raisM_a, callRet_e, bodyK_e, tryE_t, tryE_f, tryK_o, tryK_e, tryM_a, runX_n, runX_c, callL_a, lendRet2_s, lendRet_s, lendK_s, lendEnd_a, D.flat, Op.val, Op.toR, S.toR, vals, ssOf, slotsIn, ndp, putBack, pick, lentIs, outs, asgT, asgTs, D.tru, addD, lessD_i, lesseqD_i, moreD_i, moreeqD_i, ixD, lenD, absD, intF, maxF, minF, gcdD, listF, D.seqT, D.seqL, eqD_int', neD_int, isD_ty, nisD_ty, typeF_a, tyn_non, tyn_bl, tyn_int, tyn_str, tyn_tup, tyn_lst, negD, bitsD, e0, e1, e2, e3, srcD]
def oddL (r : Int) : List D := [.int r, .str "ann", .tup [.int 1, .int 2], .tup [.str "late", .tup [.int 1, .int 2], .tup [.str "name", .str "a"]], .lst [.str "get", .str "put"], .non, .str "", .tup [], .str "1/2", .int (-3)]
theorem odd_pl {r : Int} (h0 : 0 ≤ r) (h1 : r < 1000000) {d : D} (hd : d ∈ oddL r) : Pl d := by
  unfold oddL at hd
  simp only [List.mem_cons, List.not_mem_nil, or_false] at hd
  rcases hd with rfl | rfl | rfl | rfl | rfl | rfl | rfl | rfl | rfl | rfl
  · exact ⟨by rw [plD]; exact decide_eq_true (by omega), by rw [dpD]; omega, by rw [wtD]; omega⟩
  all_goals exact ⟨by decide +kernel, by decide +kernel, by decide +kernel⟩
theorem odd_spec {b : List D} {k : Int} (hb : Bx b k) (hk : k ≤ 2 ^ 38) (cs : List (List D)) : ∃ d b', f_l_odd.fn [.own b, .mem cs] = some (.ok (.d d) [some (.own b'), some (.mem cs)]) ∧ Bx b' (k + 2) ∧ Pl d := by
  obtain ⟨r, b1, e1, h1, r0, r1⟩ := take_spec hb (by omega) (m := 1000000) (by decide) (by decide) cs
  obtain ⟨i, b2, e2, h2, i0, i1⟩ := take_spec h1 (by omega) (m := 10) (by decide) (by decide) cs
  obtain ⟨n, rfl⟩ := Int.eq_ofNat_of_zero_le i0
  have hp : powC 10 6 = true := by decide
  have hn : n < 10 := by omega
  have hat : (oddL r)[n]? = some (oddL r)[n] := List.getElem?_eq_getElem (by show n < 10; exact hn)
  have ha : atI (oddL r) (n : Int) = some (oddL r)[n] := at_nat rfl hat
  refine ⟨(oddL r)[n], b2, ?_, h2.mono (by omega), odd_pl r0 r1 (List.getElem_mem _)⟩
  generalize (oddL r)[n] = d at *
  unfold oddL at ha
  unfold f_l_odd m_l_odd
  have z : 10 ≤ sizeLine := by decide
  simp [thn_ok, thn_err, bindM_a, retM_a, seqK_n, seqK_r, seqK_b, seqK_c, seqM_a, setS_a, putM_d, putM_o, putM_s, slotM_a, opdM_a, opdK_d, opdK_s, opdK_o, datM_a, datK_d, datK_s, datK_o, resM_a, resK_d, resK_s, resK_o, retS_a, argsM_n, argsM_c, opsM_n, opsM_c, tupM_a, lstM_a, liftOp_a, app2_s, op2_a, app1_s, op1_a, appN_s, opN_a, iteK_t, iteK_f, ifS_a, ifM_a, optM_a, blM_a, isBl_b, truK_s, truM_a, notM_a, andM_a, orM_a, andK_t, andK_f, andV_a, orK_f, orK_t, orV_a, notK_s, notV_a, cD_a, dropM_a, agsM_n, agsM_v, agsM_r, callG_a, callK_s, callRet_s, callFin, callEnd_a, setIx_a, ownM_a, meth_a, nextK_s, asgK_n, asgK_t, asgM_a, parM_a, forS_a, rngM_a, enumM_a, zipK_tt, zipK_ll, zipM_a, srcM_a, slM_a, partM_n, partM_s, itM_a, bodyFn_a, bodyGo_m, bodyK_r, bodyK_n, bodyEnd, ixM_a, ixK_t, ixK_l, ixK_c, ixK_s, ixK_w, ixK_m, dispM_a, seqD_n, seqD_c, setCell_a, setIxS_a, putAtS_o, chainM_a, chG_s, chK_t, chK_f, putM_w, opdK_w, datK_w, resK_w, subD_i, mulD_i, fdivD_i, modD_i, powD_i, shrD_i, andD_i, partsM_n, partsM_c, keepM_a, keepK_o, keepK_d, keepK_s, keepK_w, parS_a, setAll_c, setAll_n, sumLM_a, enumTM_a, enumL1_t, enumL1_l, raiseM_a, raisM_a, callRet_e, bodyK_e, tryE_t, tryE_f, tryK_o, tryK_e, tryM_a, runX_n, runX_c, callL_a, lendRet2_s, lendRet_s, lendK_s, lendEnd_a, D.flat, Op.val, Op.toR, S.toR, vals, ssOf, slotsIn, ndp, putBack, pick, lentIs, outs, asgT, asgTs, D.tru, addD, lessD_i, lesseqD_i, moreD_i, moreeqD_i, ixD, lenD, absD, intF, maxF, minF, gcdD, listF, D.seqT, D.seqL, eqD_int', neD_int, isD_ty, nisD_ty, typeF_a, tyn_non, tyn_bl, tyn_int, tyn_str, tyn_tup, tyn_lst, negD, bitsD, e1, e2, hp, ha, ixK, z]
end Ev

set_option Elab.async false
set_option linter.all false
set_option maxRecDepth 100000
namespace Ev
open PySem PySem.Spec PyProof.Rows L2
def teO : M D := datM (callG 6 f_l_right.fn [0] [] [.val (callG 6 f_l_odd.fn [0] [] [.rf 4] [])] [])
theorem comp_odd {b : List D} (hb : Bx b 0) (cs : List (List D)) (s0 s1 s2 s3 : Option S) : ∃ b', compM [5] (.nm 5) (rngM (cD (.int 8))) (retM true) teO [s0, s1, s2, s3, some (.own b), none, some (.mem cs)] = some (.ok (.own (List.replicate 8 (.bl true))) [s0, s1, s2, s3, some (.own b'), none, some (.mem cs)]) := by
  have hr := fun δ => rngK_n δ 8 8 rfl (by decide)
  obtain ⟨out, δe, e, l, rfl, b', _, rfl⟩ := compM_inv (vs := [5]) (T := .nm 5) (te := teO) (src := rngM (cD (.int 8))) (δ := [s0, s1, s2, s3, some (.own b), none, some (.mem cs)]) (δs := [s0, s1, s2, s3, some (.own b), none, some (.mem cs)]) (ds := rngD 0 8) (by simp [thn_ok, thn_err, bindM_a, retM_a, seqK_n, seqK_r, seqK_b, seqK_c, seqM_a, setS_a, putM_d, putM_o, putM_s, slotM_a, opdM_a, opdK_d, opdK_s, opdK_o, datM_a, datK_d, datK_s, datK_o, resM_a, resK_d, resK_s, resK_o, retS_a, argsM_n, argsM_c, opsM_n, opsM_c, tupM_a, lstM_a, liftOp_a, app2_s, op2_a, app1_s, op1_a, appN_s, opN_a, iteK_t, iteK_f, ifS_a, ifM_a, optM_a, blM_a, isBl_b, truK_s, truM_a, notM_a, andM_a, orM_a, andK_t, andK_f, andV_a, orK_f, orK_t, orV_a, notK_s, notV_a, cD_a, dropM_a, agsM_n, agsM_v, agsM_r, callG_a, callK_s, callRet_s, callFin, callEnd_a, setIx_a, ownM_a, meth_a, nextK_s, asgK_n, asgK_t, asgM_a, parM_a, forS_a, rngM_a, enumM_a, zipK_tt, zipK_ll, zipM_a, srcM_a, slM_a, partM_n, partM_s, itM_a, bodyFn_a, bodyGo_m, bodyK_r, bodyK_n, bodyEnd, ixM_a, ixK_t, ixK_l, ixK_c, ixK_s, ixK_w, ixK_m, dispM_a, seqD_n, seqD_c, setCell_a, setIxS_a, putAtS_o, chainM_a, chG_s, chK_t, chK_f, putM_w, opdK_w, datK_w, resK_w, subD_i, mulD_i, fdivD_i, modD_i, powD_i, shrD_i, andD_i, partsM_n, partsM_c, keepM_a, keepK_o, keepK_d, keepK_s, keepK_w, parS_a, setAll_c, setAll_n, sumLM_a, enumTM_a, enumL1_t, enumL1_l, raiseM_a, raisM_a, callRet_e, bodyK_e, tryE_t, tryE_f, tryK_o, tryK_e, tryM_a, runX_n, runX_c, callL_a, lendRet2_s, lendRet_s, lendK_s, lendEnd_a, D.flat, Op.val, Op.toR, S.toR, vals, ssOf, slotsIn, ndp, putBack, pick, lentIs, outs, asgT, asgTs, D.tru, addD, lessD_i, lesseqD_i, moreD_i, moreeqD_i, ixD, lenD, absD, intF, maxF, minF, gcdD, listF, D.seqT, D.seqL, eqD_int', neD_int, isD_ty, nisD_ty, typeF_a, tyn_non, tyn_bl, tyn_int, tyn_str, tyn_tup, tyn_lst, negD, bitsD, hr]) (by simp [noOwn]) (fun i acc δ => acc = List.replicate i (.bl true) ∧ ∃ b', Bx b' (2 * (i : Int)) ∧ δ = [s0, s1, s2, s3, some (.own b'), none, some (.mem cs)]) ⟨rfl, b, by simpa using hb, by simp [wipeD]⟩ (by rw [rngD_len]; decide) (by
    rintro i d acc δ hd ⟨rfl, b1, h1, rfl⟩
    obtain ⟨rfl, hi⟩ := rngD_at hd
    obtain ⟨a, b2, e1, h2, ha⟩ := odd_spec h1 (by omega) cs
    have e2 := right_spec ha cs
    refine ⟨.bl true, [s0, s1, s2, s3, some (.own b2), some (.d (.int (0 + (i : Int)))), some (.mem cs)], ?_, by rw [List.replicate_succ'], b2, h2.mono (by omega), by simp [wipeD]⟩
    unfold teO
    simp [thn_ok, thn_err, bindM_a, retM_a, seqK_n, seqK_r, seqK_b, seqK_c, seqM_a, setS_a, putM_d, putM_o, putM_s, slotM_a, opdM_a, opdK_d, opdK_s, opdK_o, datM_a, datK_d, datK_s, datK_o, resM_a, resK_d, resK_s, resK_o, retS_a, argsM_n, argsM_c, opsM_n, opsM_c, tupM_a, lstM_a, liftOp_a, app2_s, op2_a, app1_s, op1_a, appN_s, opN_a, iteK_t, iteK_f, ifS_a, ifM_a, optM_a, blM_a, isBl_b, truK_s, truM_a, notM_a, andM_a, orM_a, andK_t, andK_f, andV_a, orK_f, orK_t, orV_a, notK_s, notV_a, cD_a, dropM_a, agsM_n, agsM_v, agsM_r, callG_a, callK_s, callRet_s, callFin, callEnd_a, setIx_a, ownM_a, meth_a, nextK_s, asgK_n, asgK_t, asgM_a, parM_a, forS_a, rngM_a, enumM_a, zipK_tt, zipK_ll, zipM_a, srcM_a, slM_a, partM_n, partM_s, itM_a, bodyFn_a, bodyGo_m, bodyK_r, bodyK_n, bodyEnd, ixM_a, ixK_t, ixK_l, ixK_c, ixK_s, ixK_w, ixK_m, dispM_a, seqD_n, seqD_c, setCell_a, setIxS_a, putAtS_o, chainM_a, chG_s, chK_t, chK_f, putM_w, opdK_w, datK_w, resK_w, subD_i, mulD_i, fdivD_i, modD_i, powD_i, shrD_i, andD_i, partsM_n, partsM_c, keepM_a, keepK_o, keepK_d, keepK_s, keepK_w, parS_a, setAll_c, setAll_n, sumLM_a, enumTM_a, enumL1_t, enumL1_l, raiseM_a, raisM_a, callRet_e, bodyK_e, tryE_t, tryE_f, tryK_o, tryK_e, tryM_a, runX_n, runX_c, callL_a, lendRet2_s, lendRet_s, lendK_s, lendEnd_a, D.flat, Op.val, Op.toR, S.toR, vals, ssOf, slotsIn, ndp, putBack, pick, lentIs, outs, asgT, asgTs, D.tru, addD, lessD_i, lesseqD_i, moreD_i, moreeqD_i, ixD, lenD, absD, intF, maxF, minF, gcdD, listF, D.seqT, D.seqL, eqD_int', neD_int, isD_ty, nisD_ty, typeF_a, tyn_non, tyn_bl, tyn_int, tyn_str, tyn_tup, tyn_lst, negD, bitsD, asgT, e1, e2])
  refine ⟨b', ?_⟩
  rw [e, rngD_len]
  simp [backD]
def bodyL : M Fl := (seqM (setS 4 (callG 6 f_l_dip.fn [0, 1] [] [.val (slotM 1), .val (slotM 2)] [])) (seqM (ifS (notM (truM (opN (boolsD (·.all id)) [(compM [5] (.nm 5) (rngM (cD (.int 8))) (retM true) teO)]))) (seqM (retS (cD (.bl false))) (retM .next)) (retM .next)) (retM .next)))
theorem law_of : TrueFn f_law.fn := by
  intro ns hl _
  obtain ⟨ys, hy, e1⟩ := folded_spec ns hl []
  have ha : boolsD (·.all id) [.lst (List.replicate 8 (D.bl true))] = some (.d (.bl true)) := by kernel_rfl
  have hr := fun δ => rngK_n δ (1 + ys.length) (1 + ys.length) (by omega) (by omega)
  obtain ⟨δ', e, s1, s2, s4, hs, rfl⟩ := forM0 (T := .nm 2) (body := bodyL) (fun i δ => ∃ s1 s2 s4, (s1 = some (.own (ys.map D.int)) ∨ s1 = some (.d (.lst (ys.map D.int)))) ∧ δ = [some (.d (.scr (ns.map D.int))), s1, s2, none, s4, none, some (.mem [])]) (rngD 0 (1 + ys.length)) [some (.d (.scr (ns.map D.int))), some (.own (ys.map D.int)), none, none, none, none, some (.mem [])] ⟨_, none, none, .inl rfl, rfl⟩ (by
    rintro i d δ hd ⟨s1, s2, s4, hs, rfl⟩
    obtain ⟨rfl, hi⟩ := rngD_at hd
    obtain ⟨b, hb, e2⟩ := dip_spec ys hy i (by omega) []
    obtain ⟨b', e3⟩ := comp_odd hb [] (some (.d (.scr (ns.map D.int)))) (some (.d (.lst (ys.map D.int)))) (some (.d (.int (i : Int)))) none
    refine ⟨_, ?_, some (.d (.lst (ys.map D.int))), some (.d (.int (i : Int))), some (.own b'), .inr rfl, rfl⟩
    rw [Int.zero_add]
    generalize ns.map D.int = NS at *
    generalize ys.map D.int = YS at *
    generalize List.replicate 8 (D.bl true) = TR at *
    unfold bodyL
    rcases hs with rfl | rfl
    · simp [thn_ok, thn_err, bindM_a, retM_a, seqK_n, seqK_r, seqK_b, seqK_c, seqM_a, setS_a, putM_d, putM_o, putM_s, slotM_a, opdM_a, opdK_d, opdK_s, opdK_o, datM_a, datK_d, datK_s, datK_o, resM_a, resK_d, resK_s, resK_o, retS_a, argsM_n, argsM_c, opsM_n, opsM_c, tupM_a, lstM_a, liftOp_a, app2_s, op2_a, app1_s, op1_a, appN_s, opN_a, iteK_t, iteK_f, ifS_a, ifM_a, optM_a, blM_a, isBl_b, truK_s, truM_a, notM_a, andM_a, orM_a, andK_t, andK_f, andV_a, orK_f, orK_t, orV_a, notK_s, notV_a, cD_a, dropM_a, agsM_n, agsM_v, agsM_r, callG_a, callK_s, callRet_s, callFin, callEnd_a, setIx_a, ownM_a, meth_a, nextK_s, asgK_n, asgK_t, asgM_a, parM_a, forS_a, rngM_a, enumM_a, zipK_tt, zipK_ll, zipM_a, srcM_a, slM_a, partM_n, partM_s, itM_a, bodyFn_a, bodyGo_m, bodyK_r, bodyK_n, bodyEnd, ixM_a, ixK_t, ixK_l, ixK_c, ixK_s, ixK_w, ixK_m, dispM_a, seqD_n, seqD_c, setCell_a, setIxS_a, putAtS_o, chainM_a, chG_s, chK_t, chK_f, putM_w, opdK_w, datK_w, resK_w, subD_i, mulD_i, fdivD_i, modD_i, powD_i, shrD_i, andD_i, partsM_n, partsM_c, keepM_a, keepK_o, keepK_d, keepK_s, keepK_w, parS_a, setAll_c, setAll_n, sumLM_a, enumTM_a, enumL1_t, enumL1_l, raiseM_a, raisM_a, callRet_e, bodyK_e, tryE_t, tryE_f, tryK_o, tryK_e, tryM_a, runX_n, runX_c, callL_a, lendRet2_s, lendRet_s, lendK_s, lendEnd_a, D.flat, Op.val, Op.toR, S.toR, vals, ssOf, slotsIn, ndp, putBack, pick, lentIs, outs, asgT, asgTs, D.tru, addD, lessD_i, lesseqD_i, moreD_i, moreeqD_i, ixD, lenD, absD, intF, maxF, minF, gcdD, listF, D.seqT, D.seqL, eqD_int', neD_int, isD_ty, nisD_ty, typeF_a, tyn_non, tyn_bl, tyn_int, tyn_str, tyn_tup, tyn_lst, negD, bitsD, asgT, e2, e3, ha]
    · simp [thn_ok, thn_err, bindM_a, retM_a, seqK_n, seqK_r, seqK_b, seqK_c, seqM_a, setS_a, putM_d, putM_o, putM_s, slotM_a, opdM_a, opdK_d, opdK_s, opdK_o, datM_a, datK_d, datK_s, datK_o, resM_a, resK_d, resK_s, resK_o, retS_a, argsM_n, argsM_c, opsM_n, opsM_c, tupM_a, lstM_a, liftOp_a, app2_s, op2_a, app1_s, op1_a, appN_s, opN_a, iteK_t, iteK_f, ifS_a, ifM_a, optM_a, blM_a, isBl_b, truK_s, truM_a, notM_a, andM_a, orM_a, andK_t, andK_f, andV_a, orK_f, orK_t, orV_a, notK_s, notV_a, cD_a, dropM_a, agsM_n, agsM_v, agsM_r, callG_a, callK_s, callRet_s, callFin, callEnd_a, setIx_a, ownM_a, meth_a, nextK_s, asgK_n, asgK_t, asgM_a, parM_a, forS_a, rngM_a, enumM_a, zipK_tt, zipK_ll, zipM_a, srcM_a, slM_a, partM_n, partM_s, itM_a, bodyFn_a, bodyGo_m, bodyK_r, bodyK_n, bodyEnd, ixM_a, ixK_t, ixK_l, ixK_c, ixK_s, ixK_w, ixK_m, dispM_a, seqD_n, seqD_c, setCell_a, setIxS_a, putAtS_o, chainM_a, chG_s, chK_t, chK_f, putM_w, opdK_w, datK_w, resK_w, subD_i, mulD_i, fdivD_i, modD_i, powD_i, shrD_i, andD_i, partsM_n, partsM_c, keepM_a, keepK_o, keepK_d, keepK_s, keepK_w, parS_a, setAll_c, setAll_n, sumLM_a, enumTM_a, enumL1_t, enumL1_l, raiseM_a, raisM_a, callRet_e, bodyK_e, tryE_t, tryE_f, tryK_o, tryK_e, tryM_a, runX_n, runX_c, callL_a, lendRet2_s, lendRet_s, lendK_s, lendEnd_a, D.flat, Op.val, Op.toR, S.toR, vals, ssOf, slotsIn, ndp, putBack, pick, lentIs, outs, asgT, asgTs, D.tru, addD, lessD_i, lesseqD_i, moreD_i, moreeqD_i, ixD, lenD, absD, intF, maxF, minF, gcdD, listF, D.seqT, D.seqL, eqD_int', neD_int, isD_ty, nisD_ty, typeF_a, tyn_non, tyn_bl, tyn_int, tyn_str, tyn_tup, tyn_lst, negD, bitsD, asgT, e2, e3, ha])
  have e4 := l_keywords_spec []
  have e5 : f_l_same.fn [.d (.lst [k_KEYWORDS, .int 8, .int 120, .int 24, .int 8, .int 6, .int 300]), .d (.lst [k_KEYWORDS, .int 8, .int 120, .int 24, .int 8, .int 6, .int 300]), .mem []] = some (.ok (.d (.bl true)) [some (.d (.lst [k_KEYWORDS, .int 8, .int 120, .int 24, .int 8, .int 6, .int 300])), some (.d (.lst [k_KEYWORDS, .int 8, .int 120, .int 24, .int 8, .int 6, .int 300])), some (.mem [])]) := same_all [] 40 _ (by decide +kernel) (by decide +kernel) (by decide +kernel)
  have ek : D.tup (KW.map D.str) = k_KEYWORDS := by kernel_rfl
  have et : tupleF [.lst (KW.map D.str)] = some (.d (.tup (KW.map D.str))) := by kernel_rfl
  rw [ek] at et
  have f1 : k_SIZE = .int 8 := rfl
  have f2 : k_MOST_BOXES = .int 120 := rfl
  have f3 : k_WIDE = .int 24 := rfl
  have f4 : k_FIGURES = .int 8 := rfl
  have f5 : k_FINE = .int 6 := rfl
  have f6 : k_MOST_WAYS = .int 300 := rfl
  refine ⟨[some (.d (.scr (ns.map D.int))), some (.mem [])], ?_⟩
  unfold bodyL teO at e
  generalize KW.map D.str = KD at *
  generalize ns.map D.int = NS at *
  unfold f_law m_law
  rw [f1, f2, f3, f4, f5, f6]
  rcases hs with rfl | rfl
  · simp [thn_ok, thn_err, bindM_a, retM_a, seqK_n, seqK_r, seqK_b, seqK_c, seqM_a, setS_a, putM_d, putM_o, putM_s, slotM_a, opdM_a, opdK_d, opdK_s, opdK_o, datM_a, datK_d, datK_s, datK_o, resM_a, resK_d, resK_s, resK_o, retS_a, argsM_n, argsM_c, opsM_n, opsM_c, tupM_a, lstM_a, liftOp_a, app2_s, op2_a, app1_s, op1_a, appN_s, opN_a, iteK_t, iteK_f, ifS_a, ifM_a, optM_a, blM_a, isBl_b, truK_s, truM_a, notM_a, andM_a, orM_a, andK_t, andK_f, andV_a, orK_f, orK_t, orV_a, notK_s, notV_a, cD_a, dropM_a, agsM_n, agsM_v, agsM_r, callG_a, callK_s, callRet_s, callFin, callEnd_a, setIx_a, ownM_a, meth_a, nextK_s, asgK_n, asgK_t, asgM_a, parM_a, forS_a, rngM_a, enumM_a, zipK_tt, zipK_ll, zipM_a, srcM_a, slM_a, partM_n, partM_s, itM_a, bodyFn_a, bodyGo_m, bodyK_r, bodyK_n, bodyEnd, ixM_a, ixK_t, ixK_l, ixK_c, ixK_s, ixK_w, ixK_m, dispM_a, seqD_n, seqD_c, setCell_a, setIxS_a, putAtS_o, chainM_a, chG_s, chK_t, chK_f, putM_w, opdK_w, datK_w, resK_w, subD_i, mulD_i, fdivD_i, modD_i, powD_i, shrD_i, andD_i, partsM_n, partsM_c, keepM_a, keepK_o, keepK_d, keepK_s, keepK_w, parS_a, setAll_c, setAll_n, sumLM_a, enumTM_a, enumL1_t, enumL1_l, raiseM_a, raisM_a, callRet_e, bodyK_e, tryE_t, tryE_f, tryK_o, tryK_e, tryM_a, runX_n, runX_c, callL_a, lendRet2_s, lendRet_s, lendK_s, lendEnd_a, D.flat, Op.val, Op.toR, S.toR, vals, ssOf, slotsIn, ndp, putBack, pick, lentIs, outs, asgT, asgTs, D.tru, addD, lessD_i, lesseqD_i, moreD_i, moreeqD_i, ixD, lenD, absD, intF, maxF, minF, gcdD, listF, D.seqT, D.seqL, eqD_int', neD_int, isD_ty, nisD_ty, typeF_a, tyn_non, tyn_bl, tyn_int, tyn_str, tyn_tup, tyn_lst, negD, bitsD, e1, hr, e, e4, e5, et]
  · simp [thn_ok, thn_err, bindM_a, retM_a, seqK_n, seqK_r, seqK_b, seqK_c, seqM_a, setS_a, putM_d, putM_o, putM_s, slotM_a, opdM_a, opdK_d, opdK_s, opdK_o, datM_a, datK_d, datK_s, datK_o, resM_a, resK_d, resK_s, resK_o, retS_a, argsM_n, argsM_c, opsM_n, opsM_c, tupM_a, lstM_a, liftOp_a, app2_s, op2_a, app1_s, op1_a, appN_s, opN_a, iteK_t, iteK_f, ifS_a, ifM_a, optM_a, blM_a, isBl_b, truK_s, truM_a, notM_a, andM_a, orM_a, andK_t, andK_f, andV_a, orK_f, orK_t, orV_a, notK_s, notV_a, cD_a, dropM_a, agsM_n, agsM_v, agsM_r, callG_a, callK_s, callRet_s, callFin, callEnd_a, setIx_a, ownM_a, meth_a, nextK_s, asgK_n, asgK_t, asgM_a, parM_a, forS_a, rngM_a, enumM_a, zipK_tt, zipK_ll, zipM_a, srcM_a, slM_a, partM_n, partM_s, itM_a, bodyFn_a, bodyGo_m, bodyK_r, bodyK_n, bodyEnd, ixM_a, ixK_t, ixK_l, ixK_c, ixK_s, ixK_w, ixK_m, dispM_a, seqD_n, seqD_c, setCell_a, setIxS_a, putAtS_o, chainM_a, chG_s, chK_t, chK_f, putM_w, opdK_w, datK_w, resK_w, subD_i, mulD_i, fdivD_i, modD_i, powD_i, shrD_i, andD_i, partsM_n, partsM_c, keepM_a, keepK_o, keepK_d, keepK_s, keepK_w, parS_a, setAll_c, setAll_n, sumLM_a, enumTM_a, enumL1_t, enumL1_l, raiseM_a, raisM_a, callRet_e, bodyK_e, tryE_t, tryE_f, tryK_o, tryK_e, tryM_a, runX_n, runX_c, callL_a, lendRet2_s, lendRet_s, lendK_s, lendEnd_a, D.flat, Op.val, Op.toR, S.toR, vals, ssOf, slotsIn, ndp, putBack, pick, lentIs, outs, asgT, asgTs, D.tru, addD, lessD_i, lesseqD_i, moreD_i, moreeqD_i, ixD, lenD, absD, intF, maxF, minF, gcdD, listF, D.seqT, D.seqL, eqD_int', neD_int, isD_ty, nisD_ty, typeF_a, tyn_non, tyn_bl, tyn_int, tyn_str, tyn_tup, tyn_lst, negD, bitsD, e1, hr, e, e4, e5, et]
end Ev

set_option Elab.async false
set_option linter.all false
set_option maxRecDepth 100000
open PySem PySem.W PyProof.Rows in
set_option maxRecDepth 100000 in
set_option maxHeartbeats 0 in
theorem PySem.Challenge.cw_brookworks_k01_refusals_and_limits_holds : PySem.Challenge.rw_brookworks_k01_refusals_and_limits.Holds := by
  w_on; o_law; k_head; (case hw => w_witness2)
  k_fill
  refine Ev.walkG (l := PySem.Challenge.rw_brookworks_k01_refusals_and_limits) (k := 43) (x := "_law_script") rfl rfl ⟨rfl, by decide, by decide⟩ (fun w h Y => PySem.W.kIn_of Y) ?F
  case F =>
    intro w mg fa h KX G hmg
    obtain ⟨fd, h1, h2⟩ := Ev.ok_law (P := PySem.Challenge.rw_brookworks_k01_refusals_and_limits.prog) (w := w) KX G (by unfold Ev.SaysE; kernel_rfl) hmg
    exact ⟨fd, h1, fun base => ((h2 base).imp (Ev.law_sp (g := ⟨_, mg, w⟩) Ev.law_of))⟩
